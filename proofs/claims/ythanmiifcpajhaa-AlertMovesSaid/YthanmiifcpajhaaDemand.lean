/-
  Contracts: demand, slack; the reference's demand; the least slack and the first overfull stretch in plain words.
-/
import Derived.Test.YthanmiifcpajhaaStretch
set_option linter.unusedVariables false
set_option linter.unusedSimpArgs false
namespace Go.Proofs.Ythanmiifcpajhaa
open Go Go.RowKit

theorem dmN_yes {ts : List (Int × Int × Int)} {a b : Int} {k : Nat} (h : inS ts a b k = true) : dmN ts a b (k + 1) = dmN ts a b k + wkI ts k := by
  show dmN ts a b k + (if inS ts a b k = true then wkI ts k else 0) = _
  rw [if_pos h]
theorem dmN_no {ts : List (Int × Int × Int)} {a b : Int} {k : Nat} (h : inS ts a b k = false) : dmN ts a b (k + 1) = dmN ts a b k := by
  show dmN ts a b k + (if inS ts a b k = true then wkI ts k else 0) = _
  rw [if_neg (by rw [h]; exact Bool.false_ne_true)]; omega
theorem dmN_bd {ts : List (Int × Int × Int)} (hv : vaB ts = true) (a b : Int) : ∀ k, k ≤ ts.length → 0 ≤ dmN ts a b k ∧ dmN ts a b k ≤ 100 * k
  | 0, _ => by show (0 : Int) ≤ 0 ∧ (0 : Int) ≤ _; omega
  | k + 1, h => by
    have ih := dmN_bd hv a b k (by omega)
    have hw := va_at hv (show k < ts.length by omega)
    cases hs : inS ts a b k with
    | true => rw [dmN_yes hs]; omega
    | false => rw [dmN_no hs]; omega
theorem dm_bd {ts : List (Int × Int × Int)} (hv : vaB ts = true) (a b : Int) : 0 ≤ dmI ts a b ∧ dmI ts a b ≤ 1200 := by
  have := dmN_bd hv a b ts.length (Nat.le_refl _)
  have := va_len hv
  show 0 ≤ dmN ts a b ts.length ∧ dmN ts a b ts.length ≤ 1200
  omega
theorem inS_eq {ts : List (Int × Int × Int)} {k : Nat} {x y z : Int} (h : ts[k]? = some (x, y, z)) (a b : Int) : inS ts a b k = (decide (a ≤ x) && decide (y ≤ b)) := by
  have := getT_parts h
  rw [inS, this.1, this.2.1]

set_option maxRecDepth 100000 in
set_option maxHeartbeats 1000000 in
theorem demand_any (ts : List (Int × Int × Int)) (A : Option Addr) (cap : Nat) (a b : Int) (w : World) (h : Marks w A ts) (hv : vaB ts = true) :
    Calls Try.prog 72 #[.slice A ts.length cap, .int .i64 a, .int .i64 b] w fun e w' => e = .returned (.int .i64 (dmI ts a b)) ∧ Below w.heap.size w w' := by
  have H := Lib.hid h
  have hl := va_len hv
  obtain ⟨hl1, hl2⟩ := hl
  have HV := Lib.hid hv
  obtain ⟨bl, off, rfl, hbk, hcells⟩ := H.out.open_ (show 0 < ts.length by omega)
  have HC := Lib.hid hcells
  clear h hv hcells
  go_enter Try.func72, Try.ntmps72
  go_wp2
  go_loopw [7, 12] (fun s i wr => ∃ (k : Nat) (z : Int), k ≤ ts.length ∧ i = .int .i64 k ∧ s = .int .i64 z ∧ Hid (z = dmN ts a b k) ∧ Below w.heap.size w wr) (fun _ i _ => ts.length - (intOf i).toNat)
  case atStart => exact ⟨0, 0, Nat.zero_le _, rfl, rfl, rfl, Below.refl _ _⟩
  case round =>
    obtain ⟨k, z, hk, rfl, rfl, hz, hB⟩ := hrel
    by_cases hlt : k < ts.length
    · obtain ⟨x, y, d, hx⟩ := getT_of_lt hlt
      have f0 := (hB.cell (p := ⟨bl, off + k * 3, none⟩) hbk).trans (HC.out _ _ hx).1
      have f1 := (hB.cell (p := ⟨bl, off + k * 3 + 1, none⟩) hbk).trans (HC.out _ _ hx).2.1
      have f2 := (hB.cell (p := ⟨bl, off + k * 3 + 2, none⟩) hbk).trans (HC.out _ _ hx).2.2
      have hbd := dmN_bd HV.out a b k hk
      rw [← hz.out] at hbd
      have hw := va_at HV.out hlt
      rw [(getT_parts hx).2.2] at hw
      obtain ⟨_, _, _, hw1, hw2⟩ := hw
      obtain ⟨hb1, hb2⟩ := hbd
      have HI := Lib.hid (inS_eq hx a b)
      have HW := Lib.hid (getT_parts hx).2.2
      have hB2 : Below w.heap.size w (wr.alloc (.cells #[.int .i64 x, .int .i64 y, .int .i64 d] 53)) := Below.alloc hB hB.size _
      clear hx
      by_cases c1 : a ≤ x
      · have t1 : decide (a ≤ x) = true := decide_eq_true c1
        by_cases c2 : y ≤ b
        · have t2 : decide (y ≤ b) = true := decide_eq_true c2
          have HN : Hid (dmN ts a b (k + 1) = z + d) := Lib.hid (by rw [dmN_yes (by rw [HI.out, t1, t2]; rfl), HW.out, hz.out])
          clear c1 c2
          go_wp2
          go_roundw
          case rel => exact ⟨k + 1, z + d, by omega, by go_num, rfl, Lib.hid HN.out.symm, hB2⟩
          case measure => simp [intOf]; omega
        · have t2 : decide (y ≤ b) = false := decide_eq_false c2
          have HN : Hid (dmN ts a b (k + 1) = z) := Lib.hid (by rw [dmN_no (by rw [HI.out, t1, t2]; rfl), hz.out])
          clear c1 c2
          go_wp2
          go_roundw
          case rel => exact ⟨k + 1, z, by omega, by go_num, rfl, Lib.hid HN.out.symm, hB2⟩
          case measure => simp [intOf]; omega
      · have t1 : decide (a ≤ x) = false := decide_eq_false c1
        have HN : Hid (dmN ts a b (k + 1) = z) := Lib.hid (by rw [dmN_no (by rw [HI.out, t1]; rfl), hz.out])
        clear c1
        go_wp2
        go_roundw
        case rel => exact ⟨k + 1, z, by omega, by go_num, rfl, Lib.hid HN.out.symm, hB2⟩
        case measure => simp [intOf]; omega
    · obtain rfl : k = ts.length := by omega
      go_wp2
      go_ret
      exact ⟨ret_int hz.out, hB⟩

set_option maxRecDepth 100000 in
set_option maxHeartbeats 1000000 in
theorem refDemand_any (ts : List (Int × Int × Int)) (A : Option Addr) (cap : Nat) (a b : Int) (w : World) (h : Marks w A ts) (hv : vaB ts = true) :
    Calls Try.prog 74 #[.slice A ts.length cap, .int .i64 a, .int .i64 b] w fun e w' => e = .returned (.int .i64 (dmI ts a b)) ∧ w = w' := by
  have H := Lib.hid h
  have hl := va_len hv
  obtain ⟨hl1, hl2⟩ := hl
  have HV := Lib.hid hv
  obtain ⟨bl, off, rfl, hbk, hcells⟩ := H.out.open_ (show 0 < ts.length by omega)
  have HC := Lib.hid hcells
  clear h hv hcells
  go_enter Try.func74, Try.ntmps74
  go_wp2
  go_loop [7, 8] (fun s i => ∃ (k : Nat) (z : Int), k ≤ ts.length ∧ i = .int .i64 k ∧ s = .int .i64 z ∧ Hid (z = dmN ts a b k)) (fun _ i => ts.length - (intOf i).toNat)
  case atStart => exact ⟨0, 0, Nat.zero_le _, rfl, rfl, rfl⟩
  case round =>
    obtain ⟨k, z, hk, rfl, rfl, hz⟩ := hrel
    by_cases hlt : k < ts.length
    · obtain ⟨x, y, d, hx⟩ := getT_of_lt hlt
      have f0 := (HC.out _ _ hx).1
      have f1 := (HC.out _ _ hx).2.1
      have f2 := (HC.out _ _ hx).2.2
      have hbd := dmN_bd HV.out a b k hk
      rw [← hz.out] at hbd
      have hw := va_at HV.out hlt
      rw [(getT_parts hx).2.2] at hw
      obtain ⟨_, _, _, hw1, hw2⟩ := hw
      obtain ⟨hb1, hb2⟩ := hbd
      have HI := Lib.hid (inS_eq hx a b)
      have HW := Lib.hid (getT_parts hx).2.2
      clear hx
      by_cases c1 : a ≤ x
      · have t1 : decide (a ≤ x) = true := decide_eq_true c1
        by_cases c2 : y ≤ b
        · have t2 : decide (y ≤ b) = true := decide_eq_true c2
          have HN : Hid (dmN ts a b (k + 1) = z + d) := Lib.hid (by rw [dmN_yes (by rw [HI.out, t1, t2]; rfl), HW.out, hz.out])
          clear c1 c2
          go_wp2
          go_round
          case rel => exact ⟨k + 1, z + d, by omega, by go_num, rfl, Lib.hid HN.out.symm⟩
          case measure => simp [intOf]; omega
        · have t2 : decide (y ≤ b) = false := decide_eq_false c2
          have HN : Hid (dmN ts a b (k + 1) = z) := Lib.hid (by rw [dmN_no (by rw [HI.out, t1, t2]; rfl), hz.out])
          clear c1 c2
          go_wp2
          go_round
          case rel => exact ⟨k + 1, z, by omega, by go_num, rfl, Lib.hid HN.out.symm⟩
          case measure => simp [intOf]; omega
      · have t1 : decide (a ≤ x) = false := decide_eq_false c1
        have HN : Hid (dmN ts a b (k + 1) = z) := Lib.hid (by rw [dmN_no (by rw [HI.out, t1]; rfl), hz.out])
        clear c1
        go_wp2
        go_round
        case rel => exact ⟨k + 1, z, by omega, by go_num, rfl, Lib.hid HN.out.symm⟩
        case measure => simp [intOf]; omega
    · obtain rfl : k = ts.length := by omega
      go_wp2
      go_ret
      exact ⟨ret_int hz.out, rfl⟩

def slI (ts : List (Int × Int × Int)) (a b k : Int) : Int := k * (b - a) - dmI ts a b
set_option maxRecDepth 100000 in
theorem slack_any (ts : List (Int × Int × Int)) (A : Option Addr) (cap : Nat) (a b k : Int) (w : World) (h : Marks w A ts) (hv : vaB ts = true) (ha : 0 ≤ a ∧ a ≤ 200) (hb : 0 ≤ b ∧ b ≤ 200) (hk : k = 1 ∨ k = 2 ∨ k = 3 ∨ k = 4) :
    Calls Try.prog 76 #[.slice A ts.length cap, .int .i64 a, .int .i64 b, .int .i64 k] w fun e w' => e = .returned (.int .i64 (slI ts a b k)) ∧ Below w.heap.size w w' := by
  have H := Lib.hid h
  have HV := Lib.hid hv
  obtain ⟨a1, a2⟩ := ha
  obtain ⟨b1, b2⟩ := hb
  have hd := dm_bd hv a b
  obtain ⟨d, hde⟩ : ∃ d, dmI ts a b = d := ⟨_, rfl⟩
  rw [hde] at hd
  obtain ⟨d1, d2⟩ := hd
  have HD := Lib.hid hde
  clear h hv hde
  have hn1 : -200 ≤ b - a := by omega
  have hn2 : b - a ≤ 200 := by omega
  rcases hk with rfl | rfl | rfl | rfl
  all_goals
    go_enter Try.func76, Try.ntmps76
    go_wp2_with (go_at_call 72; refine (demand_any ts _ _ a b _ H.out HV.out).mono ?_; rintro e w1 ⟨he, hB1⟩; rw [HD.out] at he; subst he)
    go_ret
    exact ⟨ret_int (by rw [slI, HD.out]; try omega), hB1⟩
end Go.Proofs.Ythanmiifcpajhaa
