/-
  Contracts: ContainsFunc at ints, validNumbers; the reference's AreNumbers.
-/
import Derived.Test.YtdekpggfepllhaaValid
import Derived.Shelf.Abstract
set_option linter.unusedVariables false
set_option linter.unusedSimpArgs false
namespace Go.Proofs.Ytdekpggfepllhaa
open Go Go.RowKit

def KeepI (g : Nat) (lb : Array Value) (p : Int → Bool) (w : World) : Prop :=
  ∀ (W : World) (a : Int), Below w.heap.size w W → Calls Try.prog g (#[.int .i64 a] ++ lb) W fun e w' => e = .returned (.bool (p a)) ∧ Below W.heap.size W w'
set_option maxRecDepth 100000 in
set_option maxHeartbeats 400000 in
theorem indexI_any (g : Nat) (lb : Array Value) (p : Int → Bool) (eg : ∀ args w, (callFunc g args).run Try.prog w = .ok (.enter g args) w) (ms : List Int) (A : Option Addr) (c : Nat) (w : World) (hK : KeepI g lb p w) (h : Ints w A ms) (hn : ms.length ≤ 1000) :
    Calls Try.prog 85 #[.slice A ms.length c, .func (.func g) #[] lb] w fun e w' => ∃ r : Int, e = .returned (.int .i64 r) ∧ Below w.heap.size w w' ∧ -1 ≤ r ∧ r ≤ 1000 ∧ Hid (decide (0 ≤ r) = ms.any p) := by
  have H := Lib.hid h
  have HK := Lib.hid hK
  clear h hK
  go_enter Try.func85, Try.ntmps85
  go_wp2
  go_loopw [8] (fun i wr => ∃ k : Nat, k ≤ ms.length ∧ i = .int .i64 k ∧ Hid ((ms.take k).any p = false) ∧ Below w.heap.size w wr) (fun i _ => ms.length - (intOf i).toNat)
  case atStart => exact ⟨0, Nat.zero_le _, rfl, rfl, Below.refl _ _⟩
  case round =>
    obtain ⟨k, hk, rfl, hno, hB⟩ := hrel
    by_cases hlt : k < ms.length
    · obtain ⟨bl, off, rfl, hbk, hcells⟩ := H.out.open_ (show 0 < ms.length by omega)
      obtain ⟨a, hx⟩ := getElem?_of_lt hlt
      have f0 := (hB.cell (p := ⟨bl, off + k, none⟩) hbk).trans (hcells _ _ hx)
      have hcall := HK.out wr a hB
      have HX := Lib.hid hx
      clear hx hcells
      cases hp : p a with
      | true =>
        rw [hp] at hcall
        have HP := Lib.hid hp
        clear hp
        go_wp2_with (go_at_fn g; refine hcall.mono ?_; rintro e w3 ⟨rfl, hB3⟩; have hW3 : Below w.heap.size w w3 := below_step hB hB3)
        go_ret
        refine ⟨k, rfl, hW3, by omega, by omega, ?_⟩
        show _ = _
        rw [List.any_eq_true.2 ⟨_, List.mem_of_getElem? HX.out, HP.out⟩]
        exact decide_eq_true (by omega)
      | false =>
        rw [hp] at hcall
        have HP := Lib.hid hp
        clear hp
        go_wp2_with (go_at_fn g; refine hcall.mono ?_; rintro e w3 ⟨rfl, hB3⟩; have hW3 : Below w.heap.size w w3 := below_step hB hB3)
        go_roundw
        case rel => exact ⟨k + 1, by omega, by go_num, (by rw [any_snoc HX.out, hno.out, HP.out]; rfl : (ms.take (k + 1)).any p = false), hW3⟩
        case measure => simp [intOf]; omega
    · obtain rfl : k = ms.length := by omega
      go_wp2
      go_ret
      refine ⟨-1, rfl, hB, by omega, by omega, ?_⟩
      have := hno.out
      rw [List.take_length] at this
      show _ = _
      rw [this]; rfl
theorem containsI_any (g : Nat) (lb : Array Value) (p : Int → Bool) (eg : ∀ args w, (callFunc g args).run Try.prog w = .ok (.enter g args) w) (ms : List Int) (A : Option Addr) (c : Nat) (w : World) (hK : KeepI g lb p w) (h : Ints w A ms) (hn : ms.length ≤ 1000) :
    Calls Try.prog 71 #[.slice A ms.length c, .func (.func g) #[] lb] w fun e w' => e = .returned (.bool (ms.any p)) ∧ Below w.heap.size w w' := by
  have H := Lib.hid h
  have HK := Lib.hid hK
  clear h hK
  go_enter Try.func71, Try.ntmps71
  go_wp2_with (go_at_call 85; refine (indexI_any g lb p eg ms A c _ HK.out H.out hn).mono ?_; rintro e w1 ⟨r, rfl, hB, h0, h1, hr⟩)
  all_goals
    go_ret
    exact ⟨ret_bool (by rw [← hr.out]; try (simp; try omega)), hB⟩

def outB (m n : Int) : Bool := !decide (0 ≤ n ∧ n ≤ m)
set_option maxRecDepth 100000 in
theorem outside_any (g : Nat) (n m : Int) (w : World) (h : w.cell? ⟨g, 0, none⟩ = some (.int .i64 m)) :
    Calls Try.prog 70 #[.int .i64 n, .pointer (some ⟨g, 0, none⟩)] w fun e w' => e = .returned (.bool (outB m n)) ∧ Below w.heap.size w w' := by
  by_cases h1 : n < 0
  · have t1 : decide (n < 0) = true := decide_eq_true h1
    go_enter Try.func70, Try.ntmps70
    go_wp2
    go_ret
    exact ⟨ret_bool (by rw [outB, decide_eq_false (by omega)]; rfl), Below.refl _ _⟩
  · have t1 : decide (n < 0) = false := decide_eq_false h1
    by_cases h2 : m < n
    · have t2 : decide (m < n) = true := decide_eq_true h2
      go_enter Try.func70, Try.ntmps70
      go_wp2
      go_ret
      exact ⟨ret_bool (by rw [outB, decide_eq_false (by omega)]; rfl), Below.refl _ _⟩
    · have t2 : decide (m < n) = false := decide_eq_false h2
      go_enter Try.func70, Try.ntmps70
      go_wp2
      go_ret
      exact ⟨ret_bool (by rw [outB, decide_eq_true (by omega)]; rfl), Below.refl _ _⟩
theorem nu_no_len {l : List Int} {m : Int} (h : l.length ≠ 8) : false = nuB l m := by rw [nuB, decide_eq_false h]; rfl
theorem nu_out {l : List Int} {m : Int} (h : l.length = 8) : (!l.any (outB m)) = nuB l m := by
  rw [nuB, decide_eq_true h, Bool.true_and, Bool.eq_iff_iff]
  simp [outB]
set_option maxRecDepth 100000 in
theorem validNumbers_any (l : List Int) (A : Option Addr) (c : Nat) (m : Int) (w : World) (h : Ints w A l) :
    Calls Try.prog 43 #[.slice A l.length c, .int .i64 m] w fun e w' => e = .returned (.bool (nuB l m)) ∧ Below w.heap.size w w' := by
  have H := Lib.hid h
  clear h
  by_cases hl : l.length = 8
  · have t1 : ((l.length : Int) == 8) = true := by rw [hl]; rfl
    have eg : ∀ args w, (callFunc 70 args).run Try.prog w = .ok (.enter 70 args) w := enters_of Try.func70 (by kernel_rfl) rfl
    have HK : Hid (∀ W, Below (w.alloc (.cells #[.int .i64 m] 3)).heap.size (w.alloc (.cells #[.int .i64 m] 3)) W → KeepI 70 #[.pointer (some ⟨w.heap.size, 0, none⟩)] (outB m) W) := Lib.hid fun W hW V a hV =>
      outside_any w.heap.size a m V (by
        rw [hV.cell (p := ⟨w.heap.size, 0, none⟩) (Nat.lt_of_lt_of_le (show w.heap.size < (w.alloc (.cells #[.int .i64 m] 3)).heap.size by simp) hW.size), hW.cell (p := ⟨w.heap.size, 0, none⟩) (by simp)]
        exact (cell_of_row _ _ _ _ _ _ (heap_alloc_new w _)).trans rfl)
    have HN := Lib.hid (nu_out (m := m) hl)
    have hl2 : l.length ≤ 1000 := by omega
    have HL2 := Lib.hid hl2
    clear hl hl2
    go_enter Try.func43, Try.ntmps43
    go_wp2_with (go_at_call 71; refine (containsI_any _ #[.pointer (some ⟨w.heap.size, 0, none⟩)] (outB m) eg l A c _ (HK.out _ (Below.refl _ _)) (H.out.below (by repeat (first | with_reducible exact Below.refl _ _ | with_reducible assumption | refine below_drewN ?_ _ | with_reducible refine Below.drew ?_ | (refine Below.setCell ?_ (by first | (simp; done) | (simp; omega) | omega) _) | (refine Below.alloc ?_ (by first | (simp; done) | (simp; omega) | omega) _)))) HL2.out).mono ?_; rintro e w1 ⟨rfl, hB⟩)
    go_ret
    exact ⟨ret_bool HN.out, below_step (by repeat (first | with_reducible exact Below.refl _ _ | with_reducible assumption | refine below_drewN ?_ _ | with_reducible refine Below.drew ?_ | (refine Below.setCell ?_ (by first | (simp; done) | (simp; omega) | omega) _) | (refine Below.alloc ?_ (by first | (simp; done) | (simp; omega) | omega) _))) hB⟩
  · have t1 : ((l.length : Int) == 8) = false := by rw [beq_eq_false_iff_ne]; omega
    have HN := Lib.hid (nu_no_len (m := m) hl)
    clear hl
    go_enter Try.func43, Try.ntmps43
    go_wp2
    go_ret
    exact ⟨ret_bool HN.out, (by repeat (first | with_reducible exact Below.refl _ _ | with_reducible assumption | refine below_drewN ?_ _ | with_reducible refine Below.drew ?_ | (refine Below.setCell ?_ (by first | (simp; done) | (simp; omega) | omega) _) | (refine Below.alloc ?_ (by first | (simp; done) | (simp; omega) | omega) _)))⟩

def inI (m x : Int) : Bool := decide (0 ≤ x ∧ x ≤ m)
theorem nu_eq (l : List Int) (m : Int) : nuB l m = (decide (l.length = 8) && l.all (inI m)) := rfl
theorem nu_not {l : List Int} {m : Int} {k : Nat} {x : Int} (h : l[k]? = some x) (hx : inI m x = false) : false = nuB l m := by
  rw [nu_eq, all_not h hx, Bool.and_false]
set_option maxRecDepth 100000 in
theorem areNumbers_any (l : List Int) (A : Option Addr) (c : Nat) (m : Int) (w : World) (h : Ints w A l) (hl : l.length ≤ maxLen) :
    Calls Try.prog 31 #[.slice A l.length c, .int .i64 m] w fun e w' => e = .returned (.bool (nuB l m)) ∧ w = w' := by
  have H := Lib.hid h
  unfold maxLen at hl
  clear h
  go_enter Try.func31, Try.ntmps31
  go_wp2
  go_loop [9] (fun i => ∃ k : Nat, k ≤ l.length ∧ i = .int .i64 k ∧ Hid ((l.take k).all (inI m) = true)) (fun i => l.length - (intOf i).toNat)
  case atStart => exact ⟨0, Nat.zero_le _, rfl, rfl⟩
  case round =>
    obtain ⟨k, hk, rfl, ha⟩ := hrel
    by_cases hlt : k < l.length
    · obtain ⟨ad, x, rfl, _, hx, c1⟩ := H.out.get hlt
      by_cases h1 : x < 0
      · have t1 : decide (x < 0) = true := decide_eq_true h1
        have HN : Hid (inI m x = false) := Lib.hid (decide_eq_false (by omega))
        go_wp2
        go_ret
        exact ⟨ret_bool (nu_not hx.out HN.out), rfl⟩
      · have t1 : decide (x < 0) = false := decide_eq_false h1
        by_cases h2 : m < x
        · have t2 : decide (m < x) = true := decide_eq_true h2
          have HN : Hid (inI m x = false) := Lib.hid (decide_eq_false (by omega))
          go_wp2
          go_ret
          exact ⟨ret_bool (nu_not hx.out HN.out), rfl⟩
        · have t2 : decide (m < x) = false := decide_eq_false h2
          have HN : Hid (inI m x = true) := Lib.hid (decide_eq_true (by omega))
          go_wp2
          go_round
          case rel => exact ⟨k + 1, by omega, by go_num, by rw [all_snoc hx.out, ha.out, HN.out]; rfl⟩
          case measure => simp [intOf]; omega
    · obtain rfl : k = l.length := by omega
      go_wp2
      go_ret
      exact ⟨ret_bool (by
        have := ha.out
        rw [List.take_length] at this
        rw [nu_eq, this, Bool.and_true, Bool.eq_iff_iff]; simp; omega), rfl⟩
end Go.Proofs.Ytdekpggfepllhaa
