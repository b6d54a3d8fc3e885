/-
  Contracts: Wide (firnlaw02), SameTables (firnref02).
-/
import Derived.Test.YtmlkdjcjfkfdiaaTables
import Derived.Test.YtmlkdjcjfkfdiaaJoined
namespace Go.Proofs.Ytmlkdjcjfkfdiaa
open Go.RowKit Go.Shelf

def wideB (T : List (List Int)) : Bool := T.any (fun zs => decide (60 < zs.length)) || decide (60 < T.length)
set_option maxRecDepth 100000 in
theorem lawWide_any (T : List (List Int)) (A : Option Addr) (c : Nat) (w : World) (h : Tabs w A T) (hl : T.length ≤ maxLen) :
    Calls Try.prog 32 #[.slice A T.length c] w fun e w' => e = .returned (.bool (wideB T)) ∧ w = w' := by
  unfold maxLen at hl
  have H := Lib.hid h
  clear h
  go_enter Try.func32, Try.ntmps32
  go_wp2
  go_loop [3] (fun i => ∃ k : Nat, k ≤ T.length ∧ i = .int .i64 k ∧ Hid ((T.take k).any (fun zs => decide (60 < zs.length)) = false)) (fun i => T.length - (intOf i).toNat)
  case atStart => exact ⟨0, Nat.zero_le _, rfl, rfl⟩
  case round =>
    obtain ⟨k, hk, rfl, hA⟩ := hrel
    by_cases hlt : k < T.length
    · obtain ⟨b, o, e, hbk, hc⟩ := H.out (by omega)
      subst e
      obtain ⟨zs, hz⟩ := getT_of_lt hlt
      obtain ⟨B, cc, f0, hO⟩ := hc k zs hz
      have hzc := hO.le
      have hcm := hO.cap
      unfold maxLen at hcm
      have HZ := Lib.hid hz
      clear hc hz
      by_cases h6 : 60 < (zs.length : Int)
      · have t1 : decide (60 < (zs.length : Int)) = true := decide_eq_true h6
        go_wp2
        go_ret
        refine ⟨ret_bool ?_, rfl⟩
        rw [wideB, List.any_eq_true.2 ⟨zs, List.mem_of_getElem? HZ.out, decide_eq_true (by omega)⟩]; rfl
      · have t1 : decide (60 < (zs.length : Int)) = false := decide_eq_false h6
        go_wp2
        go_round
        case rel => exact ⟨k + 1, by omega, by go_num, by rw [any_snoc HZ.out, hA.out, decide_eq_false (by omega)]; rfl⟩
        case measure => simp [intOf]; omega
    · obtain rfl : k = T.length := by omega
      go_wp2
      go_ret
      refine ⟨ret_bool ?_, rfl⟩
      have := hA.out
      rw [List.take_length] at this
      rw [wideB, this, Bool.false_or]
      first | rfl | (exact decide_eq_decide.2 (by omega)) | simp
theorem Tabs.drewN {w : World} {A : Option Addr} {T : List (List Int)} (h : Tabs w A T) (n : Nat) : Tabs (w.drewN n) A T := h.below (below_drewN (Below.refl _ _) n)
theorem same_is {g : Nat} {args : Array Value} {w : World} {b v : Bool} (h : Calls Try.prog g args w fun e w' => e = .returned (.bool b) ∧ ∃ n, w' = w.drewN n) (e : b = v) : Calls Try.prog g args w fun e w' => e = .returned (.bool v) ∧ ∃ n, w' = w.drewN n := by subst e; exact h
set_option maxRecDepth 100000 in
theorem sameTables_any (T S : List (List Int)) (A B : Option Addr) (c d : Nat) (w : World) (hA : Tabs w A T) (hB : Tabs w B S) (hl : T.length ≤ maxLen) :
    Calls Try.prog 37 #[.slice A T.length c, .slice B S.length d] w fun e w' => e = .returned (.bool (decide (T = S))) ∧ ∃ n, w' = w.drewN n := by
  unfold maxLen at hl
  have HA := Lib.hid hA
  have HB := Lib.hid hB
  clear hA hB
  by_cases hlen : T.length = S.length
  · have HL := Lib.hid hlen
    have hn : (((T.length : Int) != (S.length : Int)) = false) := by rw [hlen]; simp
    have hle : T.length ≤ S.length := by omega
    clear hlen
    go_enter Try.func37, Try.ntmps37
    go_wp2
    go_loopw [5] (fun i wr => ∃ k m : Nat, k ≤ T.length ∧ i = .int .i64 k ∧ wr = w.drewN m ∧ Hid (T.take k = S.take k)) (fun i _ => T.length - (intOf i).toNat)
    case atStart => exact ⟨0, 0, Nat.zero_le _, rfl, rfl, rfl⟩
    case round =>
      obtain ⟨k, m, hk, rfl, hw, ht⟩ := hrel
      rename World => wr
      have HW := Lib.hid hw
      have hAw : Tabs wr A T := by rw [hw]; exact HA.out.drewN m
      have hBw : Tabs wr B S := by rw [hw]; exact HB.out.drewN m
      clear hw
      by_cases hlt : k < T.length
      · have hlt2 : k < S.length := by omega
        obtain ⟨b1, o1, e1, hb1, hc1⟩ := hAw (by omega)
        obtain ⟨b2, o2, e2, hb2, hc2⟩ := hBw (by omega)
        subst e1 e2
        obtain ⟨xs, hx⟩ := getT_of_lt hlt
        obtain ⟨ys, hy⟩ := getT_of_lt hlt2
        obtain ⟨X, cx, f1, hO1⟩ := hc1 k xs hx
        obtain ⟨Y, cy, f2, hO2⟩ := hc2 k ys hy
        have HS := Lib.hid (fun n => sameInts_any xs ys X Y cx cy (wr.drewN n) (hO1.ints.drewN n) (hO2.ints.drewN n) (Nat.le_trans hO1.le hO1.cap))
        have HX := Lib.hid hx
        have HY := Lib.hid hy
        clear hc1 hc2 hx hy hO1 hO2 hAw hBw
        by_cases h1 : xs = ys
        · have t1 : decide (xs = ys) = true := decide_eq_true h1
          have H1 := Lib.hid h1
          have HT := Lib.hid t1
          clear h1 t1
          go_wp2
          go_quiet ((go_at_call 23; with_reducible exact Calls.quiet_of (v := .bool true) (same_is (HS.out _) HT.out)))
          go_wp2
          go_roundw
          case rel => exact ⟨k + 1, _, by omega, by go_num, (by rw [HW.out]; first | rfl | exact World.drewN_drewN _ _ _), eq_next HX.out HY.out H1.out ht.out⟩
          case measure => simp [intOf]; omega
        · have t1 : decide (xs = ys) = false := decide_eq_false h1
          have H1 := Lib.hid h1
          have HT := Lib.hid t1
          clear h1 t1
          go_wp2
          go_quiet ((go_at_call 23; with_reducible exact Calls.quiet_of (v := .bool false) (same_is (HS.out _) HT.out)))
          go_wp2
          go_ret
          exact ⟨ret_bool (ne_at HX.out HY.out H1.out), _, (by rw [HW.out]; first | rfl | exact World.drewN_drewN _ _ _)⟩
      · go_wp2
        go_ret
        exact ⟨ret_bool (eq_end HL.out (by omega) ht.out), _, HW.out⟩
  · have hn : (((T.length : Int) != (S.length : Int)) = true) := by simp; omega
    go_enter Try.func37, Try.ntmps37
    go_wp2
    go_ret
    exact ⟨ret_bool (ne_len hlen), 0, rfl⟩
end Go.Proofs.Ytmlkdjcjfkfdiaa
