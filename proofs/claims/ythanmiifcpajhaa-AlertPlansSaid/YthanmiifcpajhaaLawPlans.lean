/-
  The walk of AlertPlans: it returns true, whatever it is given.
-/
import Derived.Test.YthanmiifcpajhaaSane
import Derived.Test.YthanmiifcpajhaaSameI
set_option linter.unusedVariables false
set_option linter.unusedSimpArgs false
namespace Go.Proofs.Ythanmiifcpajhaa
open Go Go.RowKit Go.Shelf

theorem vL_le (p : Nat → Int) (n : Nat) (h : n ≤ 1000) : (vL p n).length ≤ maxLen := by rw [vL_len]; unfold maxLen; omega
theorem doL_len (ts : List (Int × Int × Int)) (ps : List Int) (h : ts.length ≤ maxLen) : (doL ts ps).length ≤ maxLen := by
  unfold doL; split
  · rw [vL_len]; exact h
  · simp
theorem valid_grow (ts : List (Int × Int × Int)) (A : Option Addr) (cap : Nat) (w : World) (h : Marks w A ts) (hl : ts.length ≤ maxLen) :
    Calls Try.prog 20 #[.slice A ts.length cap] w fun e w' => e = .returned (.bool (vaB ts)) ∧ Below w.heap.size w w' :=
  (refValid_any ts A cap w h hl).mono fun _ _ ⟨h, n, hn⟩ => ⟨h, by rw [hn]; exact below_drewN (Below.refl _ _) _⟩
theorem same_yes (xs : List Int) (A B : Option Addr) (c d : Nat) (w : World) (hA : Ints w A xs) (hB : Ints w B xs) (hl : xs.length ≤ maxLen) :
    Calls Try.prog 27 #[.slice A xs.length c, .slice B xs.length d] w fun e w' => e = .returned (.bool true) ∧ Below w.heap.size w w' :=
  (sameInts_any xs xs A B c d w hA hB hl).mono fun _ _ ⟨h, n, hn⟩ => ⟨by rw [h]; simp, by rw [hn]; exact below_drewN (Below.refl _ _) _⟩

set_option maxRecDepth 100000 in
set_option maxHeartbeats 8000000 in
theorem alertPlans_walk (ts : List (Int × Int × Int)) (A : Option Addr) (cap : Nat) (ps : List Int) (B : Option Addr) (cb : Nat) (w : World) (hA : Marks w A ts) (hc : ts.length ≤ cap) (hc0 : cap ≤ maxLen) (hB : Ints w B ps) (hd : ps.length ≤ cb) (hd0 : cb ≤ maxLen) :
    Calls Try.prog 3 #[.slice A ts.length cap, .slice B ps.length cb] w fun e w' => e = .returned (.bool true) ∧ Below w.heap.size w w' := by
  have H := Lib.hid hA
  have HQ := Lib.hid hB
  have HL : Hid (ts.length ≤ maxLen) := Lib.hid (Nat.le_trans hc hc0)
  have HPS : Hid (ps.length ≤ maxLen) := Lib.hid (Nat.le_trans hd hd0)
  have hW0 := Below.refl w.heap.size w
  clear hA hc hc0 hB hd hd0
  cases hm : decide (40 < ts.length) with
  | true =>
    have HLo : Hid (∀ W : World, Calls Try.prog 15 #[.slice A ts.length cap] W fun e w' => e = .returned (.bool true) ∧ W = w') := Lib.hid fun W => (long_any ts A cap W).mono fun _ _ h => ⟨by rw [h.1, hm], h.2⟩
    clear hm
    go_enter Try.func3, Try.ntmps3
    go_wp2_with (first
      | (go_at_call 15; refine (HLo.out _).mono ?_; rintro e w' ⟨rfl, rfl⟩)
      | (go_at_call 16; refine (sane_any _).mono ?_; rintro e w1 ⟨rfl, hB1⟩; have hW1 := below_step hW0 hB1; clear hB1)
      | fail)
    go_ret
    exact ⟨rfl, hW1⟩
  | false =>
    have HLo : Hid (∀ W : World, Calls Try.prog 15 #[.slice A ts.length cap] W fun e w' => e = .returned (.bool false) ∧ W = w') := Lib.hid fun W => (long_any ts A cap W).mono fun _ _ h => ⟨by rw [h.1, hm], h.2⟩
    clear hm
    by_cases hp : (300 : Int) < (ps.length : Int)
    · have t1 : decide ((300 : Int) < (ps.length : Int)) = true := decide_eq_true hp
      go_enter Try.func3, Try.ntmps3
      go_wp2_with (first
        | (go_at_call 15; refine (HLo.out _).mono ?_; rintro e w' ⟨rfl, rfl⟩)
        | (go_at_call 16; refine (sane_any _).mono ?_; rintro e w1 ⟨rfl, hB1⟩; have hW1 := below_step hW0 hB1; clear hB1)
        | fail)
      go_ret
      exact ⟨rfl, hW1⟩
    · have t1 : decide ((300 : Int) < (ps.length : Int)) = false := decide_eq_false hp
      clear hp
      go_enter Try.func3, Try.ntmps3
      go_wp2_with (first
        | (go_at_call 15; refine (HLo.out _).mono ?_; rintro e w' ⟨rfl, rfl⟩)
        | (go_at_call 17; refine (rightX_any ts _ _ ps _ _ _ (H.out.below hW0) HL.out (HQ.out.below hW0) HPS.out).mono ?_; rintro e w1 ⟨rfl, hB1⟩; have hW1 := below_step hW0 hB1; clear hB1)
        | (go_at_call 18; refine (refRightX_any ts _ _ ps _ _ _ (H.out.below hW1) HL.out (HQ.out.below hW1) HPS.out).mono ?_; rintro e w2 ⟨rfl, hB2⟩; have hW2 := below_step hW1 hB2; clear hB2)
        | (go_at_call 19; refine (valid_any ts _ _ _ (H.out.below hW2) HL.out).mono ?_; rintro e w3 ⟨rfl, hB3⟩; have hW3 := below_step hW2 hB3; clear hB3)
        | (go_at_call 20; refine (valid_grow ts _ _ _ (H.out.below hW3) HL.out).mono ?_; rintro e w4 ⟨rfl, hB4⟩; have hW4 := below_step hW3 hB4; clear hB4)
        | (go_at_call 21; refine (doesX_any ts _ _ ps _ _ _ (H.out.below hW4) HL.out (HQ.out.below hW4) HPS.out).mono ?_; rintro e w5 ⟨rfl, hB5⟩; have hW5 := below_step hW4 hB5; clear hB5)
        | (go_at_call 22; refine (refDoesX_any ts _ _ ps _ _ _ (H.out.below hW5) HL.out (HQ.out.below hW5) HPS.out).mono ?_; rintro e w6 ⟨rfl, hB6⟩; have hW6 := below_step hW5 hB6; clear hB6)
        | (go_at_call 23; refine (doneX_any ts _ _ ps _ _ _ (H.out.below hW6) HL.out (HQ.out.below hW6) HPS.out).mono ?_; rintro e w7 ⟨D1, e1, rfl, hO1, hB7⟩; have hW7 := below_step hW6 hB7; have HO1 := Lib.hid hO1; clear hB7 hO1)
        | (go_at_call 24; refine (refDoneX_any ts _ _ ps _ _ _ (H.out.below hW7) HL.out (HQ.out.below hW7) HPS.out).mono ?_; rintro e w8 ⟨D2, e2, rfl, hO2, hB8⟩; have hW8 := below_step hW7 hB8; have HO1 := Lib.hid (HO1.out.below hB8); have HO2 := Lib.hid hO2; clear hB8 hO2)
        | (go_at_call 25; refine (freeX_any ts _ _ ps _ _ _ (H.out.below hW8) HL.out (HQ.out.below hW8) HPS.out).mono ?_; rintro e w9 ⟨rfl, hB9⟩; have hW9 := below_step hW8 hB9; have HO1 := Lib.hid (HO1.out.below hB9); have HO2 := Lib.hid (HO2.out.below hB9); clear hB9)
        | (go_at_call 26; refine (refFreeX_any ts _ _ ps _ _ _ (H.out.below hW9) HL.out (HQ.out.below hW9) HPS.out).mono ?_; rintro e w10 ⟨rfl, hB10⟩; have hW10 := below_step hW9 hB10; have HS1 := Lib.hid (HO1.out.below hB10).ints; have HS2 := Lib.hid (HO2.out.below hB10).ints; clear hB10)
        | (go_at_call 27; refine (same_yes (doL ts ps) D1 D2 e1 e2 _ HS1.out HS2.out (doL_len ts ps HL.out)).mono ?_; rintro e w11 ⟨rfl, hB11⟩; have hW11 := below_step hW10 hB11; clear hB11)
        | (go_at_call 16; refine (sane_any _).mono ?_; rintro e w12 ⟨rfl, hB12⟩; have hW12 := below_step hW11 hB12; clear hB12)
        | fail)
      go_ret
      exact ⟨rfl, hW12⟩
end Go.Proofs.Ythanmiifcpajhaa
