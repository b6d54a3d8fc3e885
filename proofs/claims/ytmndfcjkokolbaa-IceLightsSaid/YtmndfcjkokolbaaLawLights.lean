/-
  The walk of IceLights: it returns true, whatever it is given.
-/
import Derived.Test.YtmndfcjkokolbaaMiddle
namespace Go.Proofs.Ytmndfcjkokolbaa
open Go.RowKit Go.Shelf

set_option maxRecDepth 100000 in
set_option maxHeartbeats 1000000 in
theorem iceLights_walk (ms : List (Int × Int)) (A : Option Addr) (c : Nat) (a s : Int) (w : World) (hA : Marks w A ms) (hc : ms.length ≤ c) (hc0 : c ≤ maxLen) (_ha : (Lit.int .i64 a).wf = true) (_hs : (Lit.int .i64 s).wf = true) :
    Calls Try.prog 4 #[.slice A ms.length c, .int .i64 a, .int .i64 s] w fun e w' => e = .returned (.bool true) ∧ Below w.heap.size w w' := by
  have H : Hid (Clk w A c ms) := ⟨hA, hc, hc0⟩
  clear hA hc hc0 _ha _hs
  by_cases hm : 60 < ms.length
  · have hm1 : decide (60 < ms.length) = true := decide_eq_true hm
    go_enter Try.func4, Try.ntmps4
    go_wp2_with (first
      | (go_at_call 17; refine (lawLong_any _ _ _ _).mono ?_; rintro e w' ⟨rfl, rfl⟩)
      | (go_at_call 18; refine (sane_any _).mono ?_; rintro e w' ⟨rfl, hW⟩))
    go_ret
    exact ⟨rfl, hW⟩
  have hm1 : decide (60 < ms.length) = false := decide_eq_false hm
  clear hm
  go_enter Try.func4, Try.ntmps4
  go_wp2_with (first
    | (go_at_call 17; refine (lawLong_any _ _ _ _).mono ?_; rintro e w' ⟨rfl, rfl⟩)
    | (go_at_call 29; refine (iceLit_any _ _ _ _ _ _ H.out).mono ?_; rintro e w1 ⟨r, q, E, rfl, hB1, hF1⟩)
    | (go_at_call 30; refine (refLit_any _ _ _ _ _ _ (H.out.below hB1)).mono ?_; rintro e w2 ⟨r2, q2, E2, rfl, hB2, hF2⟩; obtain rfl : r2 = r := hF2.out.1.trans hF1.out.1.symm; obtain rfl : q2 = q := hF2.out.2.1.trans hF1.out.2.1.symm; obtain rfl : E2 = E := hF2.out.2.2.trans hF1.out.2.2.symm; have hW2 := below_step hB1 hB2)
    | (go_at_call 31; refine (iceDown_any _ _ _ _ _ _ (H.out.below hW2)).mono ?_; rintro e w5 ⟨r5, E5, rfl, hB5, hF5⟩; have hW5 := below_step hW2 hB5)
    | (go_at_call 32; refine (refDown_any _ _ _ _ _ _ (H.out.below hW5)).mono ?_; rintro e w6 ⟨r6, E6, rfl, hB6, hF6⟩; obtain rfl : r6 = r5 := hF6.out.1.trans hF5.out.1.symm; obtain rfl : E6 = E5 := hF6.out.2.trans hF5.out.2.symm; have hW6 := below_step hW5 hB6)
    | (go_at_call 33; refine (iceUp_any _ _ _ _ _ _ (H.out.below hW6)).mono ?_; rintro e w7 ⟨r7, E7, rfl, hB7, hF7⟩; have hW7 := below_step hW6 hB7)
    | (go_at_call 34; refine (refUp_any _ _ _ _ _ _ (H.out.below hW7)).mono ?_; rintro e w8 ⟨r8, E8, rfl, hB8, hF8⟩; obtain rfl : r8 = r7 := hF8.out.1.trans hF7.out.1.symm; obtain rfl : E8 = E7 := hF8.out.2.trans hF7.out.2.symm; have hW8 := below_step hW7 hB8)
    | (go_at_call 35; refine (iceMiddle_any _ _ _ _ (H.out.below hW8)).mono ?_; rintro e w9 ⟨r9, E9, rfl, hB9, hF9⟩; have hW9 := below_step hW8 hB9)
    | (go_at_call 36; refine (refMiddle_any _ _ _ _ (H.out.below hW9)).mono ?_; rintro e w10 ⟨r10, E10, rfl, hB10, hF10⟩; obtain rfl : r10 = r9 := (midRes_one hF9.out hF10.out).1; obtain rfl : E10 = E9 := (midRes_one hF9.out hF10.out).2; have hW10 := below_step hW9 hB10)
    | (go_at_call 18; refine (sane_any _).mono ?_; rintro e w12 ⟨rfl, hB12⟩)
    | fail)
  go_ret
  exact ⟨rfl, below_step hW10 hB12⟩
end Go.Proofs.Ytmndfcjkokolbaa
