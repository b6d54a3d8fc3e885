/-
  The walk of IceOthers: it returns true, whatever it is given.
-/
import Derived.Test.YtmndfcjkokolbaaPlainW
namespace Go.Proofs.Ytmndfcjkokolbaa
open Go.RowKit Go.Shelf

set_option maxRecDepth 100000 in
set_option maxHeartbeats 1000000 in
theorem iceOthers_walk (ms : List (Int × Int)) (A : Option Addr) (c : Nat) (w : World) (hA : Marks w A ms) (hc : ms.length ≤ c) (hc0 : c ≤ maxLen) :
    Calls Try.prog 8 #[.slice A ms.length c] w fun e w' => e = .returned (.bool true) ∧ Below w.heap.size w w' := by
  have H : Hid (Clk w A c ms) := ⟨hA, hc, hc0⟩
  clear hA hc hc0
  by_cases hm : 60 < ms.length
  · have hm1 : decide (60 < ms.length) = true := decide_eq_true hm
    go_enter Try.func8, Try.ntmps8
    go_wp2_with (first
      | (go_at_call 17; refine (lawLong_any _ _ _ _).mono ?_; rintro e w' ⟨rfl, rfl⟩)
      | (go_at_call 18; refine (sane_any _).mono ?_; rintro e w' ⟨rfl, hW⟩))
    go_ret
    exact ⟨rfl, hW⟩
  have hm1 : decide (60 < ms.length) = false := decide_eq_false hm
  clear hm
  have TA : Hid True := Lib.hid trivial
  go_enter Try.func8, Try.ntmps8
  go_wp2_with (first
    | (go_at_call 17; refine (lawLong_any _ _ _ _).mono ?_; rintro e w' ⟨rfl, rfl⟩)
    | (go_at_call 48; refine (icePlain_any _ _ _ _ H.out).mono ?_; rintro e w1 ⟨A1, c1, xs, E, rfl, hO1, hB1, hF1⟩)
    | (go_at_call 49; refine (refPlain_any _ _ _ _ (H.out.below hB1)).mono ?_; rintro e w2 ⟨A2, c2, ys, E2, rfl, hO2, hB2, hF2⟩; obtain rfl : ys = xs := hF2.out.1.trans hF1.out.1.symm; obtain rfl : E2 = E := hF2.out.2.trans hF1.out.2.symm; have hW2 := below_step hB1 hB2)
    | (go_at_call 50; refine (iceTurned_any _ _ _ _ (H.out.below hW2)).mono ?_; rintro e w3 ⟨A3, c3, zs, E3, rfl, hO3, hB3, hF3⟩; have hW3 := below_step hW2 hB3)
    | (go_at_call 51; refine (refTurned_any _ _ _ _ (H.out.below hW3)).mono ?_; rintro e w4 ⟨A4, c4, us, E4, rfl, hO4, hB4, hF4⟩; obtain rfl : us = zs := hF4.out.1.trans hF3.out.1.symm; obtain rfl : E4 = E3 := hF4.out.2.trans hF3.out.2.symm; have hW4 := below_step hW3 hB4)
    | (go_at_call 52; clear TA; refine (sameIce_same ys _ _ _ _ _ (((hO1.below hB2).below hB3).below hB4).marks ((hO2.below hB3).below hB4).marks hO1.len).mono ?_; rintro e w5 ⟨rfl, hB5⟩; have hW5 := below_step hW4 hB5)
    | (go_at_call 52; refine (sameIce_same us _ _ _ _ _ ((hO3.below hB4).below hB5).marks (hO4.below hB5).marks hO3.len).mono ?_; rintro e w6 ⟨rfl, hB6⟩; have hW6 := below_step hW5 hB6)
    | (go_at_call 18; refine (sane_any _).mono ?_; rintro e w7 ⟨rfl, hB7⟩)
    | fail)
  go_ret
  exact ⟨rfl, below_step hW6 hB7⟩
end Go.Proofs.Ytmndfcjkokolbaa
