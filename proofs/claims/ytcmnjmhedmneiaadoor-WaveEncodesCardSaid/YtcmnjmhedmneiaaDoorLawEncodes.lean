/-
  The walk of WaveEncodes: it returns true, whatever it is given.
-/
import Derived.Test.YtcmnjmhedmneiaaDoorWide
import Derived.Test.YtcmnjmhedmneiaaDoorBound
namespace Go.Proofs.YtcmnjmhedmneiaaDoor
open Go.RowKit Go.Shelf

set_option maxRecDepth 100000 in
set_option maxHeartbeats 1000000 in
theorem waveEncodes_walk (s : List Int) (A : Option Addr) (c : Nat) (w : World) (hW : Wids w) (hs : Ints w A s) (hc : s.length ≤ c) (hc0 : c ≤ maxLen) (_hsw : I64s s) :
    Calls Tryd.prog 5 #[.slice A s.length c] w fun e w' => e = .returned (.bool true) ∧ Below w.heap.size w w' := by
  have H := Lib.hid hs
  have HW := Lib.hid hW
  have hsl : s.length ≤ maxLen := Nat.le_trans hc hc0
  clear hs hc hc0 _hsw hW
  by_cases h1 : 200 < s.length
  · have t1 : decide (200 < s.length) = true := decide_eq_true h1
    go_enter Tryd.func5, Tryd.ntmps5
    go_wp2_with (first
      | (go_at_call 17; refine (many_any _ _ _ _).mono ?_; rintro e w' ⟨rfl, rfl⟩)
      | (go_at_call 19; refine (awake_any _ HW.out).mono ?_; rintro e w' ⟨rfl, hB⟩))
    go_ret
    exact ⟨rfl, hB⟩
  have t1 : decide (200 < s.length) = false := decide_eq_false h1
  clear h1
  go_enter Tryd.func5, Tryd.ntmps5
  go_wp2_with (first
    | (go_at_call 17; refine (many_any s _ _ _).mono ?_; rintro e w' ⟨rfl, rfl⟩)
    | (go_at_call 33; refine (encode_some s _ _ _ H.out hsl HW.out).mono ?_; rintro e w1 ⟨q, E, rfl, hB1, hF1⟩)
    | (go_at_call 34; refine (refEncode_any s _ _ _ (H.out.below hB1) hsl).mono ?_; rintro e w2 ⟨q2, E2, rfl, hB2, hF2⟩; obtain rfl : q = q2 := (hF1.out.1.trans hF2.out.1.symm); obtain rfl : E = E2 := (hF1.out.2.trans hF2.out.2.symm); have hW2 := below_step hB1 hB2; clear hF1 hF2)
    | (go_at_call 35; refine (length_any s _ _ _ (H.out.below hW2) hsl (HW.out.below hW2)).mono ?_; rintro e w3 ⟨n3, E3, rfl, hB3, hF3⟩; have hW3 := below_step hW2 hB3)
    | (go_at_call 36; refine (refLength_any s _ _ _ (H.out.below hW3) hsl).mono ?_; rintro e w4 ⟨n4, E4, rfl, hB4, hF4⟩; obtain rfl : n3 = n4 := (hF3.out.1.trans hF4.out.1.symm); obtain rfl : E3 = E4 := (hF3.out.2.trans hF4.out.2.symm); have hW4 := below_step hW3 hB4; clear hF3 hF4)
    | (go_at_call 37; refine (waveWide_any s _ _ _ (H.out.below hW4) hsl (HW.out.below hW4)).mono ?_; rintro e w5 ⟨q5, E5, rfl, hB5, hF5⟩; have hW5 := below_step hW4 hB5)
    | (go_at_call 38; refine (refWide_any s _ _ _ (H.out.below hW5) hsl).mono ?_; rintro e w6 ⟨q6, E6, rfl, hB6, hF6⟩; obtain rfl : q5 = q6 := (hF5.out.1.trans hF6.out.1.symm); obtain rfl : E5 = E6 := (hF5.out.2.trans hF6.out.2.symm); have hW6 := below_step hW5 hB6; clear hF5 hF6)
    | (go_at_call 39; refine (waveBound_any s _ _ _ (H.out.below hW6) hsl (HW.out.below hW6)).mono ?_; rintro e w7 ⟨n7, E7, rfl, hB7, hF7⟩; have hW7 := below_step hW6 hB7)
    | (go_at_call 40; refine (refBound_any s _ _ _ (H.out.below hW7) hsl).mono ?_; rintro e w8 ⟨n8, E8, rfl, hB8, hF8⟩; obtain rfl : n7 = n8 := (hF7.out.1.trans hF8.out.1.symm); obtain rfl : E7 = E8 := (hF7.out.2.trans hF8.out.2.symm); have hW8 := below_step hW7 hB8; clear hF7 hF8)
    | (go_at_call 19; refine (awake_any _ (HW.out.below hW8)).mono ?_; rintro e w9 ⟨rfl, hB9⟩))
  go_ret
  exact ⟨rfl, below_step hW8 hB9⟩
end Go.Proofs.YtcmnjmhedmneiaaDoor
