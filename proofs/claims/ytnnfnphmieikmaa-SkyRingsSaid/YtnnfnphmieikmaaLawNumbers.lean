/-
  The walks of SkyNumbers and SkyRings: they return true, whatever they are given.
-/
import Derived.Test.YtnnfnphmieikmaaOn2
namespace Go.Proofs.Ytnnfnphmieikmaa
open Go Go.RowKit Go.Shelf

set_option maxRecDepth 100000 in
set_option maxHeartbeats 800000 in
theorem skyNumbers_walk (n p : Int) (w : World) (_ : (Lit.int .i64 n).wf = true) (_ : (Lit.int .i64 p).wf = true) :
    Calls Try.prog 3 #[.int .i64 n, .int .i64 p] w fun e w' => e = .returned (.bool true) ∧ Below w.heap.size w w' := by
  go_enter Try.func3, Try.ntmps3
  go_wp2_with (first
    | (go_at_call 18; refine (skyPixels_any n _).mono ?_; rintro e w1 ⟨rfl, rfl⟩)
    | (go_at_call 19; refine (refPixelsE_any n _).mono ?_; rintro e w1 ⟨rfl, rfl⟩)
    | (go_at_call 20; refine (skyPlace_any n p _).mono ?_; rintro e w1 ⟨rfl, hW1⟩)
    | (go_at_call 21; refine (refPlace_any n p _).mono ?_; rintro e w2 ⟨rfl, hD2⟩; have hW2 := below_step hW1 hD2.below; clear hD2)
    | (go_at_call 22; refine (skyRing_any n p _).mono ?_; rintro e w3 ⟨rfl, hB3⟩; have hW3 := below_step hW2 hB3)
    | (go_at_call 23; refine (refRing_any n p _).mono ?_; rintro e w4 ⟨rfl, hD4⟩; have hW4 := below_step hW3 hD4.below; clear hD4)
    | (go_at_call 24; refine (skyFromRing_any n p _).mono ?_; rintro e w5 ⟨rfl, hB5⟩; have hW5 := below_step hW4 hB5)
    | (go_at_call 25; refine (refFromRing_any n p _).mono ?_; rintro e w6 ⟨rfl, hD6⟩; have hW6 := below_step hW5 hD6.below; clear hD6)
    | (go_at_call 26; refine (skyRingOf_any n p _).mono ?_; rintro e w7 ⟨rfl, hB7⟩; have hW7 := below_step hW6 hB7)
    | (go_at_call 27; refine (refRingOf_any n p _).mono ?_; rintro e w8 ⟨rfl, hD8⟩; have hW8 := below_step hW7 hD8.below; clear hD8)
    | (go_at_call 28; refine (sane_any _).mono ?_; rintro e w9 ⟨rfl, hB9⟩)
    | fail)
  go_ret
  exact ⟨rfl, below_step hW8 hB9⟩
set_option maxRecDepth 100000 in
set_option maxHeartbeats 800000 in
theorem skyRings_walk (n r : Int) (w : World) (_ : (Lit.int .i64 n).wf = true) (_ : (Lit.int .i64 r).wf = true) :
    Calls Try.prog 5 #[.int .i64 n, .int .i64 r] w fun e w' => e = .returned (.bool true) ∧ Below w.heap.size w w' := by
  go_enter Try.func5, Try.ntmps5
  go_wp2_with (first
    | (go_at_call 31; refine (skyLength_any n r _).mono ?_; rintro e w1 ⟨rfl, rfl⟩)
    | (go_at_call 32; refine (refLengthE_any n r _).mono ?_; rintro e w1 ⟨rfl, rfl⟩)
    | (go_at_call 33; refine (skyOn_any n r _).mono ?_; rintro e w1 ⟨A1, c1, rfl, hO1, hW1⟩)
    | (go_at_call 34; refine (refOn_any n r _).mono ?_; rintro e w2 ⟨A2, c2, rfl, hO2, hB2⟩; have hW2 := below_step hW1 hB2)
    | (go_at_call 35; refine (sameInts_same (onV n r) _ _ _ _ _ (hO1.below hB2).ints hO2.ints (onV_le n r)).mono ?_; rintro e w5 ⟨rfl, hB5⟩; have hW5 := below_step hW2 hB5)
    | (go_at_call 28; refine (sane_any _).mono ?_; rintro e w9 ⟨rfl, hB9⟩)
    | fail)
  go_ret
  exact ⟨rfl, below_step hW5 hB9⟩
end Go.Proofs.Ytnnfnphmieikmaa
