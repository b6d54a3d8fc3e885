/-
  The walk of ConeChains: it returns true, whatever it is given.
-/
import Derived.Test.YticokhiehejljaaChain
import Derived.Test.YticokhiehejljaaRefChainW
import Derived.Test.YticokhiehejljaaRefChains
import Derived.Test.YticokhiehejljaaIsChains
import Derived.Test.YticokhiehejljaaLawBefores
namespace Go.Proofs.Yticokhiehejljaa
open Go.RowKit Go.Shelf

set_option maxRecDepth 100000 in
set_option maxHeartbeats 1000000 in
theorem coneChains_walk (ms : List (Int × Int)) (A : Option Addr) (c : Nat) (zs : List Int) (A2 : Option Addr) (c2 : Nat) (w : World) (hA : Marks w A ms) (hc : ms.length ≤ c) (hc0 : c ≤ maxLen) (hI : Ints w A2 zs) (hd : zs.length ≤ c2) (hd0 : c2 ≤ maxLen) :
    Calls Try.prog 4 #[.slice A ms.length c, .slice A2 zs.length c2] w fun e w' => e = .returned (.bool true) ∧ Below w.heap.size w w' := by
  have H : Hid (Clk w A c ms) := ⟨hA, hc, hc0⟩
  have HI := Lib.hid hI
  clear hA hc hc0 hI
  by_cases hm : 40 < ms.length
  · have hm1 : decide (40 < ms.length) = true := decide_eq_true hm
    go_enter Try.func4, Try.ntmps4
    go_wp2_with (first
      | (go_at_call 15; refine (lawLong_any _ _ _ _).mono ?_; rintro e w' ⟨rfl, rfl⟩)
      | (go_at_call 16; refine (sane_any _).mono ?_; rintro e w' ⟨rfl, hW⟩))
    go_ret
    exact ⟨rfl, hW⟩
  have hm1 : decide (40 < ms.length) = false := decide_eq_false hm
  by_cases hz : 100 < zs.length
  · go_enter Try.func4, Try.ntmps4
    go_wp2_with (first
      | (go_at_call 15; refine (lawLong_any _ _ _ _).mono ?_; rintro e w' ⟨rfl, rfl⟩)
      | (go_at_call 16; refine (sane_any _).mono ?_; rintro e w' ⟨rfl, hW⟩))
    go_ret
    exact ⟨rfl, hW⟩
  go_enter Try.func4, Try.ntmps4
  go_wp2_with (first
    | (go_at_call 15; refine (lawLong_any _ _ _ _).mono ?_; rintro e w' ⟨rfl, rfl⟩)
    | (go_at_call 26; refine (coneChain_any _ _ _ _ H.out).mono ?_; rintro e w1 ⟨A3, c3, ys, E, rfl, hI3, hB1, hF1⟩)
    | (go_at_call 27; refine (refChain_any _ _ _ _ (H.out.below hB1)).mono ?_; rintro e w2 ⟨A4, c4, ys2, E2, rfl, hI4, hB2, hF2⟩; obtain rfl : ys2 = ys := (hF2.out.1.trans hF1.out.1.symm); obtain rfl : E2 = E := (hF2.out.2.trans hF1.out.2.symm); have hW2 := below_step hB1 hB2)
    | (go_at_call 28; refine (coneIsChain_any _ _ _ _ _ _ _ (H.out.below hW2) (HI.out.below hW2) hd hd0).mono ?_; rintro e w3 ⟨x, F, rfl, hB3, hF3⟩; have hW3 := below_step hW2 hB3)
    | (go_at_call 29; refine (refConeIsChain_any _ _ _ _ _ _ _ (H.out.below hW3) (HI.out.below hW3) (Nat.le_trans hd hd0)).mono ?_; rintro e w4 ⟨x2, F2, rfl, hB4, hF4⟩; obtain rfl : x2 = x := (hF4.out.1.trans hF3.out.1.symm); obtain rfl : F2 = F := (hF4.out.2.trans hF3.out.2.symm); have hW4 := below_step hW3 hB4)
    | (go_at_call 30; refine (coneChains_any _ _ _ _ (H.out.below hW4)).mono ?_; rintro e w5 ⟨z, G, rfl, hB5, hF5⟩; have hW5 := below_step hW4 hB5)
    | (go_at_call 31; refine (refChains_any _ _ _ _ (H.out.below hW5)).mono ?_; rintro e w6 ⟨z2, G2, rfl, hB6, hF6⟩; obtain rfl : z2 = z := (hF6.out.1.trans hF5.out.1.symm); obtain rfl : G2 = G := (hF6.out.2.trans hF5.out.2.symm); have hW6 := below_step hW5 hB6)
    | (go_at_call 23; refine (sameInts_same _ _ _ _ _ _ (((((hI3.below hB2).below hB3).below hB4).below hB5).below hB6).ints ((((hI4.below hB3).below hB4).below hB5).below hB6).ints (Nat.le_trans hI3.le hI3.cap)).mono ?_; rintro e w7 ⟨rfl, hB7⟩; have hW7 := below_step hW6 hB7)
    | (go_at_call 16; refine (sane_any _).mono ?_; rintro e w8 ⟨rfl, hB8⟩)
    | fail)
  go_ret
  exact ⟨rfl, below_step hW7 hB8⟩
end Go.Proofs.Yticokhiehejljaa
