/-
  The walk of ConeBefores: it returns true, whatever it is given.
-/
import Derived.Test.YticokhiehejljaaRefFirst
import Derived.Test.YticokhiehejljaaLawMoves
namespace Go.Proofs.Yticokhiehejljaa
open Go.RowKit Go.Shelf

theorem pastL_len (ms : List (Int × Int)) (a : Int) : (pastL ms a).length ≤ ms.length := by
  unfold pastL; exact Nat.le_trans (List.length_filter_le _ _) (by rw [allL_len]; exact Nat.le_refl _)

set_option maxRecDepth 100000 in
set_option maxHeartbeats 2000000 in
theorem coneBefores_walk (ms : List (Int × Int)) (A : Option Addr) (c : Nat) (a b : Int) (w : World) (hA : Marks w A ms) (hc : ms.length ≤ c) (hc0 : c ≤ maxLen) (_hp : (Lit.int .i64 a).wf = true) (_ht : (Lit.int .i64 b).wf = true) :
    Calls Try.prog 3 #[.slice A ms.length c, .int .i64 a, .int .i64 b] w fun e w' => e = .returned (.bool true) ∧ Below w.heap.size w w' := by
  have H : Hid (Clk w A c ms) := ⟨hA, hc, hc0⟩
  clear hA hc hc0
  by_cases hm : 40 < ms.length
  · have hm1 : decide (40 < ms.length) = true := decide_eq_true hm
    go_enter Try.func3, Try.ntmps3
    go_wp2_with (first
      | (go_at_call 15; refine (lawLong_any _ _ _ _).mono ?_; rintro e w' ⟨rfl, rfl⟩)
      | (go_at_call 16; refine (sane_any _).mono ?_; rintro e w' ⟨rfl, hW⟩))
    go_ret
    exact ⟨rfl, hW⟩
  have hm1 : decide (40 < ms.length) = false := decide_eq_false hm
  have TA : Hid True := Lib.hid trivial
  cases hv : vhB ms
  all_goals
    have HV := Lib.hid hv
    clear hv
    go_enter Try.func3, Try.ntmps3
    go_wp2_with (first
      | (go_at_call 15; refine (lawLong_any _ _ _ _).mono ?_; rintro e w' ⟨rfl, rfl⟩)
      | (go_at_call 17; refine (coneBefore_any _ _ _ _ _ _ H.out).mono ?_; rintro e w1 ⟨x, E, rfl, hB1, hF1⟩)
      | (go_at_call 18; refine (refConeBefore_any _ _ _ _ _ _ (H.out.below hB1)).mono ?_; rintro e w2 ⟨x2, E2, rfl, hB2, hF2⟩; obtain rfl : x2 = x := (hF2.out.1.trans hF1.out.1.symm); obtain rfl : E2 = E := (hF2.out.2.trans hF1.out.2.symm); have hW2 := below_step hB1 hB2)
      | (go_at_call 19; refine (conePast_any _ _ _ _ _ (H.out.below hW2)).mono ?_; rintro e w3 ⟨A3, c3, zs, F, rfl, hI3, hB3, hF3⟩; have hW3 := below_step hW2 hB3)
      | (go_at_call 20; refine (refPast_any _ _ _ _ _ (H.out.below hW3)).mono ?_; rintro e w4 ⟨A4, c4, zs2, F2, rfl, hI4, hB4, hF4⟩; obtain rfl : zs2 = zs := (hF4.out.1.trans hF3.out.1.symm); obtain rfl : F2 = F := (hF4.out.2.trans hF3.out.2.symm); have hW4 := below_step hW3 hB4)
      | (go_at_call 21; refine (valid_any ms A c _ (H.out.below hW4).marks H.out.len).mono ?_; rintro e w5 ⟨he, hB5⟩; rw [HV.out] at he; subst he; have hW5 := below_step hW4 hB5)
      | (go_at_call 22; refine (refValid_any ms A c _ (H.out.below hW5).marks H.out.len).mono ?_; rintro e w6 ⟨he, n6, rfl⟩; rw [HV.out] at he; subst he; have hW6 := below_drewN hW5 n6)
      | (go_at_call 23; clear TA; refine (sameInts_same _ _ _ _ _ _ (((hI3.below hB4).below hB5).below (below_drewN (Below.refl _ _) n6)).ints ((hI4.below hB5).below (below_drewN (Below.refl _ _) n6)).ints (Nat.le_trans hI3.le hI3.cap)).mono ?_; rintro e w7 ⟨rfl, hB7⟩; have hW7 := below_step hW6 hB7)
      | (go_at_call 24; refine (coneFirst_any _ _ _ _ (H.out.below hW7)).mono ?_; rintro e w8 ⟨A8, c8, ys, G, rfl, hI8, hB8, hF8⟩; have hW8 := below_step hW7 hB8)
      | (go_at_call 25; refine (refConeFirst_any _ _ _ _ (H.out.below hW8)).mono ?_; rintro e w9 ⟨A9, c9, ys2, G2, rfl, hI9, hB9, hF9⟩; obtain rfl : ys2 = ys := (hF9.out.1.trans hF8.out.1.symm); obtain rfl : G2 = G := (hF9.out.2.trans hF8.out.2.symm); have hW9 := below_step hW8 hB9)
      | (go_at_call 23; refine (sameInts_same _ _ _ _ _ _ (hI8.below hB9).ints hI9.ints (Nat.le_trans hI8.le hI8.cap)).mono ?_; rintro e w10 ⟨rfl, hB10⟩; have hW10 := below_step hW9 hB10)
      | (go_at_call 16; refine (sane_any _).mono ?_; rintro e w11 ⟨rfl, hB11⟩)
      | fail)
    go_ret
    exact ⟨rfl, below_step hW10 hB11⟩
end Go.Proofs.Yticokhiehejljaa
