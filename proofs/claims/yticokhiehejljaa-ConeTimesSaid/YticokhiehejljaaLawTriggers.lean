/-
  The walk of ConeTriggers: it returns true, whatever it is given.
-/
import Derived.Test.YticokhiehejljaaTrigger
import Derived.Test.YticokhiehejljaaLawMoves
namespace Go.Proofs.Yticokhiehejljaa
open Go.RowKit Go.Shelf

set_option maxRecDepth 100000 in
set_option maxHeartbeats 1000000 in
theorem coneTriggers_walk (ms : List (Int × Int)) (A : Option Addr) (c : Nat) (n v : Int) (w : World) (hA : Marks w A ms) (hc : ms.length ≤ c) (hc0 : c ≤ maxLen) (_hp : (Lit.int .i64 n).wf = true) (_ht : (Lit.int .i64 v).wf = true) :
    Calls Try.prog 8 #[.slice A ms.length c, .int .i64 n, .int .i64 v] w fun e w' => e = .returned (.bool true) ∧ Below w.heap.size w w' := by
  have H : Hid (Clk w A c ms) := ⟨hA, hc, hc0⟩
  clear hA hc hc0
  by_cases hm : 40 < ms.length
  · have hm1 : decide (40 < ms.length) = true := decide_eq_true hm
    go_enter Try.func8, Try.ntmps8
    go_wp2_with (first
      | (go_at_call 15; refine (lawLong_any _ _ _ _).mono ?_; rintro e w' ⟨rfl, rfl⟩)
      | (go_at_call 16; refine (sane_any _).mono ?_; rintro e w' ⟨rfl, hW⟩))
    go_ret
    exact ⟨rfl, hW⟩
  have hm1 : decide (40 < ms.length) = false := decide_eq_false hm
  go_enter Try.func8, Try.ntmps8
  go_wp2_with (first
    | (go_at_call 15; refine (lawLong_any _ _ _ _).mono ?_; rintro e w' ⟨rfl, rfl⟩)
    | (go_at_call 45; refine (most_any _ _ _ _ _ H.out).mono ?_; rintro e w1 ⟨M, t, E, rfl, hB1, hF1⟩)
    | (go_at_call 46; refine (refMost_any _ _ _ _ _ (H.out.below hB1)).mono ?_; rintro e w2 ⟨M2, t2, E2, rfl, hB2, hF2⟩; obtain ⟨e1, e2, e3⟩ := mostR_same hF2.out hF1.out; subst e1 e2 e3; have hW2 := below_step hB1 hB2)
    | (go_at_call 47; refine (trigger_any _ _ _ _ _ _ (H.out.below hW2)).mono ?_; rintro e w3 ⟨s, F, rfl, hB3, hF3⟩; have hW3 := below_step hW2 hB3)
    | (go_at_call 48; refine (refTrigger_any _ _ _ _ _ _ (H.out.below hW3)).mono ?_; rintro e w4 ⟨s2, F2, rfl, hB4, hF4⟩; obtain ⟨e4, e5⟩ := trigR_same hF4.out hF3.out; subst e4 e5; have hW4 := below_step hW3 hB4)
    | (go_at_call 16; refine (sane_any _).mono ?_; rintro e w7 ⟨rfl, hB7⟩)
    | fail)
  go_ret
  exact ⟨rfl, below_step hW4 hB7⟩
end Go.Proofs.Yticokhiehejljaa
