/-
  The walk of SkyBands: it returns true, whatever it is given.
-/
import Derived.Test.YtnnfnphmieikmaaReg8
namespace Go.Proofs.Ytnnfnphmieikmaa
open Go Go.RowKit Go.Shelf

theorem riL_len (a b : Int) : (riL a b).length ≤ maxLen := by
  unfold riL maxLen; split
  · have := stL_len (riP a.toNat b.toNat); omega
  · simp
set_option maxRecDepth 100000 in
set_option maxHeartbeats 2000000 in
theorem skyBands_walk (a b : Int) (w : World) (_ : (Lit.int .i64 a).wf = true) (_ : (Lit.int .i64 b).wf = true) :
    Calls Try.prog 10 #[.int .i64 a, .int .i64 b] w fun e w' => e = .returned (.bool true) ∧ Below w.heap.size w w' := by
  have hW0 : Below w.heap.size w w := Below.refl _ _
  have L1 := Lib.hid (riL_len a b)
  go_enter Try.func10, Try.ntmps10
  go_wp2_with (first
    | (go_at_call 60; refine (skyRings_any a b _).mono ?_; rintro e w1 ⟨A1, c1, rfl, hO1, hB1⟩; have hW1 := below_step hW0 hB1; clear hB1)
    | (go_at_call 61; refine (refRings_any a b _).mono ?_; rintro e w2 ⟨A2, c2, rfl, hO2, hB2⟩; have hO1 := hO1.below hB2; have hW2 := below_step hW1 hB2; clear hB2)
    | (go_at_call 45; with_reducible refine (sameCells_same (riL a b) _ _ _ _ _ hO1.marks hO2.marks L1.out).mono ?_; rintro e w3 ⟨rfl, hB3⟩; have hW3 := below_step hW2 hB3; clear hB3)
    | (go_at_call 28; refine (sane_any _).mono ?_; rintro e w13 ⟨rfl, hB13⟩)
    | fail)
  go_ret
  exact ⟨rfl, below_step hW3 hB13⟩
end Go.Proofs.Ytnnfnphmieikmaa
