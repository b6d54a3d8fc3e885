/-
  The walks of SkyNested and SkyNests: they return true, whatever they are given.
-/
import Derived.Test.YtnnfnphmieikmaaChild
namespace Go.Proofs.Ytnnfnphmieikmaa
open Go Go.RowKit Go.Shelf

set_option maxRecDepth 100000 in
theorem skyNested_walk (n f : Int) (x y : Int) (w : World) (_ : (Lit.int .i64 n).wf = true) (_ : (Lit.int .i64 f).wf = true) (_ : (Lit.int .i64 x).wf = true) (_ : (Lit.int .i64 y).wf = true) :
    Calls Try.prog 4 #[.int .i64 n, .int .i64 f, .agg #[.int .i64 x, .int .i64 y]] w fun e w' => e = .returned (.bool true) ∧ Below w.heap.size w w' := by
  go_enter Try.func4, Try.ntmps4
  go_wp2_with (first
    | (go_at_call 29; refine (skyNested_any n f x y _).mono ?_; rintro e w1 ⟨rfl, hB1⟩; have hW1 : Below w.heap.size w w1 := (Below.trans (by repeat (first | with_reducible exact Below.refl _ _ | with_reducible assumption | refine below_drewN ?_ _ | with_reducible refine Below.drew ?_ | (refine Below.setCell ?_ (by first | (simp; done) | (simp; omega) | omega) _) | (refine Below.alloc ?_ (by first | (simp; done) | (simp; omega) | omega) _))) (hB1.mono (by first | (simp; done) | (simp; omega) | omega))); have c0 := (hB1.cell (p := ⟨w.heap.size, 0, none⟩) (by simp)).trans (cell_of_row _ _ 0 _ _ _ (heap_alloc_new w _)); have c1 := (hB1.cell (p := ⟨w.heap.size, 1, none⟩) (by simp)).trans (cell_of_row _ _ 1 _ _ _ (heap_alloc_new w _)); simp at c0 c1; clear hB1)
    | (go_at_call 30; refine (refNested_any n f x y _).mono ?_; rintro e w2 ⟨rfl, hB2⟩; have hW2 := below_step hW1 hB2)
    | (go_at_call 28; refine (sane_any _).mono ?_; rintro e w7 ⟨rfl, hB7⟩)
    | fail)
  go_ret
  exact ⟨rfl, below_step hW2 hB7⟩
set_option maxRecDepth 100000 in
theorem skyNests_walk (n p t : Int) (w : World) (_ : (Lit.int .i64 n).wf = true) (_ : (Lit.int .i64 p).wf = true) (_ : (Lit.int .i64 t).wf = true) :
    Calls Try.prog 6 #[.int .i64 n, .int .i64 p, .int .i64 t] w fun e w' => e = .returned (.bool true) ∧ Below w.heap.size w w' := by
  go_enter Try.func6, Try.ntmps6
  go_wp2_with (first
    | (go_at_call 36; refine (skyUp_any n p t _).mono ?_; rintro e w1 ⟨rfl, hB1⟩)
    | (go_at_call 37; refine (refUp_any n p t _).mono ?_; rintro e w2 ⟨rfl, hB2⟩; have hW2 := below_step hB1 hB2)
    | (go_at_call 38; refine (skyChildren_any n p _).mono ?_; rintro e w3 ⟨A3, c3, rfl, hO3, hB3⟩; have hW3 := below_step hW2 hB3)
    | (go_at_call 39; refine (refChildren_any n p _).mono ?_; rintro e w4 ⟨A4, c4, rfl, hO4, hB4⟩; have hW4 := below_step hW3 hB4)
    | (go_at_call 35; refine (sameInts_same (chL n p) _ _ _ _ _ (hO3.below hB4).ints hO4.ints (ch_len n p)).mono ?_; rintro e w5 ⟨rfl, hB5⟩; have hW5 := below_step hW4 hB5)
    | (go_at_call 28; refine (sane_any _).mono ?_; rintro e w7 ⟨rfl, hB7⟩)
    | fail)
  go_ret
  exact ⟨rfl, below_step hW5 hB7⟩
end Go.Proofs.Ytnnfnphmieikmaa
