/-
  Contract: a line's inverse.
-/
import Derived.Test.YtjghlfagdleglaaLineAt
namespace Go.Proofs.Ytjghlfagdleglaa
open Go.RowKit

set_option maxRecDepth 100000 in
set_option maxHeartbeats 3200000 in
theorem lineInverse_any (a b p q : Int) (w : World) :
    Calls Try.prog 66 #[.agg #[.int .i64 a, .int .i64 b, .int .i64 p, .int .i64 q]] w fun e w' =>
      e = .returned (.agg #[.int .i64 b, .int .i64 a, .int .i64 q, .int .i64 p]) ∧ Below w.heap.size w w' := by
  go_enter Try.func66, Try.ntmps66
  go_wp2
  have hW : Below w.heap.size w ((w.alloc (.cells #[.int .i64 a, .int .i64 b, .int .i64 p, .int .i64 q] 70)).alloc (.cells #[.int .i64 0, .int .i64 0, .int .i64 0, .int .i64 0] 70)) := (by repeat (first | with_reducible exact Below.refl _ _ | with_reducible assumption | refine below_drewN ?_ _ | with_reducible refine Below.drew ?_ | (refine Below.setCell ?_ (by first | (simp; done) | (simp; omega) | omega) _) | (refine Below.alloc ?_ (by first | (simp; done) | (simp; omega) | omega) _)))
  have f1 : ((w.alloc (.cells #[.int .i64 a, .int .i64 b, .int .i64 p, .int .i64 q] 70)).alloc (.cells #[.int .i64 0, .int .i64 0, .int .i64 0, .int .i64 0] 70)).heap[w.heap.size]? = some (.cells #[.int .i64 a, .int .i64 b, .int .i64 p, .int .i64 q] 70 (0, 0)) := (Below.heap_alloc _ _ _ (by simp)).trans (heap_alloc_new w _)
  have f2 : ((w.alloc (.cells #[.int .i64 a, .int .i64 b, .int .i64 p, .int .i64 q] 70)).alloc (.cells #[.int .i64 0, .int .i64 0, .int .i64 0, .int .i64 0] 70)).heap[w.heap.size + 1]? = some (.cells #[.int .i64 0, .int .i64 0, .int .i64 0, .int .i64 0] 70 (0, 0)) := by
    rw [show w.heap.size + 1 = (w.alloc (.cells #[.int .i64 a, .int .i64 b, .int .i64 p, .int .i64 q] 70)).heap.size by simp]; exact heap_alloc_new _ _
  have hz : w.heap.size + 2 = ((w.alloc (.cells #[.int .i64 a, .int .i64 b, .int .i64 p, .int .i64 q] 70)).alloc (.cells #[.int .i64 0, .int .i64 0, .int .i64 0, .int .i64 0] 70)).heap.size := by simp
  generalize (w.alloc (.cells #[.int .i64 a, .int .i64 b, .int .i64 p, .int .i64 q] 70)).alloc (.cells #[.int .i64 0, .int .i64 0, .int .i64 0, .int .i64 0] 70) = W at hW f1 f2 hz ⊢
  have hz1 : w.heap.size < W.heap.size := by omega
  have hz2 : w.heap.size + 1 < W.heap.size := by omega
  clear hz
  have c0 : W.cell? ⟨w.heap.size, 0, none⟩ = some (.int .i64 a) := cell_of_row W w.heap.size 0 _ _ _ f1
  have c1 : W.cell? ⟨w.heap.size, 1, none⟩ = some (.int .i64 b) := cell_of_row W w.heap.size 1 _ _ _ f1
  have c2 : W.cell? ⟨w.heap.size, 2, none⟩ = some (.int .i64 p) := cell_of_row W w.heap.size 2 _ _ _ f1
  have c3 : W.cell? ⟨w.heap.size, 3, none⟩ = some (.int .i64 q) := cell_of_row W w.heap.size 3 _ _ _ f1
  have d0 : W.cell? ⟨w.heap.size + 1, 0, none⟩ = some (.int .i64 0) := cell_of_row W (w.heap.size + 1) 0 _ _ _ f2
  have d1 : W.cell? ⟨w.heap.size + 1, 1, none⟩ = some (.int .i64 0) := cell_of_row W (w.heap.size + 1) 1 _ _ _ f2
  have d2 : W.cell? ⟨w.heap.size + 1, 2, none⟩ = some (.int .i64 0) := cell_of_row W (w.heap.size + 1) 2 _ _ _ f2
  have d3 : W.cell? ⟨w.heap.size + 1, 3, none⟩ = some (.int .i64 0) := cell_of_row W (w.heap.size + 1) 3 _ _ _ f2
  have e0 := blk_frozen f2 0
  have e1 := blk_frozen f2 1
  have e2 := blk_frozen f2 2
  have e3 := blk_frozen f2 3
  clear f1 f2
  have hW := hW.drew
  go_wp2
  go_region_held3 (fun w' => w'.cell? ⟨w.heap.size, 0, none⟩ = some (.int .i64 a) ∧ w'.cell? ⟨w.heap.size, 1, none⟩ = some (.int .i64 b) ∧ w'.cell? ⟨w.heap.size, 2, none⟩ = some (.int .i64 p) ∧ w'.cell? ⟨w.heap.size, 3, none⟩ = some (.int .i64 q))
    (first | exact ⟨c0, c1, c2, c3⟩ | exact ⟨(cell_far4 (p := ⟨w.heap.size, 0, none⟩) (by simp)).trans c0, (cell_far4 (p := ⟨w.heap.size, 1, none⟩) (by simp)).trans c1, (cell_far4 (p := ⟨w.heap.size, 2, none⟩) (by simp)).trans c2, (cell_far4 (p := ⟨w.heap.size, 3, none⟩) (by simp)).trans c3⟩)
    ((go_at_call 75; refine (exchanged_any _ _ _).mono ?_; rintro e w3 ⟨rfl, hB3⟩; have c0 := (hB3.cell (p := ⟨w.heap.size, 0, none⟩) hz1).trans c0; have d0 := (hB3.cell (p := ⟨w.heap.size + 1, 0, none⟩) hz2).trans d0; have e0 := (hB3.frozen (p := ⟨w.heap.size + 1, 0, none⟩) hz2).trans e0; have c1 := (hB3.cell (p := ⟨w.heap.size, 1, none⟩) hz1).trans c1; have d1 := (hB3.cell (p := ⟨w.heap.size + 1, 1, none⟩) hz2).trans d1; have e1 := (hB3.frozen (p := ⟨w.heap.size + 1, 1, none⟩) hz2).trans e1; have c2 := (hB3.cell (p := ⟨w.heap.size, 2, none⟩) hz1).trans c2; have d2 := (hB3.cell (p := ⟨w.heap.size + 1, 2, none⟩) hz2).trans d2; have e2 := (hB3.frozen (p := ⟨w.heap.size + 1, 2, none⟩) hz2).trans e2; have c3 := (hB3.cell (p := ⟨w.heap.size, 3, none⟩) hz1).trans c3; have d3 := (hB3.cell (p := ⟨w.heap.size + 1, 3, none⟩) hz2).trans d3; have e3 := (hB3.frozen (p := ⟨w.heap.size + 1, 3, none⟩) hz2).trans e3; have hW := Below.trans hW (hB3.mono (Nat.le_of_lt hz1)); have hz1 := Nat.lt_of_lt_of_le hz1 hB3.size; have hz2 := Nat.lt_of_lt_of_le hz2 hB3.size))
  go_wp2
  exact bodyPost_ret (v := .agg #[.int .i64 b, .int .i64 a, .int .i64 q, .int .i64 p]) (by simp [results, Try.results66, go_sem, d0, d1, d2, d3]) rfl ⟨rfl, by refine Below.setCell (Below.setCell (Below.setCell (Below.setCell hW ?_ _) ?_ _) ?_ _) ?_ _ <;> simp⟩
end Go.Proofs.Ytjghlfagdleglaa
