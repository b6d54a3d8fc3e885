/-
  Boxes of ratios, lines and points as the laws' walks tell of them.
-/
import Derived.Test.YtoilbgngefleiaaJoined
namespace Go.Proofs.Ytoilbgngefleiaa
open Go.RowKit Go.Shelf

theorem blk_cell {w : World} {g : Nat} {cs : Array Value} {t : TypeId} (h : w.heap[g]? = some (.cells cs t (0, 0))) (i : Nat) {u : Value} (hu : cs[i]? = some u) : w.cell? ⟨g, i, none⟩ = some u := (cell_of_row w g i cs t (0, 0) h).trans hu
theorem st2_below {w0 w : World} {B g : Nat} {u v : Value} (h : Below B w0 w) (hg : B ≤ g) : Below B w0 ((w.setCell ⟨g, 0, none⟩ u).setCell ⟨g, 1, none⟩ v) := (h.setCell hg _).setCell hg _
theorem st3_below {w0 w : World} {B g : Nat} {u v x : Value} (h : Below B w0 w) (hg : B ≤ g) : Below B w0 (((w.setCell ⟨g, 0, none⟩ u).setCell ⟨g, 1, none⟩ v).setCell ⟨g, 2, none⟩ x) := ((h.setCell hg _).setCell hg _).setCell hg _
/-- A box of 34. -/
def Rt (W : World) (g : Nat) (u0 u1 : Value) : Prop := W.heap[g]? = some (.cells #[u0, u1] 34 (0, 0))
section
variable {W V : World} {g g' : Nat} {u0 u1 v0 v1 a b c : Value}
theorem Rt.lt (h : Rt W g u0 u1) : g < W.heap.size := (Array.getElem?_eq_some_iff.1 h).1
theorem Rt.below (h : Rt W g u0 u1) (hb : Below W.heap.size W V) : Rt V g u0 u1 := (hb.block g h.lt).trans h
theorem Rt.alloc (h : Rt W g u0 u1) (o : Obj) : Rt (W.alloc o) g u0 u1 := (Below.heap_alloc W o g h.lt).trans h
theorem Rt.new (W : World) (u0 u1 : Value) : Rt (W.alloc (.cells #[u0, u1] 34)) W.heap.size u0 u1 := heap_alloc_new W _
theorem Rt.f (h : Rt W g u0 u1) (i : Nat) : W.frozen? ⟨g, i, none⟩ = false := blk_frozen h i
theorem Rt.other2 (h : Rt W g u0 u1) (hne : g ≠ g') : Rt ((W.setCell ⟨g', 0, none⟩ a).setCell ⟨g', 1, none⟩ b) g u0 u1 :=
  (heap_setCell_other _ _ _ _ hne).trans ((heap_setCell_other _ _ _ _ hne).trans h)
theorem Rt.other3 (h : Rt W g u0 u1) (hne : g ≠ g') : Rt (((W.setCell ⟨g', 0, none⟩ a).setCell ⟨g', 1, none⟩ b).setCell ⟨g', 2, none⟩ c) g u0 u1 :=
  (heap_setCell_other _ _ _ _ hne).trans ((heap_setCell_other _ _ _ _ hne).trans ((heap_setCell_other _ _ _ _ hne).trans h))
theorem Rt.set (h : Rt W g u0 u1) : Rt ((W.setCell ⟨g, 0, none⟩ v0).setCell ⟨g, 1, none⟩ v1) g v0 v1 := by
  unfold Rt at *
  rw [heap_setCell_same _ g 1 #[v0, u1] _ _ (by rw [heap_setCell_same _ g 0 #[u0, u1] _ _ h]; rfl)]; rfl
theorem Rt.c0 (h : Rt W g u0 u1) : W.cell? ⟨g, 0, none⟩ = some u0 := blk_cell h 0 rfl
theorem Rt.c1 (h : Rt W g u0 u1) : W.cell? ⟨g, 1, none⟩ = some u1 := blk_cell h 1 rfl
end
/-- A box of 24. -/
def Lt (W : World) (g : Nat) (u0 u1 u2 : Value) : Prop := W.heap[g]? = some (.cells #[u0, u1, u2] 24 (0, 0))
section
variable {W V : World} {g g' : Nat} {u0 u1 u2 v0 v1 v2 a b c : Value}
theorem Lt.lt (h : Lt W g u0 u1 u2) : g < W.heap.size := (Array.getElem?_eq_some_iff.1 h).1
theorem Lt.below (h : Lt W g u0 u1 u2) (hb : Below W.heap.size W V) : Lt V g u0 u1 u2 := (hb.block g h.lt).trans h
theorem Lt.alloc (h : Lt W g u0 u1 u2) (o : Obj) : Lt (W.alloc o) g u0 u1 u2 := (Below.heap_alloc W o g h.lt).trans h
theorem Lt.new (W : World) (u0 u1 u2 : Value) : Lt (W.alloc (.cells #[u0, u1, u2] 24)) W.heap.size u0 u1 u2 := heap_alloc_new W _
theorem Lt.f (h : Lt W g u0 u1 u2) (i : Nat) : W.frozen? ⟨g, i, none⟩ = false := blk_frozen h i
theorem Lt.other2 (h : Lt W g u0 u1 u2) (hne : g ≠ g') : Lt ((W.setCell ⟨g', 0, none⟩ a).setCell ⟨g', 1, none⟩ b) g u0 u1 u2 :=
  (heap_setCell_other _ _ _ _ hne).trans ((heap_setCell_other _ _ _ _ hne).trans h)
theorem Lt.other3 (h : Lt W g u0 u1 u2) (hne : g ≠ g') : Lt (((W.setCell ⟨g', 0, none⟩ a).setCell ⟨g', 1, none⟩ b).setCell ⟨g', 2, none⟩ c) g u0 u1 u2 :=
  (heap_setCell_other _ _ _ _ hne).trans ((heap_setCell_other _ _ _ _ hne).trans ((heap_setCell_other _ _ _ _ hne).trans h))
theorem Lt.set (h : Lt W g u0 u1 u2) : Lt (((W.setCell ⟨g, 0, none⟩ v0).setCell ⟨g, 1, none⟩ v1).setCell ⟨g, 2, none⟩ v2) g v0 v1 v2 := by
  unfold Lt at *
  rw [heap_setCell_same _ g 2 #[v0, v1, u2] _ _ (by rw [heap_setCell_same _ g 1 #[v0, u1, u2] _ _ (by rw [heap_setCell_same _ g 0 #[u0, u1, u2] _ _ h]; rfl)]; rfl)]; rfl
theorem Lt.c0 (h : Lt W g u0 u1 u2) : W.cell? ⟨g, 0, none⟩ = some u0 := blk_cell h 0 rfl
theorem Lt.c1 (h : Lt W g u0 u1 u2) : W.cell? ⟨g, 1, none⟩ = some u1 := blk_cell h 1 rfl
theorem Lt.c2 (h : Lt W g u0 u1 u2) : W.cell? ⟨g, 2, none⟩ = some u2 := blk_cell h 2 rfl
end
/-- A box of 54. -/
def Pt (W : World) (g : Nat) (u0 u1 : Value) : Prop := W.heap[g]? = some (.cells #[u0, u1] 54 (0, 0))
section
variable {W V : World} {g g' : Nat} {u0 u1 v0 v1 a b c : Value}
theorem Pt.lt (h : Pt W g u0 u1) : g < W.heap.size := (Array.getElem?_eq_some_iff.1 h).1
theorem Pt.below (h : Pt W g u0 u1) (hb : Below W.heap.size W V) : Pt V g u0 u1 := (hb.block g h.lt).trans h
theorem Pt.alloc (h : Pt W g u0 u1) (o : Obj) : Pt (W.alloc o) g u0 u1 := (Below.heap_alloc W o g h.lt).trans h
theorem Pt.new (W : World) (u0 u1 : Value) : Pt (W.alloc (.cells #[u0, u1] 54)) W.heap.size u0 u1 := heap_alloc_new W _
theorem Pt.f (h : Pt W g u0 u1) (i : Nat) : W.frozen? ⟨g, i, none⟩ = false := blk_frozen h i
theorem Pt.other2 (h : Pt W g u0 u1) (hne : g ≠ g') : Pt ((W.setCell ⟨g', 0, none⟩ a).setCell ⟨g', 1, none⟩ b) g u0 u1 :=
  (heap_setCell_other _ _ _ _ hne).trans ((heap_setCell_other _ _ _ _ hne).trans h)
theorem Pt.other3 (h : Pt W g u0 u1) (hne : g ≠ g') : Pt (((W.setCell ⟨g', 0, none⟩ a).setCell ⟨g', 1, none⟩ b).setCell ⟨g', 2, none⟩ c) g u0 u1 :=
  (heap_setCell_other _ _ _ _ hne).trans ((heap_setCell_other _ _ _ _ hne).trans ((heap_setCell_other _ _ _ _ hne).trans h))
theorem Pt.set (h : Pt W g u0 u1) : Pt ((W.setCell ⟨g, 0, none⟩ v0).setCell ⟨g, 1, none⟩ v1) g v0 v1 := by
  unfold Pt at *
  rw [heap_setCell_same _ g 1 #[v0, u1] _ _ (by rw [heap_setCell_same _ g 0 #[u0, u1] _ _ h]; rfl)]; rfl
theorem Pt.c0 (h : Pt W g u0 u1) : W.cell? ⟨g, 0, none⟩ = some u0 := blk_cell h 0 rfl
theorem Pt.c1 (h : Pt W g u0 u1) : W.cell? ⟨g, 1, none⟩ = some u1 := blk_cell h 1 rfl
end
end Go.Proofs.Ytoilbgngefleiaa
