/-
  Contract: berthOf.
-/
import Derived.Test.YtnnfnphmieikmaaUp
namespace Go.Proofs.Ytnnfnphmieikmaa
open Go Go.RowKit Go.Shelf

theorem cell_alloc_old (w : World) (o : Obj) (g i : Nat) (h : g < w.heap.size) : (w.alloc o).cell? ⟨g, i, none⟩ = w.cell? ⟨g, i, none⟩ := World.cell?_alloc_lt _ _ _ h
theorem frozen_alloc_old (w : World) (o : Obj) (g i : Nat) (h : g < w.heap.size) : (w.alloc o).frozen? ⟨g, i, none⟩ = w.frozen? ⟨g, i, none⟩ := ((Below.refl _ w).alloc (Nat.le_refl _) o).frozen (p := ⟨g, i, none⟩) h
theorem cell_set2 (w : World) {g i j : Nat} {u v : Value} {p : Addr} (h : p.block ≠ g) : ((w.setCell ⟨g, i, none⟩ u).setCell ⟨g, j, none⟩ v).cell? p = w.cell? p :=
  (World.cell?_setCell_other _ _ p v (by rintro rfl; exact h rfl)).trans (World.cell?_setCell_other w _ p u (by rintro rfl; exact h rfl))
theorem cell_new (w : World) (cs : Array Value) (t : TypeId) (i : Nat) {u : Value} (h : cs[i]? = some u) : (w.alloc (.cells cs t)).cell? ⟨w.heap.size, i, none⟩ = some u := (cell_of_row _ _ i _ _ _ (heap_alloc_new w _)).trans h
set_option maxRecDepth 100000 in
set_option maxHeartbeats 400000 in
theorem berthOf_any (k p : Nat) (hk : k < 5) (hp : p < pxN k) (w : World) :
    Calls Try.prog 79 #[.agg #[.int .i64 (k : Int), .int .i64 (p : Int)]] w fun e w' => e = .returned (.agg #[.int .i64 (RT k p : Nat), .int .i64 (PT k p : Nat)]) ∧ Below w.heap.size w w' := by
  have F := fact_of hk hp
  have hl := (pxN_le hk).1
  have hx : ((xB k p : Nat) : Int) < sdI k := by rw [sd_nat]; have := F.x; omega
  have hy : ((yB k p : Nat) : Int) < sdI k := by rw [sd_nat]; have := F.y; omega
  have hf : ((fB k p : Nat) : Int) < 12 := by have := F.f; omega
  have cS := fun W => spotOf_any k p hk (by omega) W
  have cR : ∀ W, Calls Try.prog 116 #[.agg #[.int .i64 (fB k p : Nat), .int .i64 (xB k p : Nat), .int .i64 (yB k p : Nat)], .int .i64 (k : Int)] W fun e w' => e = .returned (.int .i64 (RT k p : Nat)) ∧ Below W.heap.size W w' :=
    fun W => (ring_any k hk _ _ _ (by omega) hf (by omega) (by have := sd_bd hk; omega) (by omega) (by have := sd_bd hk; omega) W).mono fun _ _ h => ⟨by rw [h.1, F.ring], h.2⟩
  have cP : ∀ W, Calls Try.prog 117 #[.agg #[.int .i64 (fB k p : Nat), .int .i64 (xB k p : Nat), .int .i64 (yB k p : Nat)], .int .i64 (k : Int)] W fun e w' => e = .returned (.int .i64 (PT k p : Nat)) ∧ Below W.heap.size W w' :=
    fun W => (place_any k hk _ _ _ (by omega) hf (by omega) hx (by omega) hy W).mono fun _ _ h => ⟨by rw [h.1, F.place], h.2⟩
  have CS := Lib.hid cS
  have CR := Lib.hid cR
  have CP := Lib.hid cP
  clear cS cR cP F hx hy hf hp hl
  generalize ((fB k p : Nat) : Int) = f at *
  generalize ((xB k p : Nat) : Int) = x at *
  generalize ((yB k p : Nat) : Int) = y at *
  generalize ((RT k p : Nat) : Int) = R at *
  generalize ((PT k p : Nat) : Int) = P at *
  go_enter Try.func79, Try.ntmps79
  go_wp2_with (go_at_call 70; refine (CS.out _).mono ?_; rintro e w1 ⟨rfl, hB1⟩; have b0 := (hB1.block w.heap.size (by simp; omega)).trans (heap_alloc2_old w _ _); have b1 := (hB1.block (w.heap.size + 1) (by simp)).trans (heap_alloc2_new w _ _); have z1 := hB1.size; simp at z1; have hW1 : Below w.heap.size w w1 := (Below.trans (by repeat (first | with_reducible exact Below.refl _ _ | with_reducible assumption | refine below_drewN ?_ _ | with_reducible refine Below.drew ?_ | (refine Below.setCell ?_ (by first | (simp; done) | (simp; omega) | omega) _) | (refine Below.alloc ?_ (by first | (simp; done) | (simp; omega) | omega) _))) (hB1.mono (by first | (simp; done) | (simp; omega) | omega))); clear hB1; have d0 := cell_of_row w1 _ 0 _ _ _ b0; have e0 := cell_of_row w1 _ 0 _ _ _ b1; have e1 := cell_of_row w1 _ 1 _ _ _ b1; have j0 := blk_frozen b1 0; have j1 := blk_frozen b1 1; simp at d0 e0 e1; clear b0 b1)
  have g0 : w.heap.size < w1.heap.size := by omega
  have g1 : w.heap.size + 1 < w1.heap.size := by omega
  have c0 := cell_new w1 #[.int .i64 f, .int .i64 x, .int .i64 y] 72 0 rfl
  have c1 := cell_new w1 #[.int .i64 f, .int .i64 x, .int .i64 y] 72 1 rfl
  have c2 := cell_new w1 #[.int .i64 f, .int .i64 x, .int .i64 y] 72 2 rfl
  have zz : w1.heap.size < (w1.alloc (.cells #[.int .i64 f, .int .i64 x, .int .i64 y] 72)).heap.size := by simp
  have HW : Hid (Below w.heap.size w (w1.alloc (.cells #[.int .i64 f, .int .i64 x, .int .i64 y] 72))) := Lib.hid (Below.alloc hW1 (by omega) _)
  have d0 := (cell_alloc_old w1 (.cells #[.int .i64 f, .int .i64 x, .int .i64 y] 72) _ 0 g0).trans d0
  have e0 := (cell_alloc_old w1 (.cells #[.int .i64 f, .int .i64 x, .int .i64 y] 72) _ 0 g1).trans e0
  have e1 := (cell_alloc_old w1 (.cells #[.int .i64 f, .int .i64 x, .int .i64 y] 72) _ 1 g1).trans e1
  have j0 := (frozen_alloc_old w1 (.cells #[.int .i64 f, .int .i64 x, .int .i64 y] 72) _ 0 g1).trans j0
  have j1 := (frozen_alloc_old w1 (.cells #[.int .i64 f, .int .i64 x, .int .i64 y] 72) _ 1 g1).trans j1
  have n1 : w1.heap.size ≠ w.heap.size + 1 := by omega
  have n0 : w.heap.size ≠ w.heap.size + 1 := by omega
  go_region_held3 (fun W => W.cell? ⟨w1.heap.size, 0, none⟩ = some (.int .i64 f) ∧ W.cell? ⟨w1.heap.size, 1, none⟩ = some (.int .i64 x) ∧ W.cell? ⟨w1.heap.size, 2, none⟩ = some (.int .i64 y) ∧ W.cell? ⟨w.heap.size, 0, none⟩ = some (.int .i64 (k : Int)))
    ((first | with_reducible exact ⟨c0, c1, c2, d0⟩ | exact ⟨(cell_set2 _ n1).trans c0, (cell_set2 _ n1).trans c1, (cell_set2 _ n1).trans c2, (cell_set2 _ n0).trans d0⟩ | exact ⟨c0, c1, c2, d0⟩))
    ((first
      | (go_at_call 116; refine (CR.out _).mono ?_; rintro e w3 ⟨rfl, hB3⟩; have c0 := (hB3.cell (p := ⟨w1.heap.size, 0, none⟩) zz).trans c0; have c1 := (hB3.cell (p := ⟨w1.heap.size, 1, none⟩) zz).trans c1; have c2 := (hB3.cell (p := ⟨w1.heap.size, 2, none⟩) zz).trans c2; have d0 := (hB3.cell (p := ⟨w.heap.size, 0, none⟩) (Nat.lt_trans g0 zz)).trans d0; have e0 := (hB3.cell (p := ⟨w.heap.size + 1, 0, none⟩) (Nat.lt_trans g1 zz)).trans e0; have e1 := (hB3.cell (p := ⟨w.heap.size + 1, 1, none⟩) (Nat.lt_trans g1 zz)).trans e1; have j0 := (hB3.frozen (p := ⟨w.heap.size + 1, 0, none⟩) (Nat.lt_trans g1 zz)).trans j0; have j1 := (hB3.frozen (p := ⟨w.heap.size + 1, 1, none⟩) (Nat.lt_trans g1 zz)).trans j1; have ZZ := zz; have zz := Nat.lt_of_lt_of_le zz hB3.size; have HW : Hid (Below w.heap.size w _) := Lib.hid (Below.trans (by first | exact HW.out | exact Below.drew HW.out | exact below_drewN HW.out _) (hB3.mono (Nat.le_of_lt (Nat.lt_trans g0 ZZ)))); clear hB3)
      | (go_at_call 117; refine (CP.out _).mono ?_; rintro e w3 ⟨rfl, hB3⟩; have c0 := (hB3.cell (p := ⟨w1.heap.size, 0, none⟩) zz).trans c0; have c1 := (hB3.cell (p := ⟨w1.heap.size, 1, none⟩) zz).trans c1; have c2 := (hB3.cell (p := ⟨w1.heap.size, 2, none⟩) zz).trans c2; have d0 := (hB3.cell (p := ⟨w.heap.size, 0, none⟩) (Nat.lt_trans g0 zz)).trans d0; have e0 := (hB3.cell (p := ⟨w.heap.size + 1, 0, none⟩) (Nat.lt_trans g1 zz)).trans e0; have e1 := (hB3.cell (p := ⟨w.heap.size + 1, 1, none⟩) (Nat.lt_trans g1 zz)).trans e1; have j0 := (hB3.frozen (p := ⟨w.heap.size + 1, 0, none⟩) (Nat.lt_trans g1 zz)).trans j0; have j1 := (hB3.frozen (p := ⟨w.heap.size + 1, 1, none⟩) (Nat.lt_trans g1 zz)).trans j1; have ZZ := zz; have zz := Nat.lt_of_lt_of_le zz hB3.size; have HW : Hid (Below w.heap.size w _) := Lib.hid (Below.trans (by first | exact HW.out | exact Below.drew HW.out | exact below_drewN HW.out _) (hB3.mono (Nat.le_of_lt (Nat.lt_trans g0 ZZ)))); clear hB3)))
  all_goals
    go_wp2
    exact bodyPost_ret (v := .agg #[.int .i64 R, .int .i64 P]) (by simp [results, Try.results79, go_sem, e0, e1]) rfl ⟨rfl, Below.setCell (Below.setCell HW.out (Nat.le_succ _) _) (Nat.le_succ _) _⟩
end Go.Proofs.Ytnnfnphmieikmaa
