/-
  Contracts: summed, withCut (weigh), asked (firnref07).
-/
import Derived.Test.YtolpbbabmcpdkaaCutB
import Derived.Test.YtolpbbabmcpdkaaRatio
set_option linter.unusedVariables false
set_option linter.unusedSimpArgs false
namespace Go.Proofs.Ytolpbbabmcpdkaa
open Go.RowKit

theorem blk_cell {w : World} {g : Nat} {cs : Array Value} {t : TypeId} (h : w.heap[g]? = some (.cells cs t (0, 0))) (i : Nat) {u : Value} (hu : cs[i]? = some u) : w.cell? ⟨g, i, none⟩ = some u := (cell_of_row w g i cs t (0, 0) h).trans hu
theorem heap_alloc2_old (w : World) (x y : Obj) : ((w.alloc x).alloc y).heap[w.heap.size]? = some x := (Below.heap_alloc (w.alloc x) y w.heap.size (by simp)).trans (heap_alloc_new w x)
theorem cell_set1 (w : World) {g i : Nat} {v : Value} {p : Addr} (h : p.block ≠ g) : (w.setCell ⟨g, i, none⟩ v).cell? p = w.cell? p := World.cell?_setCell_other w _ p v (by rintro rfl; exact h rfl)
theorem heap_alloc2_new (w : World) (x y : Obj) : ((w.alloc x).alloc y).heap[w.heap.size + 1]? = some y := by
  have := heap_alloc_new (w.alloc x) y
  simpa using this
theorem cell_drew1 (w : World) (p : Addr) : w.drew.cell? p = w.cell? p := rfl
theorem Od.nb9 {ns ss : List Int} (h : Od ns ss) : ∀ z ∈ ns, 0 ≤ z ∧ z ≤ 1000000000 := fun z hz => by have := h.nb z hz; omega
theorem Od.sb9 {ns ss : List Int} (h : Od ns ss) : ∀ z ∈ ss, 0 ≤ z ∧ z ≤ 1000000000 := fun z hz => by have := h.sb z hz; omega
theorem Od.l3 {ns ss : List Int} (h : Od ns ss) : ns.length ≤ 1000 ∧ ss.length ≤ 1000 := by have := h.le; have := h.len; omega
/-- A box and a result, made one behind the other. -/
theorem two_new (w : World) (xs ys : Array Value) (s t : TypeId) : ∃ W0, W0 = (w.alloc (.cells xs s)).alloc (.cells ys t) ∧ Hid (Below w.heap.size w W0) ∧ Hid (W0.heap[w.heap.size]? = some (.cells xs s (0, 0))) ∧ Hid (W0.heap[w.heap.size + 1]? = some (.cells ys t (0, 0))) ∧ w.heap.size < W0.heap.size ∧ w.heap.size + 1 < W0.heap.size :=
  ⟨_, rfl, ((Below.refl _ _).alloc (Nat.le_refl _) _).alloc (by simp) _, heap_alloc2_old w _ _, heap_alloc2_new w _ _, by simp; omega, by simp⟩
theorem one_new (w : World) (xs : Array Value) (s : TypeId) : ∃ W0, W0 = w.alloc (.cells xs s) ∧ Hid (Below w.heap.size w W0) ∧ Hid (W0.heap[w.heap.size]? = some (.cells xs s (0, 0))) ∧ w.heap.size < W0.heap.size :=
  ⟨_, rfl, (Below.refl _ _).alloc (Nat.le_refl _) _, heap_alloc_new w _, by simp⟩

set_option maxRecDepth 100000 in
set_option maxHeartbeats 1000000 in
theorem summed_no (ns ss : List Int) (A B : Option Addr) (c d : Nat) (w : World) (hA : Ints w A ns) (hB : Ints w B ss) (hl : ns.length ≤ 1000) (hl2 : ss.length ≤ 1000) (hv : odB ns ss = false) :
    Calls Try.prog 72 #[.agg #[.slice A ns.length c, .slice B ss.length d]] w fun e w' => e = .returned (.tuple #[.agg #[.slice none 0 0, .slice none 0 0, .int .i64 0, .int .i64 0], .int .i64 70]) ∧ Below w.heap.size w w' := by
  have HA := Lib.hid hA
  have HB := Lib.hid hB
  clear hA hB
  have HV := Lib.hid hv
  clear hv
  obtain ⟨W0, hW0, HW, H0, H1, z0, z1⟩ := two_new w #[.slice A ns.length c, .slice B ss.length d] #[.slice none 0 0, .slice none 0 0, .int .i64 0, .int .i64 0] 24 67
  go_enter Try.func72, Try.ntmps72
  go_wp2_with (go_at_call 21; with_reducible refine (valid_any ns ss _ _ _ _ _ (HA.out.below (by repeat (first | with_reducible exact Below.refl _ _ | with_reducible assumption | refine below_drewN ?_ _ | with_reducible refine Below.drew ?_ | (refine Below.setCell ?_ (by first | (simp; done) | (simp; omega) | omega) _) | (refine Below.alloc ?_ (by first | (simp; done) | (simp; omega) | omega) _)))) (HB.out.below (by repeat (first | with_reducible exact Below.refl _ _ | with_reducible assumption | refine below_drewN ?_ _ | with_reducible refine Below.drew ?_ | (refine Below.setCell ?_ (by first | (simp; done) | (simp; omega) | omega) _) | (refine Below.alloc ?_ (by first | (simp; done) | (simp; omega) | omega) _)))) hl hl2).mono ?_; rintro e w1 ⟨rfl, hB1⟩; rw [HV.out]; rw [← hW0] at hB1; have H0 := Lib.hid ((hB1.block _ z0).trans H0.out); have z0 := Nat.lt_of_lt_of_le z0 hB1.size; have b0 : World.cell? _ ⟨_, 0, none⟩ = some (.slice A ns.length c) := blk_cell H0.out 0 rfl; have b1 : World.cell? _ ⟨_, 1, none⟩ = some (.slice B ss.length d) := blk_cell H0.out 1 rfl; have H1 := Lib.hid ((hB1.block _ z1).trans H1.out); have z1 := Nat.lt_of_lt_of_le z1 hB1.size; have c0 : World.cell? _ ⟨_, 0, none⟩ = some (.slice none 0 0) := blk_cell H1.out 0 rfl; have c1 : World.cell? _ ⟨_, 1, none⟩ = some (.slice none 0 0) := blk_cell H1.out 1 rfl; have c2 : World.cell? _ ⟨_, 2, none⟩ = some (.int .i64 0) := blk_cell H1.out 2 rfl; have c3 : World.cell? _ ⟨_, 3, none⟩ = some (.int .i64 0) := blk_cell H1.out 3 rfl; have cf0 := blk_frozen H1.out 0; have cf1 := blk_frozen H1.out 1; have cf2 := blk_frozen H1.out 2; have cf3 := blk_frozen H1.out 3; have HW : Hid (Below w.heap.size w _) := Lib.hid (Below.trans (by first | exact HW.out | exact Below.drew HW.out | exact below_drewN HW.out _) (hB1.mono HW.out.size)); clear hB1)
  exact bodyPost_ret (v := .tuple #[.agg #[.slice none 0 0, .slice none 0 0, .int .i64 0, .int .i64 0], .int .i64 70]) (by simp [results, Try.results72, go_sem, c0, c1, c2, c3]) rfl ⟨rfl, (by repeat (first | with_reducible exact HW.out | with_reducible exact Below.refl _ _ | with_reducible refine below_drewN ?_ _ | with_reducible refine Below.drew ?_ | (with_reducible refine Below.setCell ?_ (by first | exact Nat.le_refl _ | exact Nat.le_succ _ | (simp; done) | (simp; omega) | omega) _) | (with_reducible refine Below.alloc ?_ (by first | exact HW.out.size | (simp; done) | (simp; omega) | omega) _)))⟩

set_option maxRecDepth 100000 in
set_option maxHeartbeats 1000000 in
theorem summed_yes (ns ss : List Int) (A B : Option Addr) (c d : Nat) (w : World) (hA : Ints w A ns) (hB : Ints w B ss) (hv : odB ns ss = true) :
    Calls Try.prog 72 #[.agg #[.slice A ns.length c, .slice B ss.length d]] w fun e w' => e = .returned (.tuple #[.agg #[.slice A ns.length c, .slice B ss.length d, .int .i64 ns.sum, .int .i64 ss.sum], .int .i64 0]) ∧ Below w.heap.size w w' := by
  have HA := Lib.hid hA
  have HB := Lib.hid hB
  clear hA hB
  have HV := Lib.hid hv
  have HO := Lib.hid (od_of hv)
  obtain ⟨hl, hl2⟩ := HO.out.l3
  clear hv
  obtain ⟨W0, hW0, HW, H0, H1, z0, z1⟩ := two_new w #[.slice A ns.length c, .slice B ss.length d] #[.slice none 0 0, .slice none 0 0, .int .i64 0, .int .i64 0] 24 67
  have n01 : w.heap.size ≠ w.heap.size + 1 := by omega
  go_enter Try.func72, Try.ntmps72
  go_wp2_with (go_at_call 21; with_reducible refine (valid_any ns ss _ _ _ _ _ (HA.out.below (by repeat (first | with_reducible exact Below.refl _ _ | with_reducible assumption | refine below_drewN ?_ _ | with_reducible refine Below.drew ?_ | (refine Below.setCell ?_ (by first | (simp; done) | (simp; omega) | omega) _) | (refine Below.alloc ?_ (by first | (simp; done) | (simp; omega) | omega) _)))) (HB.out.below (by repeat (first | with_reducible exact Below.refl _ _ | with_reducible assumption | refine below_drewN ?_ _ | with_reducible refine Below.drew ?_ | (refine Below.setCell ?_ (by first | (simp; done) | (simp; omega) | omega) _) | (refine Below.alloc ?_ (by first | (simp; done) | (simp; omega) | omega) _)))) hl hl2).mono ?_; rintro e w1 ⟨rfl, hB1⟩; rw [HV.out]; rw [← hW0] at hB1; have H0 := Lib.hid ((hB1.block _ z0).trans H0.out); have z0 := Nat.lt_of_lt_of_le z0 hB1.size; have b0 : World.cell? _ ⟨_, 0, none⟩ = some (.slice A ns.length c) := blk_cell H0.out 0 rfl; have b1 : World.cell? _ ⟨_, 1, none⟩ = some (.slice B ss.length d) := blk_cell H0.out 1 rfl; have H1 := Lib.hid ((hB1.block _ z1).trans H1.out); have z1 := Nat.lt_of_lt_of_le z1 hB1.size; have c0 : World.cell? _ ⟨_, 0, none⟩ = some (.slice none 0 0) := blk_cell H1.out 0 rfl; have c1 : World.cell? _ ⟨_, 1, none⟩ = some (.slice none 0 0) := blk_cell H1.out 1 rfl; have c2 : World.cell? _ ⟨_, 2, none⟩ = some (.int .i64 0) := blk_cell H1.out 2 rfl; have c3 : World.cell? _ ⟨_, 3, none⟩ = some (.int .i64 0) := blk_cell H1.out 3 rfl; have cf0 := blk_frozen H1.out 0; have cf1 := blk_frozen H1.out 1; have cf2 := blk_frozen H1.out 2; have cf3 := blk_frozen H1.out 3; have HW : Hid (Below w.heap.size w _) := Lib.hid (Below.trans (by first | exact HW.out | exact Below.drew HW.out | exact below_drewN HW.out _) (hB1.mono HW.out.size)); clear hB1)
  go_region_held3 (fun W => W.cell? ⟨w.heap.size, 0, none⟩ = some (.slice A ns.length c) ∧ W.cell? ⟨w.heap.size, 1, none⟩ = some (.slice B ss.length d))
    ((first | with_reducible exact ⟨b0, b1⟩ | (refine ⟨?_, ?_⟩ <;> (repeat (first | with_reducible refine (cell_set1 _ n01).trans ?_ | with_reducible refine (cell_drew1 _ _).trans ?_)) <;> first | with_reducible exact b0 | with_reducible exact b1)))
    ((first
    | (go_at_call 101; with_reducible refine (sum_any ns _ _ _ (HA.out.below (by first | exact HW.out | exact Below.drew HW.out | exact below_drewN HW.out _)) hl HO.out.nb9).mono ?_; rintro e w2 ⟨rfl, rfl⟩)
    | (go_at_call 101; with_reducible refine (sum_any ss _ _ _ (HB.out.below (by first | exact HW.out | exact Below.drew HW.out | exact below_drewN HW.out _)) hl2 HO.out.sb9).mono ?_; rintro e w2 ⟨rfl, rfl⟩)))
  all_goals
    go_wp2
    exact bodyPost_ret (v := .tuple #[.agg #[.slice A ns.length c, .slice B ss.length d, .int .i64 ns.sum, .int .i64 ss.sum], .int .i64 0]) (by simp [results, Try.results72, go_sem, c0, c1, c2, c3]) rfl ⟨rfl, (by repeat (first | with_reducible exact HW.out | with_reducible exact Below.refl _ _ | with_reducible refine below_drewN ?_ _ | with_reducible refine Below.drew ?_ | (with_reducible refine Below.setCell ?_ (by first | exact Nat.le_refl _ | exact Nat.le_succ _ | (simp; done) | (simp; omega) | omega) _) | (with_reducible refine Below.alloc ?_ (by first | exact HW.out.size | (simp; done) | (simp; omega) | omega) _)))⟩
end Go.Proofs.Ytolpbbabmcpdkaa
