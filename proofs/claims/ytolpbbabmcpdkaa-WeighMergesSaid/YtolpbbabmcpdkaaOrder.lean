/-
  Contracts: order (weigh).
-/
import Derived.Test.YtolpbbabmcpdkaaBef
set_option linter.unusedVariables false
set_option linter.unusedSimpArgs false
namespace Go.Proofs.Ytolpbbabmcpdkaa
open Go.RowKit

def ordF (ea eb x y : Bool) (l : Int) : Int := if ea != eb then (if ea then 1 else -1) else if x then -1 else if y then 1 else l
theorem Od.nn {ns ss : List Int} (h : Od ns ss) : ∀ a, 0 ≤ ns.getD a 0 := fun a => (getD_bd (by omega) h.nb a).1
theorem Od.sn {ns ss : List Int} (h : Od ns ss) : ∀ a, 0 ≤ ss.getD a 0 := fun a => (getD_bd (by omega) h.sb a).1
/-- The order of the row is that of the ranks. -/
theorem ord_rank {ns ss : List Int} (h : Od ns ss) {a b : Nat} (ha : a < ns.length) (hb : b < ns.length) :
    ordF (empB ns ss a) (empB ns ss b) (gtB ns ss a b) (gtB ns ss b a) (cmpV a b) = cmpV (rankN ns ss a) (rankN ns ss b) := by
  have r1 := rank_iff h.nn h.sn ha hb
  have r2 := rank_iff h.nn h.sn hb ha
  have g1 := fun q => gt_asym (ns := ns) (ss := ss) (a := a) (b := b) q
  have g2 : (a : Int) < b ↔ a < b := by omega
  have g3 : (b : Int) < a ↔ b < a := by omega
  unfold befB at r1 r2
  have l1 : decide (a < b) = true ↔ a < b := decide_eq_true_iff
  have l2 : decide (b < a) = true ↔ b < a := decide_eq_true_iff
  have l3 : decide (a < b) = false ↔ ¬ a < b := decide_eq_false_iff_not
  have l4 : decide (b < a) = false ↔ ¬ b < a := decide_eq_false_iff_not
  unfold ordF cmpV
  cases ea : empB ns ss a <;> cases eb : empB ns ss b <;> cases gab : gtB ns ss a b <;> cases gba : gtB ns ss b a <;> cases la : decide (a < b) <;> cases lb : decide (b < a) <;> rw [ea, eb, gab, gba] at r1 r2 <;> rw [la] at r1 l1 l3 <;> rw [lb] at r2 l2 l4 <;> rw [gab, gba] at g1 <;> simp [befF] at * <;> (try omega) <;> (repeat' split) <;> omega

set_option maxRecDepth 100000 in
set_option maxHeartbeats 4000000 in
theorem order_any (ns ss : List Int) (A B : Option Addr) (c d : Nat) (ho : Od ns ss) (a b : Nat) (ha : a < ns.length) (hb : b < ns.length) (w : World) (hA : Ints w A ns) (hB : Ints w B ss) :
    Calls Try.prog 103 #[.agg #[.slice A ns.length c, .slice B ss.length d, .int .i64 ns.sum, .int .i64 ss.sum], .int .i64 a, .int .i64 b] w fun e w' => e = .returned (.int .i64 (cmpV (rankN ns ss a) (rankN ns ss b))) ∧ Below w.heap.size w w' := by
  rw [← ord_rank ho ha hb]
  obtain ⟨W0, hW0, HW, H0, z0⟩ := one_new w #[.slice A ns.length c, .slice B ss.length d, .int .i64 ns.sum, .int .i64 ss.sum] 67
  have b0 : World.cell? _ ⟨_, 0, none⟩ = some (.slice A ns.length c) := blk_cell H0.out 0 rfl
  have b1 : World.cell? _ ⟨_, 1, none⟩ = some (.slice B ss.length d) := blk_cell H0.out 1 rfl
  have b2 : World.cell? _ ⟨_, 2, none⟩ = some (.int .i64 ns.sum) := blk_cell H0.out 2 rfl
  have b3 : World.cell? _ ⟨_, 3, none⟩ = some (.int .i64 ss.sum) := blk_cell H0.out 3 rfl
  have HA := Lib.hid hA
  have HB := Lib.hid hB
  clear hA hB
  obtain ⟨ea, ha1⟩ : ∃ x, empB ns ss a = x := ⟨_, rfl⟩
  obtain ⟨eb, hb1⟩ : ∃ x, empB ns ss b = x := ⟨_, rfl⟩
  obtain ⟨x, hx1⟩ : ∃ x, gtB ns ss a b = x := ⟨_, rfl⟩
  obtain ⟨y, hy1⟩ : ∃ x, gtB ns ss b a = x := ⟨_, rfl⟩
  rw [ha1, hb1, hx1, hy1]
  have Ea := Lib.hid ha1
  have Eb := Lib.hid hb1
  have Gab := Lib.hid hx1
  have Gba := Lib.hid hy1
  clear ha1 hb1 hx1 hy1
  go_enter Try.func103, Try.ntmps103
  go_wp2
  rw [← hW0]
  clear hW0
  go_region_held3 (fun W => W.cell? ⟨w.heap.size, 0, none⟩ = some (.slice A ns.length c) ∧ W.cell? ⟨w.heap.size, 1, none⟩ = some (.slice B ss.length d) ∧ W.cell? ⟨w.heap.size, 2, none⟩ = some (.int .i64 ns.sum) ∧ W.cell? ⟨w.heap.size, 3, none⟩ = some (.int .i64 ss.sum))
    ((first | with_reducible exact ⟨b0, b1, b2, b3⟩ | (refine ⟨?_, ?_, ?_, ?_⟩ <;> (repeat (first | with_reducible refine (cell_set1 _ z0).trans ?_ | with_reducible refine (cell_drew1 _ _).trans ?_)) <;> first | with_reducible exact b0 | with_reducible exact b1 | with_reducible exact b2 | with_reducible exact b3)))
    ((first
    | (go_at_call 114; with_reducible refine (empty_any ns ss A B c d ho a ha _ (HA.out.below (by first | exact HW.out | exact Below.drew HW.out | exact below_drewN HW.out _)) (HB.out.below (by first | exact HW.out | exact Below.drew HW.out | exact below_drewN HW.out _))).mono ?_; rintro e w1 ⟨rfl, hB1⟩; rw [Ea.out]; have H0 := Lib.hid ((hB1.block _ z0).trans H0.out); have z0 := Nat.lt_of_lt_of_le z0 hB1.size; have b0 : World.cell? _ ⟨_, 0, none⟩ = some (.slice A ns.length c) := blk_cell H0.out 0 rfl; have b1 : World.cell? _ ⟨_, 1, none⟩ = some (.slice B ss.length d) := blk_cell H0.out 1 rfl; have b2 : World.cell? _ ⟨_, 2, none⟩ = some (.int .i64 ns.sum) := blk_cell H0.out 2 rfl; have b3 : World.cell? _ ⟨_, 3, none⟩ = some (.int .i64 ss.sum) := blk_cell H0.out 3 rfl; have HW : Hid (Below w.heap.size w _) := Lib.hid (below_step (by first | exact HW.out | exact Below.drew HW.out | exact below_drewN HW.out _) hB1); clear hB1)
    | (go_at_call 114; with_reducible refine (empty_any ns ss A B c d ho b hb _ (HA.out.below (by first | exact HW.out | exact Below.drew HW.out | exact below_drewN HW.out _)) (HB.out.below (by first | exact HW.out | exact Below.drew HW.out | exact below_drewN HW.out _))).mono ?_; rintro e w2 ⟨rfl, hB2⟩; rw [Eb.out]; have H0 := Lib.hid ((hB2.block _ z0).trans H0.out); have z0 := Nat.lt_of_lt_of_le z0 hB2.size; have b0 : World.cell? _ ⟨_, 0, none⟩ = some (.slice A ns.length c) := blk_cell H0.out 0 rfl; have b1 : World.cell? _ ⟨_, 1, none⟩ = some (.slice B ss.length d) := blk_cell H0.out 1 rfl; have b2 : World.cell? _ ⟨_, 2, none⟩ = some (.int .i64 ns.sum) := blk_cell H0.out 2 rfl; have b3 : World.cell? _ ⟨_, 3, none⟩ = some (.int .i64 ss.sum) := blk_cell H0.out 3 rfl; have HW : Hid (Below w.heap.size w _) := Lib.hid (below_step (by first | exact HW.out | exact Below.drew HW.out | exact below_drewN HW.out _) hB2); clear hB2)))
  all_goals
    cases ea <;> cases eb <;> cases x <;> cases y <;> (
      go_wp2_with (first
    | (go_at_call 114; with_reducible refine (empty_any ns ss A B c d ho a ha _ (HA.out.below (by first | exact HW.out | exact Below.drew HW.out | exact below_drewN HW.out _)) (HB.out.below (by first | exact HW.out | exact Below.drew HW.out | exact below_drewN HW.out _))).mono ?_; rintro e w3 ⟨rfl, hB3⟩; rw [Ea.out]; have H0 := Lib.hid ((hB3.block _ z0).trans H0.out); have z0 := Nat.lt_of_lt_of_le z0 hB3.size; have b0 : World.cell? _ ⟨_, 0, none⟩ = some (.slice A ns.length c) := blk_cell H0.out 0 rfl; have b1 : World.cell? _ ⟨_, 1, none⟩ = some (.slice B ss.length d) := blk_cell H0.out 1 rfl; have b2 : World.cell? _ ⟨_, 2, none⟩ = some (.int .i64 ns.sum) := blk_cell H0.out 2 rfl; have b3 : World.cell? _ ⟨_, 3, none⟩ = some (.int .i64 ss.sum) := blk_cell H0.out 3 rfl; have HW : Hid (Below w.heap.size w _) := Lib.hid (below_step (by first | exact HW.out | exact Below.drew HW.out | exact below_drewN HW.out _) hB3); clear hB3)
    | (go_at_call 111; with_reducible refine (before_any ns ss A B c d ho a b ha hb _ (HA.out.below (by first | exact HW.out | exact Below.drew HW.out | exact below_drewN HW.out _)) (HB.out.below (by first | exact HW.out | exact Below.drew HW.out | exact below_drewN HW.out _))).mono ?_; rintro e w4 ⟨rfl, hB4⟩; rw [Gab.out]; have H0 := Lib.hid ((hB4.block _ z0).trans H0.out); have z0 := Nat.lt_of_lt_of_le z0 hB4.size; have b0 : World.cell? _ ⟨_, 0, none⟩ = some (.slice A ns.length c) := blk_cell H0.out 0 rfl; have b1 : World.cell? _ ⟨_, 1, none⟩ = some (.slice B ss.length d) := blk_cell H0.out 1 rfl; have b2 : World.cell? _ ⟨_, 2, none⟩ = some (.int .i64 ns.sum) := blk_cell H0.out 2 rfl; have b3 : World.cell? _ ⟨_, 3, none⟩ = some (.int .i64 ss.sum) := blk_cell H0.out 3 rfl; have HW : Hid (Below w.heap.size w _) := Lib.hid (below_step (by first | exact HW.out | exact Below.drew HW.out | exact below_drewN HW.out _) hB4); clear hB4)
    | (go_at_call 111; with_reducible refine (before_any ns ss A B c d ho b a hb ha _ (HA.out.below (by first | exact HW.out | exact Below.drew HW.out | exact below_drewN HW.out _)) (HB.out.below (by first | exact HW.out | exact Below.drew HW.out | exact below_drewN HW.out _))).mono ?_; rintro e w5 ⟨rfl, hB5⟩; rw [Gba.out]; have H0 := Lib.hid ((hB5.block _ z0).trans H0.out); have z0 := Nat.lt_of_lt_of_le z0 hB5.size; have b0 : World.cell? _ ⟨_, 0, none⟩ = some (.slice A ns.length c) := blk_cell H0.out 0 rfl; have b1 : World.cell? _ ⟨_, 1, none⟩ = some (.slice B ss.length d) := blk_cell H0.out 1 rfl; have b2 : World.cell? _ ⟨_, 2, none⟩ = some (.int .i64 ns.sum) := blk_cell H0.out 2 rfl; have b3 : World.cell? _ ⟨_, 3, none⟩ = some (.int .i64 ss.sum) := blk_cell H0.out 3 rfl; have HW : Hid (Below w.heap.size w _) := Lib.hid (below_step (by first | exact HW.out | exact Below.drew HW.out | exact below_drewN HW.out _) hB5); clear hB5)
    | (go_at_call 108; with_reducible refine (compare_any (a : Int) (b : Int) _).mono ?_; rintro e w9 ⟨rfl, rfl⟩))
      go_ret
      exact ⟨rfl, (by repeat (first | with_reducible exact HW.out | with_reducible exact Below.refl _ _ | with_reducible refine below_drewN ?_ _ | with_reducible refine Below.drew ?_ | (with_reducible refine Below.setCell ?_ (by first | exact Nat.le_refl _ | exact Nat.le_succ _ | (simp; done) | (simp; omega) | omega) _) | (with_reducible refine Below.alloc ?_ (by first | exact HW.out.size | (simp; done) | (simp; omega) | omega) _)))⟩)
end Go.Proofs.Ytolpbbabmcpdkaa
