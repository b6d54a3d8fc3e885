/-
  Contracts: Merged, both sides; the reference's Swapped; Same.
-/
import Derived.Test.YtolpbbabmcpdkaaDelete
import Derived.Test.YtolpbbabmcpdkaaBothW
import Derived.Test.YtolpbbabmcpdkaaSameI
set_option linter.unusedVariables false
set_option linter.unusedSimpArgs false
namespace Go.Proofs.Ytolpbbabmcpdkaa
open Go.RowKit Go.Shelf

set_option maxRecDepth 100000 in
set_option maxHeartbeats 1000000 in
theorem wMerged_no (ns ss : List Int) (A B : Option Addr) (c d : Nat) (a b : Int) (w : World) (hA : Ints w A ns) (hB : Ints w B ss) (hl : ns.length ≤ 1000) (hl2 : ss.length ≤ 1000) (hv : odB ns ss = false) :
    Calls Try.prog 46 #[.agg #[.slice A ns.length c, .slice B ss.length d], .int .i64 a, .int .i64 b] w fun e w' => e = .returned (.tuple #[.agg #[.slice none 0 0, .slice none 0 0], .int .i64 70]) ∧ Below w.heap.size w w' := by
  have HA := Lib.hid hA
  have HB := Lib.hid hB
  have HV := Lib.hid hv
  clear hA hB hv
  obtain ⟨W0, hW0, HW, H0, H1, z0, z1⟩ := two_new w #[.slice A ns.length c, .slice B ss.length d] #[.slice none 0 0, .slice none 0 0] 24 24
  go_enter Try.func46, Try.ntmps46
  go_wp2_with (go_at_call 21; with_reducible refine (valid_any ns ss _ _ _ _ _ (HA.out.below (by repeat (first | with_reducible exact Below.refl _ _ | with_reducible assumption | refine below_drewN ?_ _ | with_reducible refine Below.drew ?_ | (refine Below.setCell ?_ (by first | (simp; done) | (simp; omega) | omega) _) | (refine Below.alloc ?_ (by first | (simp; done) | (simp; omega) | omega) _)))) (HB.out.below (by repeat (first | with_reducible exact Below.refl _ _ | with_reducible assumption | refine below_drewN ?_ _ | with_reducible refine Below.drew ?_ | (refine Below.setCell ?_ (by first | (simp; done) | (simp; omega) | omega) _) | (refine Below.alloc ?_ (by first | (simp; done) | (simp; omega) | omega) _)))) hl hl2).mono ?_; rintro e w1 ⟨rfl, hB1⟩; rw [HV.out]; rw [← hW0] at hB1; have H0 := Lib.hid ((hB1.block _ z0).trans H0.out); have z0 := Nat.lt_of_lt_of_le z0 hB1.size; have b0 : World.cell? _ ⟨_, 0, none⟩ = some (.slice A ns.length c) := blk_cell H0.out 0 rfl; have b1 : World.cell? _ ⟨_, 1, none⟩ = some (.slice B ss.length d) := blk_cell H0.out 1 rfl; have H1 := Lib.hid ((hB1.block _ z1).trans H1.out); have z1 := Nat.lt_of_lt_of_le z1 hB1.size; have c0 : World.cell? _ ⟨_, 0, none⟩ = some (.slice none 0 0) := blk_cell H1.out 0 rfl; have c1 : World.cell? _ ⟨_, 1, none⟩ = some (.slice none 0 0) := blk_cell H1.out 1 rfl; have cf0 := blk_frozen H1.out 0; have cf1 := blk_frozen H1.out 1; have HW : Hid (Below w.heap.size w _) := Lib.hid (below_step (by first | exact HW.out | exact Below.drew HW.out | exact below_drewN HW.out _) hB1); clear hB1)
  exact bodyPost_ret (v := .tuple #[.agg #[.slice none 0 0, .slice none 0 0], .int .i64 70]) (by simp [results, Try.results46, go_sem, c0, c1]) rfl ⟨rfl, (by repeat (first | with_reducible exact HW.out | with_reducible exact Below.refl _ _ | with_reducible refine below_drewN ?_ _ | with_reducible refine Below.drew ?_ | (with_reducible refine Below.setCell ?_ (by first | exact Nat.le_refl _ | exact Nat.le_succ _ | (simp; done) | (simp; omega) | omega) _) | (with_reducible refine Below.alloc ?_ (by first | exact HW.out.size | (simp; done) | (simp; omega) | omega) _)))⟩

set_option maxRecDepth 100000 in
set_option maxHeartbeats 1000000 in
theorem wMerged_a0 (ns ss : List Int) (A B : Option Addr) (c d : Nat) (a b : Int) (w : World) (hA : Ints w A ns) (hB : Ints w B ss) (hl : ns.length ≤ 1000) (hl2 : ss.length ≤ 1000) (hv : odB ns ss = true) (h : a < 0) :
    Calls Try.prog 46 #[.agg #[.slice A ns.length c, .slice B ss.length d], .int .i64 a, .int .i64 b] w fun e w' => e = .returned (.tuple #[.agg #[.slice none 0 0, .slice none 0 0], .int .i64 2]) ∧ Below w.heap.size w w' := by
  have HA := Lib.hid hA
  have HB := Lib.hid hB
  have HV := Lib.hid hv
  clear hA hB hv
  have t1 : decide (a < 0) = true := decide_eq_true h
  obtain ⟨W0, hW0, HW, H0, H1, z0, z1⟩ := two_new w #[.slice A ns.length c, .slice B ss.length d] #[.slice none 0 0, .slice none 0 0] 24 24
  go_enter Try.func46, Try.ntmps46
  go_wp2_with (go_at_call 21; with_reducible refine (valid_any ns ss _ _ _ _ _ (HA.out.below (by repeat (first | with_reducible exact Below.refl _ _ | with_reducible assumption | refine below_drewN ?_ _ | with_reducible refine Below.drew ?_ | (refine Below.setCell ?_ (by first | (simp; done) | (simp; omega) | omega) _) | (refine Below.alloc ?_ (by first | (simp; done) | (simp; omega) | omega) _)))) (HB.out.below (by repeat (first | with_reducible exact Below.refl _ _ | with_reducible assumption | refine below_drewN ?_ _ | with_reducible refine Below.drew ?_ | (refine Below.setCell ?_ (by first | (simp; done) | (simp; omega) | omega) _) | (refine Below.alloc ?_ (by first | (simp; done) | (simp; omega) | omega) _)))) hl hl2).mono ?_; rintro e w1 ⟨rfl, hB1⟩; rw [HV.out]; rw [← hW0] at hB1; have H0 := Lib.hid ((hB1.block _ z0).trans H0.out); have z0 := Nat.lt_of_lt_of_le z0 hB1.size; have b0 : World.cell? _ ⟨_, 0, none⟩ = some (.slice A ns.length c) := blk_cell H0.out 0 rfl; have b1 : World.cell? _ ⟨_, 1, none⟩ = some (.slice B ss.length d) := blk_cell H0.out 1 rfl; have H1 := Lib.hid ((hB1.block _ z1).trans H1.out); have z1 := Nat.lt_of_lt_of_le z1 hB1.size; have c0 : World.cell? _ ⟨_, 0, none⟩ = some (.slice none 0 0) := blk_cell H1.out 0 rfl; have c1 : World.cell? _ ⟨_, 1, none⟩ = some (.slice none 0 0) := blk_cell H1.out 1 rfl; have cf0 := blk_frozen H1.out 0; have cf1 := blk_frozen H1.out 1; have HW : Hid (Below w.heap.size w _) := Lib.hid (below_step (by first | exact HW.out | exact Below.drew HW.out | exact below_drewN HW.out _) hB1); clear hB1)
  exact bodyPost_ret (v := .tuple #[.agg #[.slice none 0 0, .slice none 0 0], .int .i64 2]) (by simp [results, Try.results46, go_sem, c0, c1]) rfl ⟨rfl, (by repeat (first | with_reducible exact HW.out | with_reducible exact Below.refl _ _ | with_reducible refine below_drewN ?_ _ | with_reducible refine Below.drew ?_ | (with_reducible refine Below.setCell ?_ (by first | exact Nat.le_refl _ | exact Nat.le_succ _ | (simp; done) | (simp; omega) | omega) _) | (with_reducible refine Below.alloc ?_ (by first | exact HW.out.size | (simp; done) | (simp; omega) | omega) _)))⟩

set_option maxRecDepth 100000 in
set_option maxHeartbeats 1000000 in
theorem wMerged_a1 (ns ss : List Int) (A B : Option Addr) (c d : Nat) (a b : Int) (w : World) (hA : Ints w A ns) (hB : Ints w B ss) (hl : ns.length ≤ 1000) (hl2 : ss.length ≤ 1000) (hv : odB ns ss = true) (h : 0 ≤ a ∧ b ≤ a) :
    Calls Try.prog 46 #[.agg #[.slice A ns.length c, .slice B ss.length d], .int .i64 a, .int .i64 b] w fun e w' => e = .returned (.tuple #[.agg #[.slice none 0 0, .slice none 0 0], .int .i64 2]) ∧ Below w.heap.size w w' := by
  have HA := Lib.hid hA
  have HB := Lib.hid hB
  have HV := Lib.hid hv
  clear hA hB hv
  have t1 : decide (a < 0) = false := decide_eq_false (by omega)
  have t2 : decide (b ≤ a) = true := decide_eq_true h.2
  obtain ⟨W0, hW0, HW, H0, H1, z0, z1⟩ := two_new w #[.slice A ns.length c, .slice B ss.length d] #[.slice none 0 0, .slice none 0 0] 24 24
  go_enter Try.func46, Try.ntmps46
  go_wp2_with (go_at_call 21; with_reducible refine (valid_any ns ss _ _ _ _ _ (HA.out.below (by repeat (first | with_reducible exact Below.refl _ _ | with_reducible assumption | refine below_drewN ?_ _ | with_reducible refine Below.drew ?_ | (refine Below.setCell ?_ (by first | (simp; done) | (simp; omega) | omega) _) | (refine Below.alloc ?_ (by first | (simp; done) | (simp; omega) | omega) _)))) (HB.out.below (by repeat (first | with_reducible exact Below.refl _ _ | with_reducible assumption | refine below_drewN ?_ _ | with_reducible refine Below.drew ?_ | (refine Below.setCell ?_ (by first | (simp; done) | (simp; omega) | omega) _) | (refine Below.alloc ?_ (by first | (simp; done) | (simp; omega) | omega) _)))) hl hl2).mono ?_; rintro e w1 ⟨rfl, hB1⟩; rw [HV.out]; rw [← hW0] at hB1; have H0 := Lib.hid ((hB1.block _ z0).trans H0.out); have z0 := Nat.lt_of_lt_of_le z0 hB1.size; have b0 : World.cell? _ ⟨_, 0, none⟩ = some (.slice A ns.length c) := blk_cell H0.out 0 rfl; have b1 : World.cell? _ ⟨_, 1, none⟩ = some (.slice B ss.length d) := blk_cell H0.out 1 rfl; have H1 := Lib.hid ((hB1.block _ z1).trans H1.out); have z1 := Nat.lt_of_lt_of_le z1 hB1.size; have c0 : World.cell? _ ⟨_, 0, none⟩ = some (.slice none 0 0) := blk_cell H1.out 0 rfl; have c1 : World.cell? _ ⟨_, 1, none⟩ = some (.slice none 0 0) := blk_cell H1.out 1 rfl; have cf0 := blk_frozen H1.out 0; have cf1 := blk_frozen H1.out 1; have HW : Hid (Below w.heap.size w _) := Lib.hid (below_step (by first | exact HW.out | exact Below.drew HW.out | exact below_drewN HW.out _) hB1); clear hB1)
  exact bodyPost_ret (v := .tuple #[.agg #[.slice none 0 0, .slice none 0 0], .int .i64 2]) (by simp [results, Try.results46, go_sem, c0, c1]) rfl ⟨rfl, (by repeat (first | with_reducible exact HW.out | with_reducible exact Below.refl _ _ | with_reducible refine below_drewN ?_ _ | with_reducible refine Below.drew ?_ | (with_reducible refine Below.setCell ?_ (by first | exact Nat.le_refl _ | exact Nat.le_succ _ | (simp; done) | (simp; omega) | omega) _) | (with_reducible refine Below.alloc ?_ (by first | exact HW.out.size | (simp; done) | (simp; omega) | omega) _)))⟩

set_option maxRecDepth 100000 in
set_option maxHeartbeats 1000000 in
theorem wMerged_a2 (ns ss : List Int) (A B : Option Addr) (c d : Nat) (a b : Int) (w : World) (hA : Ints w A ns) (hB : Ints w B ss) (hl : ns.length ≤ 1000) (hl2 : ss.length ≤ 1000) (hv : odB ns ss = true) (h : 0 ≤ a ∧ a < b ∧ (ns.length : Int) ≤ b) :
    Calls Try.prog 46 #[.agg #[.slice A ns.length c, .slice B ss.length d], .int .i64 a, .int .i64 b] w fun e w' => e = .returned (.tuple #[.agg #[.slice none 0 0, .slice none 0 0], .int .i64 2]) ∧ Below w.heap.size w w' := by
  have HA := Lib.hid hA
  have HB := Lib.hid hB
  have HV := Lib.hid hv
  clear hA hB hv
  have t1 : decide (a < 0) = false := decide_eq_false (by omega)
  have t2 : decide (b ≤ a) = false := decide_eq_false (by omega)
  have t3 : decide ((ns.length : Int) ≤ b) = true := decide_eq_true h.2.2
  obtain ⟨W0, hW0, HW, H0, H1, z0, z1⟩ := two_new w #[.slice A ns.length c, .slice B ss.length d] #[.slice none 0 0, .slice none 0 0] 24 24
  go_enter Try.func46, Try.ntmps46
  go_wp2_with (go_at_call 21; with_reducible refine (valid_any ns ss _ _ _ _ _ (HA.out.below (by repeat (first | with_reducible exact Below.refl _ _ | with_reducible assumption | refine below_drewN ?_ _ | with_reducible refine Below.drew ?_ | (refine Below.setCell ?_ (by first | (simp; done) | (simp; omega) | omega) _) | (refine Below.alloc ?_ (by first | (simp; done) | (simp; omega) | omega) _)))) (HB.out.below (by repeat (first | with_reducible exact Below.refl _ _ | with_reducible assumption | refine below_drewN ?_ _ | with_reducible refine Below.drew ?_ | (refine Below.setCell ?_ (by first | (simp; done) | (simp; omega) | omega) _) | (refine Below.alloc ?_ (by first | (simp; done) | (simp; omega) | omega) _)))) hl hl2).mono ?_; rintro e w1 ⟨rfl, hB1⟩; rw [HV.out]; rw [← hW0] at hB1; have H0 := Lib.hid ((hB1.block _ z0).trans H0.out); have z0 := Nat.lt_of_lt_of_le z0 hB1.size; have b0 : World.cell? _ ⟨_, 0, none⟩ = some (.slice A ns.length c) := blk_cell H0.out 0 rfl; have b1 : World.cell? _ ⟨_, 1, none⟩ = some (.slice B ss.length d) := blk_cell H0.out 1 rfl; have H1 := Lib.hid ((hB1.block _ z1).trans H1.out); have z1 := Nat.lt_of_lt_of_le z1 hB1.size; have c0 : World.cell? _ ⟨_, 0, none⟩ = some (.slice none 0 0) := blk_cell H1.out 0 rfl; have c1 : World.cell? _ ⟨_, 1, none⟩ = some (.slice none 0 0) := blk_cell H1.out 1 rfl; have cf0 := blk_frozen H1.out 0; have cf1 := blk_frozen H1.out 1; have HW : Hid (Below w.heap.size w _) := Lib.hid (below_step (by first | exact HW.out | exact Below.drew HW.out | exact below_drewN HW.out _) hB1); clear hB1)
  exact bodyPost_ret (v := .tuple #[.agg #[.slice none 0 0, .slice none 0 0], .int .i64 2]) (by simp [results, Try.results46, go_sem, c0, c1]) rfl ⟨rfl, (by repeat (first | with_reducible exact HW.out | with_reducible exact Below.refl _ _ | with_reducible refine below_drewN ?_ _ | with_reducible refine Below.drew ?_ | (with_reducible refine Below.setCell ?_ (by first | exact Nat.le_refl _ | exact Nat.le_succ _ | (simp; done) | (simp; omega) | omega) _) | (with_reducible refine Below.alloc ?_ (by first | exact HW.out.size | (simp; done) | (simp; omega) | omega) _)))⟩

set_option maxRecDepth 100000 in
set_option maxHeartbeats 2000000 in
theorem wMerged_yes (ns ss : List Int) (A B : Option Addr) (c d : Nat) (a b : Nat) (w : World) (hA : Ints w A ns) (hB : Ints w B ss) (hv : odB ns ss = true) (hab : a < b) (hb : b < ns.length) :
    Calls Try.prog 46 #[.agg #[.slice A ns.length c, .slice B ss.length d], .int .i64 a, .int .i64 b] w fun e w' => ∃ N' n' S' s', e = .returned (.tuple #[.agg #[.slice N' (mgL ns a b).length n', .slice S' (mgL ss a b).length s'], .int .i64 0]) ∧ Out w' N' n' (mgL ns a b) ∧ Out w' S' s' (mgL ss a b) ∧ Below w.heap.size w w' := by
  have ho := od_of hv
  obtain ⟨hl, hl2⟩ := ho.l3
  have hb2 : b < ss.length := by have := ho.len; omega
  have HNB := Lib.hid ho.nb
  have HSB := Lib.hid ho.sb
  have HA := Lib.hid hA
  have HB := Lib.hid hB
  have HV := Lib.hid hv
  have HAB := Lib.hid hab
  have HB1 := Lib.hid hb
  have HB2 := Lib.hid hb2
  have t1 : decide ((a : Int) < 0) = false := decide_eq_false (by omega)
  have t2 : decide ((b : Int) ≤ (a : Int)) = false := decide_eq_false (by omega)
  have t3 : decide ((ns.length : Int) ≤ (b : Int)) = false := decide_eq_false (by omega)
  have t2n : decide (b ≤ a) = false := decide_eq_false (by omega)
  have t3n : decide (ns.length ≤ b) = false := decide_eq_false (by omega)
  clear hA hB hv ho hab hb hb2
  obtain ⟨W0, hW0, HW, H0, H1, z0, z1⟩ := two_new w #[.slice A ns.length c, .slice B ss.length d] #[.slice none 0 0, .slice none 0 0] 24 24
  go_enter Try.func46, Try.ntmps46
  go_wp2_with (go_at_call 21; with_reducible refine (valid_any ns ss _ _ _ _ _ (HA.out.below (by repeat (first | with_reducible exact Below.refl _ _ | with_reducible assumption | refine below_drewN ?_ _ | with_reducible refine Below.drew ?_ | (refine Below.setCell ?_ (by first | (simp; done) | (simp; omega) | omega) _) | (refine Below.alloc ?_ (by first | (simp; done) | (simp; omega) | omega) _)))) (HB.out.below (by repeat (first | with_reducible exact Below.refl _ _ | with_reducible assumption | refine below_drewN ?_ _ | with_reducible refine Below.drew ?_ | (refine Below.setCell ?_ (by first | (simp; done) | (simp; omega) | omega) _) | (refine Below.alloc ?_ (by first | (simp; done) | (simp; omega) | omega) _)))) hl hl2).mono ?_; rintro e w1 ⟨rfl, hB1⟩; rw [HV.out]; rw [← hW0] at hB1; have H0 := Lib.hid ((hB1.block _ z0).trans H0.out); have z0 := Nat.lt_of_lt_of_le z0 hB1.size; have b0 : World.cell? _ ⟨_, 0, none⟩ = some (.slice A ns.length c) := blk_cell H0.out 0 rfl; have b1 : World.cell? _ ⟨_, 1, none⟩ = some (.slice B ss.length d) := blk_cell H0.out 1 rfl; have H1 := Lib.hid ((hB1.block _ z1).trans H1.out); have z1 := Nat.lt_of_lt_of_le z1 hB1.size; have c0 : World.cell? _ ⟨_, 0, none⟩ = some (.slice none 0 0) := blk_cell H1.out 0 rfl; have c1 : World.cell? _ ⟨_, 1, none⟩ = some (.slice none 0 0) := blk_cell H1.out 1 rfl; have cf0 := blk_frozen H1.out 0; have cf1 := blk_frozen H1.out 1; have HW : Hid (Below w.heap.size w _) := Lib.hid (below_step (by first | exact HW.out | exact Below.drew HW.out | exact below_drewN HW.out _) hB1); clear hB1)
  have z01 : w.heap.size ≠ w.heap.size + 1 := by omega
  go_region_held3 (fun W => W.cell? ⟨w.heap.size, 0, none⟩ = some (.slice A ns.length c) ∧ W.cell? ⟨w.heap.size, 1, none⟩ = some (.slice B ss.length d))
    ((first | with_reducible exact ⟨b0, b1⟩ | (refine ⟨?_, ?_⟩ <;> (repeat (first | with_reducible refine (cell_set1 _ z01).trans ?_ | with_reducible refine (cell_drew1 _ _).trans ?_)) <;> first | with_reducible exact b0 | with_reducible exact b1)))
    ((first
    | (go_at_call 93; with_reducible refine (merged_own ns A c a b _ (HA.out.below (by first | exact HW.out | exact Below.drew HW.out | exact below_drewN HW.out _)) hl HAB.out HB1.out HNB.out).mono ?_; rintro e w2 ⟨N', n', rfl, hN, hB2⟩; (try have HS := Lib.hid (HS.out.below hB2)); have HN := Lib.hid hN; have H0 := Lib.hid ((hB2.block _ z0).trans H0.out); have z0 := Nat.lt_of_lt_of_le z0 hB2.size; have b0 : World.cell? _ ⟨_, 0, none⟩ = some (.slice A ns.length c) := blk_cell H0.out 0 rfl; have b1 : World.cell? _ ⟨_, 1, none⟩ = some (.slice B ss.length d) := blk_cell H0.out 1 rfl; have H1 := Lib.hid ((hB2.block _ z1).trans H1.out); have z1 := Nat.lt_of_lt_of_le z1 hB2.size; have c0 : World.cell? _ ⟨_, 0, none⟩ = some (.slice none 0 0) := blk_cell H1.out 0 rfl; have c1 : World.cell? _ ⟨_, 1, none⟩ = some (.slice none 0 0) := blk_cell H1.out 1 rfl; have cf0 := blk_frozen H1.out 0; have cf1 := blk_frozen H1.out 1; have HW : Hid (Below w.heap.size w _) := Lib.hid (below_step (by first | exact HW.out | exact Below.drew HW.out | exact below_drewN HW.out _) hB2); clear hB2; clear hN)
    | (go_at_call 93; with_reducible refine (merged_own ss B d a b _ (HB.out.below (by first | exact HW.out | exact Below.drew HW.out | exact below_drewN HW.out _)) hl2 HAB.out HB2.out HSB.out).mono ?_; rintro e w3 ⟨S', s', rfl, hS, hB3⟩; (try have HN := Lib.hid (HN.out.below hB3)); have HS := Lib.hid hS; have H0 := Lib.hid ((hB3.block _ z0).trans H0.out); have z0 := Nat.lt_of_lt_of_le z0 hB3.size; have b0 : World.cell? _ ⟨_, 0, none⟩ = some (.slice A ns.length c) := blk_cell H0.out 0 rfl; have b1 : World.cell? _ ⟨_, 1, none⟩ = some (.slice B ss.length d) := blk_cell H0.out 1 rfl; have H1 := Lib.hid ((hB3.block _ z1).trans H1.out); have z1 := Nat.lt_of_lt_of_le z1 hB3.size; have c0 : World.cell? _ ⟨_, 0, none⟩ = some (.slice none 0 0) := blk_cell H1.out 0 rfl; have c1 : World.cell? _ ⟨_, 1, none⟩ = some (.slice none 0 0) := blk_cell H1.out 1 rfl; have cf0 := blk_frozen H1.out 0; have cf1 := blk_frozen H1.out 1; have HW : Hid (Below w.heap.size w _) := Lib.hid (below_step (by first | exact HW.out | exact Below.drew HW.out | exact below_drewN HW.out _) hB3); clear hB3; clear hS)))
  all_goals
    go_wp2
    exact bodyPost_ret (v := .tuple #[.agg #[.slice N' (mgL ns a b).length n', .slice S' (mgL ss a b).length s'], .int .i64 0]) (by simp [results, Try.results46, go_sem, c0, c1]) rfl ⟨N', n', S', s', rfl, set6_out HN.out (by first | exact c0 | exact (blk_cell H1.out 0 rfl)) (by first | exact c1 | exact (blk_cell H1.out 1 rfl)), set6_out HS.out (by first | exact c0 | exact (blk_cell H1.out 0 rfl)) (by first | exact c1 | exact (blk_cell H1.out 1 rfl)), (by repeat (first | with_reducible exact HW.out | with_reducible exact Below.refl _ _ | with_reducible refine below_drewN ?_ _ | with_reducible refine Below.drew ?_ | (with_reducible refine Below.setCell ?_ (by first | exact Nat.le_refl _ | exact Nat.le_succ _ | (simp; done) | (simp; omega) | omega) _) | (with_reducible refine Below.alloc ?_ (by first | exact HW.out.size | (simp; done) | (simp; omega) | omega) _)))⟩

set_option maxRecDepth 100000 in
set_option maxHeartbeats 1000000 in
theorem refMerged_no (ns ss : List Int) (A B : Option Addr) (c d : Nat) (a b : Int) (w : World) (hA : Ints w A ns) (hB : Ints w B ss) (hl : ns.length ≤ 1000) (hl2 : ss.length ≤ 1000) (hv : odB ns ss = false) :
    Calls Try.prog 47 #[.agg #[.slice A ns.length c, .slice B ss.length d], .int .i64 a, .int .i64 b] w fun e w' => e = .returned (.tuple #[.agg #[.slice none 0 0, .slice none 0 0], .int .i64 70]) ∧ Below w.heap.size w w' := by
  have HA := Lib.hid hA
  have HB := Lib.hid hB
  have HV := Lib.hid hv
  clear hA hB hv
  obtain ⟨W0, hW0, HW, H0, H1, z0, z1⟩ := two_new w #[.slice A ns.length c, .slice B ss.length d] #[.slice none 0 0, .slice none 0 0] 24 24
  go_enter Try.func47, Try.ntmps47
  go_wp2_with (go_at_call 22; with_reducible refine (refValid_any ns ss _ _ _ _ _ (HA.out.below (by repeat (first | with_reducible exact Below.refl _ _ | with_reducible assumption | refine below_drewN ?_ _ | with_reducible refine Below.drew ?_ | (refine Below.setCell ?_ (by first | (simp; done) | (simp; omega) | omega) _) | (refine Below.alloc ?_ (by first | (simp; done) | (simp; omega) | omega) _)))) (HB.out.below (by repeat (first | with_reducible exact Below.refl _ _ | with_reducible assumption | refine below_drewN ?_ _ | with_reducible refine Below.drew ?_ | (refine Below.setCell ?_ (by first | (simp; done) | (simp; omega) | omega) _) | (refine Below.alloc ?_ (by first | (simp; done) | (simp; omega) | omega) _)))) hl hl2).mono ?_; rintro e w1 ⟨rfl, hB1⟩; rw [HV.out]; rw [← hW0] at hB1; have H0 := Lib.hid ((hB1.block _ z0).trans H0.out); have z0 := Nat.lt_of_lt_of_le z0 hB1.size; have b0 : World.cell? _ ⟨_, 0, none⟩ = some (.slice A ns.length c) := blk_cell H0.out 0 rfl; have b1 : World.cell? _ ⟨_, 1, none⟩ = some (.slice B ss.length d) := blk_cell H0.out 1 rfl; have H1 := Lib.hid ((hB1.block _ z1).trans H1.out); have z1 := Nat.lt_of_lt_of_le z1 hB1.size; have c0 : World.cell? _ ⟨_, 0, none⟩ = some (.slice none 0 0) := blk_cell H1.out 0 rfl; have c1 : World.cell? _ ⟨_, 1, none⟩ = some (.slice none 0 0) := blk_cell H1.out 1 rfl; have cf0 := blk_frozen H1.out 0; have cf1 := blk_frozen H1.out 1; have HW : Hid (Below w.heap.size w _) := Lib.hid (below_step (by first | exact HW.out | exact Below.drew HW.out | exact below_drewN HW.out _) hB1); clear hB1)
  exact bodyPost_ret (v := .tuple #[.agg #[.slice none 0 0, .slice none 0 0], .int .i64 70]) (by simp [results, Try.results47, go_sem, c0, c1]) rfl ⟨rfl, (by repeat (first | with_reducible exact HW.out | with_reducible exact Below.refl _ _ | with_reducible refine below_drewN ?_ _ | with_reducible refine Below.drew ?_ | (with_reducible refine Below.setCell ?_ (by first | exact Nat.le_refl _ | exact Nat.le_succ _ | (simp; done) | (simp; omega) | omega) _) | (with_reducible refine Below.alloc ?_ (by first | exact HW.out.size | (simp; done) | (simp; omega) | omega) _)))⟩

set_option maxRecDepth 100000 in
set_option maxHeartbeats 1000000 in
theorem refMerged_a0 (ns ss : List Int) (A B : Option Addr) (c d : Nat) (a b : Int) (w : World) (hA : Ints w A ns) (hB : Ints w B ss) (hl : ns.length ≤ 1000) (hl2 : ss.length ≤ 1000) (hv : odB ns ss = true) (h : a < 0) :
    Calls Try.prog 47 #[.agg #[.slice A ns.length c, .slice B ss.length d], .int .i64 a, .int .i64 b] w fun e w' => e = .returned (.tuple #[.agg #[.slice none 0 0, .slice none 0 0], .int .i64 2]) ∧ Below w.heap.size w w' := by
  have HA := Lib.hid hA
  have HB := Lib.hid hB
  have HV := Lib.hid hv
  clear hA hB hv
  have t1 : decide (a < 0) = true := decide_eq_true h
  obtain ⟨W0, hW0, HW, H0, H1, z0, z1⟩ := two_new w #[.slice A ns.length c, .slice B ss.length d] #[.slice none 0 0, .slice none 0 0] 24 24
  go_enter Try.func47, Try.ntmps47
  go_wp2_with (go_at_call 22; with_reducible refine (refValid_any ns ss _ _ _ _ _ (HA.out.below (by repeat (first | with_reducible exact Below.refl _ _ | with_reducible assumption | refine below_drewN ?_ _ | with_reducible refine Below.drew ?_ | (refine Below.setCell ?_ (by first | (simp; done) | (simp; omega) | omega) _) | (refine Below.alloc ?_ (by first | (simp; done) | (simp; omega) | omega) _)))) (HB.out.below (by repeat (first | with_reducible exact Below.refl _ _ | with_reducible assumption | refine below_drewN ?_ _ | with_reducible refine Below.drew ?_ | (refine Below.setCell ?_ (by first | (simp; done) | (simp; omega) | omega) _) | (refine Below.alloc ?_ (by first | (simp; done) | (simp; omega) | omega) _)))) hl hl2).mono ?_; rintro e w1 ⟨rfl, hB1⟩; rw [HV.out]; rw [← hW0] at hB1; have H0 := Lib.hid ((hB1.block _ z0).trans H0.out); have z0 := Nat.lt_of_lt_of_le z0 hB1.size; have b0 : World.cell? _ ⟨_, 0, none⟩ = some (.slice A ns.length c) := blk_cell H0.out 0 rfl; have b1 : World.cell? _ ⟨_, 1, none⟩ = some (.slice B ss.length d) := blk_cell H0.out 1 rfl; have H1 := Lib.hid ((hB1.block _ z1).trans H1.out); have z1 := Nat.lt_of_lt_of_le z1 hB1.size; have c0 : World.cell? _ ⟨_, 0, none⟩ = some (.slice none 0 0) := blk_cell H1.out 0 rfl; have c1 : World.cell? _ ⟨_, 1, none⟩ = some (.slice none 0 0) := blk_cell H1.out 1 rfl; have cf0 := blk_frozen H1.out 0; have cf1 := blk_frozen H1.out 1; have HW : Hid (Below w.heap.size w _) := Lib.hid (below_step (by first | exact HW.out | exact Below.drew HW.out | exact below_drewN HW.out _) hB1); clear hB1)
  exact bodyPost_ret (v := .tuple #[.agg #[.slice none 0 0, .slice none 0 0], .int .i64 2]) (by simp [results, Try.results47, go_sem, c0, c1]) rfl ⟨rfl, (by repeat (first | with_reducible exact HW.out | with_reducible exact Below.refl _ _ | with_reducible refine below_drewN ?_ _ | with_reducible refine Below.drew ?_ | (with_reducible refine Below.setCell ?_ (by first | exact Nat.le_refl _ | exact Nat.le_succ _ | (simp; done) | (simp; omega) | omega) _) | (with_reducible refine Below.alloc ?_ (by first | exact HW.out.size | (simp; done) | (simp; omega) | omega) _)))⟩

set_option maxRecDepth 100000 in
set_option maxHeartbeats 1000000 in
theorem refMerged_a1 (ns ss : List Int) (A B : Option Addr) (c d : Nat) (a b : Int) (w : World) (hA : Ints w A ns) (hB : Ints w B ss) (hl : ns.length ≤ 1000) (hl2 : ss.length ≤ 1000) (hv : odB ns ss = true) (h : 0 ≤ a ∧ b ≤ a) :
    Calls Try.prog 47 #[.agg #[.slice A ns.length c, .slice B ss.length d], .int .i64 a, .int .i64 b] w fun e w' => e = .returned (.tuple #[.agg #[.slice none 0 0, .slice none 0 0], .int .i64 2]) ∧ Below w.heap.size w w' := by
  have HA := Lib.hid hA
  have HB := Lib.hid hB
  have HV := Lib.hid hv
  clear hA hB hv
  have t1 : decide (a < 0) = false := decide_eq_false (by omega)
  have t2 : decide (b ≤ a) = true := decide_eq_true h.2
  obtain ⟨W0, hW0, HW, H0, H1, z0, z1⟩ := two_new w #[.slice A ns.length c, .slice B ss.length d] #[.slice none 0 0, .slice none 0 0] 24 24
  go_enter Try.func47, Try.ntmps47
  go_wp2_with (go_at_call 22; with_reducible refine (refValid_any ns ss _ _ _ _ _ (HA.out.below (by repeat (first | with_reducible exact Below.refl _ _ | with_reducible assumption | refine below_drewN ?_ _ | with_reducible refine Below.drew ?_ | (refine Below.setCell ?_ (by first | (simp; done) | (simp; omega) | omega) _) | (refine Below.alloc ?_ (by first | (simp; done) | (simp; omega) | omega) _)))) (HB.out.below (by repeat (first | with_reducible exact Below.refl _ _ | with_reducible assumption | refine below_drewN ?_ _ | with_reducible refine Below.drew ?_ | (refine Below.setCell ?_ (by first | (simp; done) | (simp; omega) | omega) _) | (refine Below.alloc ?_ (by first | (simp; done) | (simp; omega) | omega) _)))) hl hl2).mono ?_; rintro e w1 ⟨rfl, hB1⟩; rw [HV.out]; rw [← hW0] at hB1; have H0 := Lib.hid ((hB1.block _ z0).trans H0.out); have z0 := Nat.lt_of_lt_of_le z0 hB1.size; have b0 : World.cell? _ ⟨_, 0, none⟩ = some (.slice A ns.length c) := blk_cell H0.out 0 rfl; have b1 : World.cell? _ ⟨_, 1, none⟩ = some (.slice B ss.length d) := blk_cell H0.out 1 rfl; have H1 := Lib.hid ((hB1.block _ z1).trans H1.out); have z1 := Nat.lt_of_lt_of_le z1 hB1.size; have c0 : World.cell? _ ⟨_, 0, none⟩ = some (.slice none 0 0) := blk_cell H1.out 0 rfl; have c1 : World.cell? _ ⟨_, 1, none⟩ = some (.slice none 0 0) := blk_cell H1.out 1 rfl; have cf0 := blk_frozen H1.out 0; have cf1 := blk_frozen H1.out 1; have HW : Hid (Below w.heap.size w _) := Lib.hid (below_step (by first | exact HW.out | exact Below.drew HW.out | exact below_drewN HW.out _) hB1); clear hB1)
  exact bodyPost_ret (v := .tuple #[.agg #[.slice none 0 0, .slice none 0 0], .int .i64 2]) (by simp [results, Try.results47, go_sem, c0, c1]) rfl ⟨rfl, (by repeat (first | with_reducible exact HW.out | with_reducible exact Below.refl _ _ | with_reducible refine below_drewN ?_ _ | with_reducible refine Below.drew ?_ | (with_reducible refine Below.setCell ?_ (by first | exact Nat.le_refl _ | exact Nat.le_succ _ | (simp; done) | (simp; omega) | omega) _) | (with_reducible refine Below.alloc ?_ (by first | exact HW.out.size | (simp; done) | (simp; omega) | omega) _)))⟩

set_option maxRecDepth 100000 in
set_option maxHeartbeats 1000000 in
theorem refMerged_a2 (ns ss : List Int) (A B : Option Addr) (c d : Nat) (a b : Int) (w : World) (hA : Ints w A ns) (hB : Ints w B ss) (hl : ns.length ≤ 1000) (hl2 : ss.length ≤ 1000) (hv : odB ns ss = true) (h : 0 ≤ a ∧ a < b ∧ (ns.length : Int) ≤ b) :
    Calls Try.prog 47 #[.agg #[.slice A ns.length c, .slice B ss.length d], .int .i64 a, .int .i64 b] w fun e w' => e = .returned (.tuple #[.agg #[.slice none 0 0, .slice none 0 0], .int .i64 2]) ∧ Below w.heap.size w w' := by
  have HA := Lib.hid hA
  have HB := Lib.hid hB
  have HV := Lib.hid hv
  clear hA hB hv
  have t1 : decide (a < 0) = false := decide_eq_false (by omega)
  have t2 : decide (b ≤ a) = false := decide_eq_false (by omega)
  have t3 : decide ((ns.length : Int) ≤ b) = true := decide_eq_true h.2.2
  obtain ⟨W0, hW0, HW, H0, H1, z0, z1⟩ := two_new w #[.slice A ns.length c, .slice B ss.length d] #[.slice none 0 0, .slice none 0 0] 24 24
  go_enter Try.func47, Try.ntmps47
  go_wp2_with (go_at_call 22; with_reducible refine (refValid_any ns ss _ _ _ _ _ (HA.out.below (by repeat (first | with_reducible exact Below.refl _ _ | with_reducible assumption | refine below_drewN ?_ _ | with_reducible refine Below.drew ?_ | (refine Below.setCell ?_ (by first | (simp; done) | (simp; omega) | omega) _) | (refine Below.alloc ?_ (by first | (simp; done) | (simp; omega) | omega) _)))) (HB.out.below (by repeat (first | with_reducible exact Below.refl _ _ | with_reducible assumption | refine below_drewN ?_ _ | with_reducible refine Below.drew ?_ | (refine Below.setCell ?_ (by first | (simp; done) | (simp; omega) | omega) _) | (refine Below.alloc ?_ (by first | (simp; done) | (simp; omega) | omega) _)))) hl hl2).mono ?_; rintro e w1 ⟨rfl, hB1⟩; rw [HV.out]; rw [← hW0] at hB1; have H0 := Lib.hid ((hB1.block _ z0).trans H0.out); have z0 := Nat.lt_of_lt_of_le z0 hB1.size; have b0 : World.cell? _ ⟨_, 0, none⟩ = some (.slice A ns.length c) := blk_cell H0.out 0 rfl; have b1 : World.cell? _ ⟨_, 1, none⟩ = some (.slice B ss.length d) := blk_cell H0.out 1 rfl; have H1 := Lib.hid ((hB1.block _ z1).trans H1.out); have z1 := Nat.lt_of_lt_of_le z1 hB1.size; have c0 : World.cell? _ ⟨_, 0, none⟩ = some (.slice none 0 0) := blk_cell H1.out 0 rfl; have c1 : World.cell? _ ⟨_, 1, none⟩ = some (.slice none 0 0) := blk_cell H1.out 1 rfl; have cf0 := blk_frozen H1.out 0; have cf1 := blk_frozen H1.out 1; have HW : Hid (Below w.heap.size w _) := Lib.hid (below_step (by first | exact HW.out | exact Below.drew HW.out | exact below_drewN HW.out _) hB1); clear hB1)
  exact bodyPost_ret (v := .tuple #[.agg #[.slice none 0 0, .slice none 0 0], .int .i64 2]) (by simp [results, Try.results47, go_sem, c0, c1]) rfl ⟨rfl, (by repeat (first | with_reducible exact HW.out | with_reducible exact Below.refl _ _ | with_reducible refine below_drewN ?_ _ | with_reducible refine Below.drew ?_ | (with_reducible refine Below.setCell ?_ (by first | exact Nat.le_refl _ | exact Nat.le_succ _ | (simp; done) | (simp; omega) | omega) _) | (with_reducible refine Below.alloc ?_ (by first | exact HW.out.size | (simp; done) | (simp; omega) | omega) _)))⟩

set_option maxRecDepth 100000 in
set_option maxHeartbeats 2000000 in
theorem refMerged_yes (ns ss : List Int) (A B : Option Addr) (c d : Nat) (a b : Nat) (w : World) (hA : Ints w A ns) (hB : Ints w B ss) (hv : odB ns ss = true) (hab : a < b) (hb : b < ns.length) :
    Calls Try.prog 47 #[.agg #[.slice A ns.length c, .slice B ss.length d], .int .i64 a, .int .i64 b] w fun e w' => ∃ N' n' S' s', e = .returned (.tuple #[.agg #[.slice N' (mgL ns a b).length n', .slice S' (mgL ss a b).length s'], .int .i64 0]) ∧ Out w' N' n' (mgL ns a b) ∧ Out w' S' s' (mgL ss a b) ∧ Below w.heap.size w w' := by
  have ho := od_of hv
  obtain ⟨hl, hl2⟩ := ho.l3
  have hb2 : b < ss.length := by have := ho.len; omega
  have HNB := Lib.hid ho.nb
  have HSB := Lib.hid ho.sb
  have HA := Lib.hid hA
  have HB := Lib.hid hB
  have HV := Lib.hid hv
  have HAB := Lib.hid hab
  have HB1 := Lib.hid hb
  have HB2 := Lib.hid hb2
  have t1 : decide ((a : Int) < 0) = false := decide_eq_false (by omega)
  have t2 : decide ((b : Int) ≤ (a : Int)) = false := decide_eq_false (by omega)
  have t3 : decide ((ns.length : Int) ≤ (b : Int)) = false := decide_eq_false (by omega)
  have t2n : decide (b ≤ a) = false := decide_eq_false (by omega)
  have t3n : decide (ns.length ≤ b) = false := decide_eq_false (by omega)
  clear hA hB hv ho hab hb hb2
  obtain ⟨W0, hW0, HW, H0, H1, z0, z1⟩ := two_new w #[.slice A ns.length c, .slice B ss.length d] #[.slice none 0 0, .slice none 0 0] 24 24
  go_enter Try.func47, Try.ntmps47
  go_wp2_with (go_at_call 22; with_reducible refine (refValid_any ns ss _ _ _ _ _ (HA.out.below (by repeat (first | with_reducible exact Below.refl _ _ | with_reducible assumption | refine below_drewN ?_ _ | with_reducible refine Below.drew ?_ | (refine Below.setCell ?_ (by first | (simp; done) | (simp; omega) | omega) _) | (refine Below.alloc ?_ (by first | (simp; done) | (simp; omega) | omega) _)))) (HB.out.below (by repeat (first | with_reducible exact Below.refl _ _ | with_reducible assumption | refine below_drewN ?_ _ | with_reducible refine Below.drew ?_ | (refine Below.setCell ?_ (by first | (simp; done) | (simp; omega) | omega) _) | (refine Below.alloc ?_ (by first | (simp; done) | (simp; omega) | omega) _)))) hl hl2).mono ?_; rintro e w1 ⟨rfl, hB1⟩; rw [HV.out]; rw [← hW0] at hB1; have H0 := Lib.hid ((hB1.block _ z0).trans H0.out); have z0 := Nat.lt_of_lt_of_le z0 hB1.size; have b0 : World.cell? _ ⟨_, 0, none⟩ = some (.slice A ns.length c) := blk_cell H0.out 0 rfl; have b1 : World.cell? _ ⟨_, 1, none⟩ = some (.slice B ss.length d) := blk_cell H0.out 1 rfl; have H1 := Lib.hid ((hB1.block _ z1).trans H1.out); have z1 := Nat.lt_of_lt_of_le z1 hB1.size; have c0 : World.cell? _ ⟨_, 0, none⟩ = some (.slice none 0 0) := blk_cell H1.out 0 rfl; have c1 : World.cell? _ ⟨_, 1, none⟩ = some (.slice none 0 0) := blk_cell H1.out 1 rfl; have cf0 := blk_frozen H1.out 0; have cf1 := blk_frozen H1.out 1; have HW : Hid (Below w.heap.size w _) := Lib.hid (below_step (by first | exact HW.out | exact Below.drew HW.out | exact below_drewN HW.out _) hB1); clear hB1)
  have z01 : w.heap.size ≠ w.heap.size + 1 := by omega
  go_region_held3 (fun W => W.cell? ⟨w.heap.size, 0, none⟩ = some (.slice A ns.length c) ∧ W.cell? ⟨w.heap.size, 1, none⟩ = some (.slice B ss.length d))
    ((first | with_reducible exact ⟨b0, b1⟩ | (refine ⟨?_, ?_⟩ <;> (repeat (first | with_reducible refine (cell_set1 _ z01).trans ?_ | with_reducible refine (cell_drew1 _ _).trans ?_)) <;> first | with_reducible exact b0 | with_reducible exact b1)))
    ((first
    | (go_at_call 94; with_reducible refine (refMerged_own ns A c a b _ (HA.out.below (by first | exact HW.out | exact Below.drew HW.out | exact below_drewN HW.out _)) hl HAB.out HB1.out HNB.out).mono ?_; rintro e w2 ⟨N', n', rfl, hN, hB2⟩; (try have HS := Lib.hid (HS.out.below hB2)); have HN := Lib.hid hN; have H0 := Lib.hid ((hB2.block _ z0).trans H0.out); have z0 := Nat.lt_of_lt_of_le z0 hB2.size; have b0 : World.cell? _ ⟨_, 0, none⟩ = some (.slice A ns.length c) := blk_cell H0.out 0 rfl; have b1 : World.cell? _ ⟨_, 1, none⟩ = some (.slice B ss.length d) := blk_cell H0.out 1 rfl; have H1 := Lib.hid ((hB2.block _ z1).trans H1.out); have z1 := Nat.lt_of_lt_of_le z1 hB2.size; have c0 : World.cell? _ ⟨_, 0, none⟩ = some (.slice none 0 0) := blk_cell H1.out 0 rfl; have c1 : World.cell? _ ⟨_, 1, none⟩ = some (.slice none 0 0) := blk_cell H1.out 1 rfl; have cf0 := blk_frozen H1.out 0; have cf1 := blk_frozen H1.out 1; have HW : Hid (Below w.heap.size w _) := Lib.hid (below_step (by first | exact HW.out | exact Below.drew HW.out | exact below_drewN HW.out _) hB2); clear hB2; clear hN)
    | (go_at_call 94; with_reducible refine (refMerged_own ss B d a b _ (HB.out.below (by first | exact HW.out | exact Below.drew HW.out | exact below_drewN HW.out _)) hl2 HAB.out HB2.out HSB.out).mono ?_; rintro e w3 ⟨S', s', rfl, hS, hB3⟩; (try have HN := Lib.hid (HN.out.below hB3)); have HS := Lib.hid hS; have H0 := Lib.hid ((hB3.block _ z0).trans H0.out); have z0 := Nat.lt_of_lt_of_le z0 hB3.size; have b0 : World.cell? _ ⟨_, 0, none⟩ = some (.slice A ns.length c) := blk_cell H0.out 0 rfl; have b1 : World.cell? _ ⟨_, 1, none⟩ = some (.slice B ss.length d) := blk_cell H0.out 1 rfl; have H1 := Lib.hid ((hB3.block _ z1).trans H1.out); have z1 := Nat.lt_of_lt_of_le z1 hB3.size; have c0 : World.cell? _ ⟨_, 0, none⟩ = some (.slice none 0 0) := blk_cell H1.out 0 rfl; have c1 : World.cell? _ ⟨_, 1, none⟩ = some (.slice none 0 0) := blk_cell H1.out 1 rfl; have cf0 := blk_frozen H1.out 0; have cf1 := blk_frozen H1.out 1; have HW : Hid (Below w.heap.size w _) := Lib.hid (below_step (by first | exact HW.out | exact Below.drew HW.out | exact below_drewN HW.out _) hB3); clear hB3; clear hS)))
  all_goals
    go_wp2
    exact bodyPost_ret (v := .tuple #[.agg #[.slice N' (mgL ns a b).length n', .slice S' (mgL ss a b).length s'], .int .i64 0]) (by simp [results, Try.results47, go_sem, c0, c1]) rfl ⟨N', n', S', s', rfl, set6_out HN.out (by first | exact c0 | exact (blk_cell H1.out 0 rfl)) (by first | exact c1 | exact (blk_cell H1.out 1 rfl)), set6_out HS.out (by first | exact c0 | exact (blk_cell H1.out 0 rfl)) (by first | exact c1 | exact (blk_cell H1.out 1 rfl)), (by repeat (first | with_reducible exact HW.out | with_reducible exact Below.refl _ _ | with_reducible refine below_drewN ?_ _ | with_reducible refine Below.drew ?_ | (with_reducible refine Below.setCell ?_ (by first | exact Nat.le_refl _ | exact Nat.le_succ _ | (simp; done) | (simp; omega) | omega) _) | (with_reducible refine Below.alloc ?_ (by first | exact HW.out.size | (simp; done) | (simp; omega) | omega) _)))⟩

def meE (ns ss : List Int) (a b : Int) : Int := if odB ns ss = true then (if 0 ≤ a ∧ a < b ∧ b < ns.length then 0 else 2) else 70
def meL (ns ss xs : List Int) (a b : Int) : List Int := if odB ns ss = true then (if 0 ≤ a ∧ a < b ∧ b < ns.length then mgL xs a.toNat b.toNat else []) else []

theorem wMerged_any (ns ss : List Int) (A B : Option Addr) (c d : Nat) (a b : Int) (w : World) (hA : Ints w A ns) (hB : Ints w B ss) (hl : ns.length ≤ 1000) (hl2 : ss.length ≤ 1000) :
    Calls Try.prog 46 #[.agg #[.slice A ns.length c, .slice B ss.length d], .int .i64 a, .int .i64 b] w fun e w' => ∃ N' n' S' s', e = .returned (.tuple #[.agg #[.slice N' (meL ns ss ns a b).length n', .slice S' (meL ns ss ss a b).length s'], .int .i64 (meE ns ss a b)]) ∧ Out w' N' n' (meL ns ss ns a b) ∧ Out w' S' s' (meL ns ss ss a b) ∧ Below w.heap.size w w' := by
  have fin : ∀ E : Int, meE ns ss a b = E → meL ns ss ns a b = [] → meL ns ss ss a b = [] → Calls Try.prog 46 #[.agg #[.slice A ns.length c, .slice B ss.length d], .int .i64 a, .int .i64 b] w (fun e w' => e = .returned (.tuple #[.agg #[.slice none 0 0, .slice none 0 0], .int .i64 E]) ∧ Below w.heap.size w w') →
      Calls Try.prog 46 #[.agg #[.slice A ns.length c, .slice B ss.length d], .int .i64 a, .int .i64 b] w fun e w' => ∃ N' n' S' s', e = .returned (.tuple #[.agg #[.slice N' (meL ns ss ns a b).length n', .slice S' (meL ns ss ss a b).length s'], .int .i64 (meE ns ss a b)]) ∧ Out w' N' n' (meL ns ss ns a b) ∧ Out w' S' s' (meL ns ss ss a b) ∧ Below w.heap.size w w' := by
    intro E h1 h2 h3 h
    rw [h1, h2, h3]
    exact h.mono fun e w' ⟨he, hb⟩ => ⟨none, 0, none, 0, he, Out.nil_, Out.nil_, hb⟩
  cases hv : odB ns ss with
  | false => exact fin 70 (by simp [meE, hv]) (by simp [meL, hv]) (by simp [meL, hv]) (wMerged_no ns ss A B c d a b w hA hB hl hl2 hv)
  | true =>
    by_cases h0 : a < 0
    · exact fin 2 (by rw [meE, hv, if_pos rfl, if_neg (by omega)]) (by rw [meL, hv, if_pos rfl, if_neg (by omega)]) (by rw [meL, hv, if_pos rfl, if_neg (by omega)]) (wMerged_a0 ns ss A B c d a b w hA hB hl hl2 hv h0)
    by_cases h1 : b ≤ a
    · exact fin 2 (by rw [meE, hv, if_pos rfl, if_neg (by omega)]) (by rw [meL, hv, if_pos rfl, if_neg (by omega)]) (by rw [meL, hv, if_pos rfl, if_neg (by omega)]) (wMerged_a1 ns ss A B c d a b w hA hB hl hl2 hv (by omega))
    by_cases h2 : (ns.length : Int) ≤ b
    · exact fin 2 (by rw [meE, hv, if_pos rfl, if_neg (by omega)]) (by rw [meL, hv, if_pos rfl, if_neg (by omega)]) (by rw [meL, hv, if_pos rfl, if_neg (by omega)]) (wMerged_a2 ns ss A B c d a b w hA hB hl hl2 hv (by omega))
    obtain ⟨x, rfl⟩ := Int.eq_ofNat_of_zero_le (show 0 ≤ a by omega)
    obtain ⟨y, rfl⟩ := Int.eq_ofNat_of_zero_le (show 0 ≤ b by omega)
    have e1 : meE ns ss x y = 0 := by rw [meE, hv, if_pos rfl, if_pos (by omega)]
    have e2 : meL ns ss ns x y = mgL ns x y := by rw [meL, hv, if_pos rfl, if_pos (by omega)]; rfl
    have e3 : meL ns ss ss x y = mgL ss x y := by rw [meL, hv, if_pos rfl, if_pos (by omega)]; rfl
    rw [e1, e2, e3]
    exact wMerged_yes ns ss A B c d x y w hA hB hv (by omega) (by omega)

theorem refMerged_any (ns ss : List Int) (A B : Option Addr) (c d : Nat) (a b : Int) (w : World) (hA : Ints w A ns) (hB : Ints w B ss) (hl : ns.length ≤ 1000) (hl2 : ss.length ≤ 1000) :
    Calls Try.prog 47 #[.agg #[.slice A ns.length c, .slice B ss.length d], .int .i64 a, .int .i64 b] w fun e w' => ∃ N' n' S' s', e = .returned (.tuple #[.agg #[.slice N' (meL ns ss ns a b).length n', .slice S' (meL ns ss ss a b).length s'], .int .i64 (meE ns ss a b)]) ∧ Out w' N' n' (meL ns ss ns a b) ∧ Out w' S' s' (meL ns ss ss a b) ∧ Below w.heap.size w w' := by
  have fin : ∀ E : Int, meE ns ss a b = E → meL ns ss ns a b = [] → meL ns ss ss a b = [] → Calls Try.prog 47 #[.agg #[.slice A ns.length c, .slice B ss.length d], .int .i64 a, .int .i64 b] w (fun e w' => e = .returned (.tuple #[.agg #[.slice none 0 0, .slice none 0 0], .int .i64 E]) ∧ Below w.heap.size w w') →
      Calls Try.prog 47 #[.agg #[.slice A ns.length c, .slice B ss.length d], .int .i64 a, .int .i64 b] w fun e w' => ∃ N' n' S' s', e = .returned (.tuple #[.agg #[.slice N' (meL ns ss ns a b).length n', .slice S' (meL ns ss ss a b).length s'], .int .i64 (meE ns ss a b)]) ∧ Out w' N' n' (meL ns ss ns a b) ∧ Out w' S' s' (meL ns ss ss a b) ∧ Below w.heap.size w w' := by
    intro E h1 h2 h3 h
    rw [h1, h2, h3]
    exact h.mono fun e w' ⟨he, hb⟩ => ⟨none, 0, none, 0, he, Out.nil_, Out.nil_, hb⟩
  cases hv : odB ns ss with
  | false => exact fin 70 (by simp [meE, hv]) (by simp [meL, hv]) (by simp [meL, hv]) (refMerged_no ns ss A B c d a b w hA hB hl hl2 hv)
  | true =>
    by_cases h0 : a < 0
    · exact fin 2 (by rw [meE, hv, if_pos rfl, if_neg (by omega)]) (by rw [meL, hv, if_pos rfl, if_neg (by omega)]) (by rw [meL, hv, if_pos rfl, if_neg (by omega)]) (refMerged_a0 ns ss A B c d a b w hA hB hl hl2 hv h0)
    by_cases h1 : b ≤ a
    · exact fin 2 (by rw [meE, hv, if_pos rfl, if_neg (by omega)]) (by rw [meL, hv, if_pos rfl, if_neg (by omega)]) (by rw [meL, hv, if_pos rfl, if_neg (by omega)]) (refMerged_a1 ns ss A B c d a b w hA hB hl hl2 hv (by omega))
    by_cases h2 : (ns.length : Int) ≤ b
    · exact fin 2 (by rw [meE, hv, if_pos rfl, if_neg (by omega)]) (by rw [meL, hv, if_pos rfl, if_neg (by omega)]) (by rw [meL, hv, if_pos rfl, if_neg (by omega)]) (refMerged_a2 ns ss A B c d a b w hA hB hl hl2 hv (by omega))
    obtain ⟨x, rfl⟩ := Int.eq_ofNat_of_zero_le (show 0 ≤ a by omega)
    obtain ⟨y, rfl⟩ := Int.eq_ofNat_of_zero_le (show 0 ≤ b by omega)
    have e1 : meE ns ss x y = 0 := by rw [meE, hv, if_pos rfl, if_pos (by omega)]
    have e2 : meL ns ss ns x y = mgL ns x y := by rw [meL, hv, if_pos rfl, if_pos (by omega)]; rfl
    have e3 : meL ns ss ss x y = mgL ss x y := by rw [meL, hv, if_pos rfl, if_pos (by omega)]; rfl
    rw [e1, e2, e3]
    exact refMerged_yes ns ss A B c d x y w hA hB hv (by omega) (by omega)

set_option maxRecDepth 100000 in
set_option maxHeartbeats 1000000 in
theorem same_yes (ns ss : List Int) (A B A' B' : Option Addr) (c d c' d' : Nat) (w : World) (hA : Out w A c ns) (hB : Out w B d ss) (hA' : Out w A' c' ns) (hB' : Out w B' d' ss) :
    Calls Try.prog 48 #[.agg #[.slice A ns.length c, .slice B ss.length d], .agg #[.slice A' ns.length c', .slice B' ss.length d']] w fun e w' => e = .returned (.bool true) ∧ Below w.heap.size w w' := by
  have HA := Lib.hid hA
  have HB := Lib.hid hB
  have HA' := Lib.hid hA'
  have HB' := Lib.hid hB'
  have TA : Hid True := Lib.hid trivial
  clear hA hB hA' hB'
  obtain ⟨W0, hW0, HW, H0, H1, z0, z1⟩ := two_new w #[.slice A ns.length c, .slice B ss.length d] #[.slice A' ns.length c', .slice B' ss.length d'] 24 24
  go_enter Try.func48, Try.ntmps48
  go_wp2_with (first
    | (go_at_call 25; clear TA; refine (sameInts_same ns _ _ _ _ _ (HA.out.ints.below (by repeat (first | with_reducible exact Below.refl _ _ | with_reducible assumption | refine below_drewN ?_ _ | with_reducible refine Below.drew ?_ | (refine Below.setCell ?_ (by first | (simp; done) | (simp; omega) | omega) _) | (refine Below.alloc ?_ (by first | (simp; done) | (simp; omega) | omega) _)))) (HA'.out.ints.below (by repeat (first | with_reducible exact Below.refl _ _ | with_reducible assumption | refine below_drewN ?_ _ | with_reducible refine Below.drew ?_ | (refine Below.setCell ?_ (by first | (simp; done) | (simp; omega) | omega) _) | (refine Below.alloc ?_ (by first | (simp; done) | (simp; omega) | omega) _)))) (Nat.le_trans HA.out.le HA.out.cap)).mono ?_; rintro e w1 ⟨rfl, hB1⟩; rw [← hW0] at hB1; have H0 := Lib.hid ((hB1.block _ z0).trans H0.out); have b1 : World.cell? _ ⟨_, 1, none⟩ = some (.slice B ss.length d) := blk_cell H0.out 1 rfl; have H1 := Lib.hid ((hB1.block _ z1).trans H1.out); have c1 : World.cell? _ ⟨_, 1, none⟩ = some (.slice B' ss.length d') := blk_cell H1.out 1 rfl; have HW : Hid (Below w.heap.size w _) := Lib.hid (below_step HW.out hB1); clear hB1)
    | (go_at_call 25; refine (sameInts_same ss _ _ _ _ _ (HB.out.ints.below HW.out) (HB'.out.ints.below HW.out) (Nat.le_trans HB.out.le HB.out.cap)).mono ?_; rintro e w2 ⟨rfl, hB2⟩; have HW : Hid (Below w.heap.size w _) := Lib.hid (below_step HW.out hB2); clear hB2)
    | fail)
  go_ret
  exact ⟨rfl, HW.out⟩
end Go.Proofs.Ytolpbbabmcpdkaa
