/-
  Contract: Both (weigh), of odds that are not both valid.
-/
import Derived.Test.YtolpbbabmcpdkaaBothW
set_option linter.unusedVariables false
set_option linter.unusedSimpArgs false
namespace Go.Proofs.Ytolpbbabmcpdkaa
open Go.RowKit Go.Shelf

set_option maxRecDepth 100000 in
set_option maxHeartbeats 1600000 in
theorem wBoth_no1 (ns ss ms ts : List Int) (A B C D : Option Addr) (c d e f : Nat) (w : World) (hA : Ints w A ns) (hB : Ints w B ss) (hC : Ints w C ms) (hD : Ints w D ts) (l1 : ns.length ≤ 1000) (l2 : ss.length ≤ 1000) (l3 : ms.length ≤ 1000) (l4 : ts.length ≤ 1000) (hv : odB ns ss = false) :
    Calls Try.prog 51 #[.agg #[.slice A ns.length c, .slice B ss.length d], .agg #[.slice C ms.length e, .slice D ts.length f]] w fun e1 w' => e1 = .returned (.tuple #[.agg #[.slice none 0 0, .slice none 0 0], .int .i64 70]) ∧ Below w.heap.size w w' := by
  have HA := Lib.hid hA
  have HB := Lib.hid hB
  have HC := Lib.hid hC
  have HD := Lib.hid hD
  have HV := Lib.hid hv
  clear hv
  clear hA hB hC hD
  obtain ⟨W0, hW0, HW, H0, H1, H2, z0, z1, z2⟩ := three_new1 w #[.slice A ns.length c, .slice B ss.length d] #[.slice C ms.length e, .slice D ts.length f] #[.slice none 0 0, .slice none 0 0] 24 24 24
  go_enter Try.func51, Try.ntmps51
  go_wp2_with (go_at_call 21; with_reducible refine (valid_any ns ss _ _ _ _ _ (HA.out.below (by repeat (first | with_reducible exact Below.refl _ _ | with_reducible assumption | refine below_drewN ?_ _ | with_reducible refine Below.drew ?_ | (refine Below.setCell ?_ (by first | (simp; done) | (simp; omega) | omega) _) | (refine Below.alloc ?_ (by first | (simp; done) | (simp; omega) | omega) _)))) (HB.out.below (by repeat (first | with_reducible exact Below.refl _ _ | with_reducible assumption | refine below_drewN ?_ _ | with_reducible refine Below.drew ?_ | (refine Below.setCell ?_ (by first | (simp; done) | (simp; omega) | omega) _) | (refine Below.alloc ?_ (by first | (simp; done) | (simp; omega) | omega) _)))) l1 l2).mono ?_; rintro e w1 ⟨rfl, hB1⟩; rw [HV.out]; rw [← hW0] at hB1; have H0 := Lib.hid ((hB1.block _ z0).trans H0.out); have z0 := Nat.lt_of_lt_of_le z0 hB1.size; have b0 : World.cell? _ ⟨_, 0, none⟩ = some (.slice A ns.length c) := blk_cell H0.out 0 rfl; have b1 : World.cell? _ ⟨_, 1, none⟩ = some (.slice B ss.length d) := blk_cell H0.out 1 rfl; have H1 := Lib.hid ((hB1.block _ z1).trans H1.out); have z1 := Nat.lt_of_lt_of_le z1 hB1.size; have g0 : World.cell? _ ⟨_, 0, none⟩ = some (.slice C ms.length e) := blk_cell H1.out 0 rfl; have g1 : World.cell? _ ⟨_, 1, none⟩ = some (.slice D ts.length f) := blk_cell H1.out 1 rfl; have H2 := Lib.hid ((hB1.block _ z2).trans H2.out); have z2 := Nat.lt_of_lt_of_le z2 hB1.size; have x0 : World.cell? _ ⟨_, 0, none⟩ = some (.slice none 0 0) := blk_cell H2.out 0 rfl; have x1 : World.cell? _ ⟨_, 1, none⟩ = some (.slice none 0 0) := blk_cell H2.out 1 rfl; have xf0 := blk_frozen H2.out 0; have xf1 := blk_frozen H2.out 1; have HW : Hid (Below w.heap.size w _) := Lib.hid (below_step (by first | exact HW.out | exact Below.drew HW.out | exact below_drewN HW.out _) hB1); clear hB1)
  have c0 := set6_c0 (u := .slice none 0 0) (v := .slice none 0 0) x0
  have c1 := set6_c1 (u := .slice none 0 0) (v := .slice none 0 0) x1
  exact bodyPost_ret (v := .tuple #[.agg #[.slice none 0 0, .slice none 0 0], .int .i64 70]) (by simp [results, Try.results51, go_sem, c0, c1]) rfl ⟨rfl, set6_bel HW.out (by omega)⟩
set_option maxRecDepth 100000 in
set_option maxHeartbeats 1600000 in
theorem wBoth_no2 (ns ss ms ts : List Int) (A B C D : Option Addr) (c d e f : Nat) (w : World) (hA : Ints w A ns) (hB : Ints w B ss) (hC : Ints w C ms) (hD : Ints w D ts) (l1 : ns.length ≤ 1000) (l2 : ss.length ≤ 1000) (l3 : ms.length ≤ 1000) (l4 : ts.length ≤ 1000) (hv : odB ns ss = true) (hu : odB ms ts = false) :
    Calls Try.prog 51 #[.agg #[.slice A ns.length c, .slice B ss.length d], .agg #[.slice C ms.length e, .slice D ts.length f]] w fun e1 w' => e1 = .returned (.tuple #[.agg #[.slice none 0 0, .slice none 0 0], .int .i64 70]) ∧ Below w.heap.size w w' := by
  have HA := Lib.hid hA
  have HB := Lib.hid hB
  have HC := Lib.hid hC
  have HD := Lib.hid hD
  have HV := Lib.hid hv
  have HU := Lib.hid hu
  clear hv hu
  clear hA hB hC hD
  obtain ⟨W0, hW0, HW, H0, H1, H2, z0, z1, z2⟩ := three_new1 w #[.slice A ns.length c, .slice B ss.length d] #[.slice C ms.length e, .slice D ts.length f] #[.slice none 0 0, .slice none 0 0] 24 24 24
  go_enter Try.func51, Try.ntmps51
  go_wp2_with (first
    | (go_at_call 21; with_reducible refine (valid_any ns ss _ _ _ _ _ (HA.out.below (by repeat (first | with_reducible exact Below.refl _ _ | with_reducible assumption | refine below_drewN ?_ _ | with_reducible refine Below.drew ?_ | (refine Below.setCell ?_ (by first | (simp; done) | (simp; omega) | omega) _) | (refine Below.alloc ?_ (by first | (simp; done) | (simp; omega) | omega) _)))) (HB.out.below (by repeat (first | with_reducible exact Below.refl _ _ | with_reducible assumption | refine below_drewN ?_ _ | with_reducible refine Below.drew ?_ | (refine Below.setCell ?_ (by first | (simp; done) | (simp; omega) | omega) _) | (refine Below.alloc ?_ (by first | (simp; done) | (simp; omega) | omega) _)))) l1 l2).mono ?_; rintro e w1 ⟨rfl, hB1⟩; rw [HV.out]; rw [← hW0] at hB1; have H0 := Lib.hid ((hB1.block _ z0).trans H0.out); have z0 := Nat.lt_of_lt_of_le z0 hB1.size; have b0 : World.cell? _ ⟨_, 0, none⟩ = some (.slice A ns.length c) := blk_cell H0.out 0 rfl; have b1 : World.cell? _ ⟨_, 1, none⟩ = some (.slice B ss.length d) := blk_cell H0.out 1 rfl; have H1 := Lib.hid ((hB1.block _ z1).trans H1.out); have z1 := Nat.lt_of_lt_of_le z1 hB1.size; have g0 : World.cell? _ ⟨_, 0, none⟩ = some (.slice C ms.length e) := blk_cell H1.out 0 rfl; have g1 : World.cell? _ ⟨_, 1, none⟩ = some (.slice D ts.length f) := blk_cell H1.out 1 rfl; have H2 := Lib.hid ((hB1.block _ z2).trans H2.out); have z2 := Nat.lt_of_lt_of_le z2 hB1.size; have x0 : World.cell? _ ⟨_, 0, none⟩ = some (.slice none 0 0) := blk_cell H2.out 0 rfl; have x1 : World.cell? _ ⟨_, 1, none⟩ = some (.slice none 0 0) := blk_cell H2.out 1 rfl; have xf0 := blk_frozen H2.out 0; have xf1 := blk_frozen H2.out 1; have HW : Hid (Below w.heap.size w _) := Lib.hid (below_step (by first | exact HW.out | exact Below.drew HW.out | exact below_drewN HW.out _) hB1); clear hB1)
    | (go_at_call 21; with_reducible refine (valid_any ms ts _ _ _ _ _ (HC.out.below HW.out) (HD.out.below HW.out) l3 l4).mono ?_; rintro e w2 ⟨rfl, hB2⟩; rw [HU.out]; have H0 := Lib.hid ((hB2.block _ z0).trans H0.out); have z0 := Nat.lt_of_lt_of_le z0 hB2.size; have b0 : World.cell? _ ⟨_, 0, none⟩ = some (.slice A ns.length c) := blk_cell H0.out 0 rfl; have b1 : World.cell? _ ⟨_, 1, none⟩ = some (.slice B ss.length d) := blk_cell H0.out 1 rfl; have H1 := Lib.hid ((hB2.block _ z1).trans H1.out); have z1 := Nat.lt_of_lt_of_le z1 hB2.size; have g0 : World.cell? _ ⟨_, 0, none⟩ = some (.slice C ms.length e) := blk_cell H1.out 0 rfl; have g1 : World.cell? _ ⟨_, 1, none⟩ = some (.slice D ts.length f) := blk_cell H1.out 1 rfl; have H2 := Lib.hid ((hB2.block _ z2).trans H2.out); have z2 := Nat.lt_of_lt_of_le z2 hB2.size; have x0 : World.cell? _ ⟨_, 0, none⟩ = some (.slice none 0 0) := blk_cell H2.out 0 rfl; have x1 : World.cell? _ ⟨_, 1, none⟩ = some (.slice none 0 0) := blk_cell H2.out 1 rfl; have xf0 := blk_frozen H2.out 0; have xf1 := blk_frozen H2.out 1; have HW : Hid (Below w.heap.size w _) := Lib.hid (below_step (by first | exact HW.out | exact Below.drew HW.out | exact below_drewN HW.out _) hB2); clear hB2))
  have c0 := set6_c0 (u := .slice none 0 0) (v := .slice none 0 0) x0
  have c1 := set6_c1 (u := .slice none 0 0) (v := .slice none 0 0) x1
  exact bodyPost_ret (v := .tuple #[.agg #[.slice none 0 0, .slice none 0 0], .int .i64 70]) (by simp [results, Try.results51, go_sem, c0, c1]) rfl ⟨rfl, set6_bel HW.out (by omega)⟩
end Go.Proofs.Ytolpbbabmcpdkaa
