/-
  Contracts: Row, Cut and Price of the reference; Cut's refusals (weigh).
-/
import Derived.Test.YtolpbbabmcpdkaaRefCut
import Derived.Test.YtolpbbabmcpdkaaPriceW
import Derived.Deep.CutRange
set_option linter.unusedVariables false
set_option linter.unusedSimpArgs false
namespace Go.Proofs.Ytolpbbabmcpdkaa
open Go.RowKit Go.Shelf

set_option maxRecDepth 100000 in
set_option maxHeartbeats 2000000 in
theorem refRowX_no (ns ss : List Int) (A B : Option Addr) (c d : Nat) (w : World) (hA : Ints w A ns) (hB : Ints w B ss) (hl : ns.length ≤ 1000) (hl2 : ss.length ≤ 1000) (hv : odB ns ss = false) :
    Calls Try.prog 24 #[.agg #[.slice A ns.length c, .slice B ss.length d]] w fun e w' => e = .returned (.tuple #[.slice none 0 0, .int .i64 70]) ∧ Below w.heap.size w w' := by
  have HA := Lib.hid hA
  have HB := Lib.hid hB
  clear hA hB
  obtain ⟨W0, hW0, HW, H0, z0⟩ := one_new w #[.slice A ns.length c, .slice B ss.length d] 24
  have HK : Hid (∀ W, Below W0.heap.size W0 W → W.cell? ⟨w.heap.size, 0, none⟩ = some (.slice A ns.length c) ∧ W.cell? ⟨w.heap.size, 1, none⟩ = some (.slice B ss.length d)) := Lib.hid fun W hW =>
    have q0 := (hW.block _ z0).trans H0.out
    ⟨blk_cell q0 0 rfl, blk_cell q0 1 rfl⟩
  obtain ⟨b0, b1⟩ := HK.out W0 (Below.refl _ _)
  have HV := Lib.hid hv
  clear hv
  go_enter Try.func24, Try.ntmps24
  go_wp2_with (go_at_call 22; with_reducible refine (refValid_any ns ss _ _ _ _ _ (HA.out.below (by repeat (first | with_reducible exact HW.out | with_reducible exact Below.refl _ _ | with_reducible refine below_drewN ?_ _ | with_reducible refine Below.drew ?_ | (with_reducible refine Below.setCell ?_ (by first | exact Nat.le_refl _ | exact Nat.le_succ _ | (simp; done) | (simp; omega) | omega) _) | (with_reducible refine Below.alloc ?_ (by first | exact HW.out.size | (simp; done) | (simp; omega) | omega) _)))) (HB.out.below (by repeat (first | with_reducible exact HW.out | with_reducible exact Below.refl _ _ | with_reducible refine below_drewN ?_ _ | with_reducible refine Below.drew ?_ | (with_reducible refine Below.setCell ?_ (by first | exact Nat.le_refl _ | exact Nat.le_succ _ | (simp; done) | (simp; omega) | omega) _) | (with_reducible refine Below.alloc ?_ (by first | exact HW.out.size | (simp; done) | (simp; omega) | omega) _)))) hl hl2).mono ?_; rintro e w1 ⟨rfl, hB1⟩; rw [HV.out]; rw [← hW0] at hB1; have hV : Below W0.heap.size W0 w1 := hB1; have HW := Lib.hid (below_step HW.out hB1); clear hB1 b0 b1; obtain ⟨b0, b1⟩ := HK.out w1 hV)
  go_ret2
  exact ⟨rfl, HW.out⟩

set_option maxRecDepth 100000 in
set_option maxHeartbeats 2000000 in
theorem refCutX_no (ns ss : List Int) (A B : Option Addr) (c d : Nat) (k : Int) (w : World) (hA : Ints w A ns) (hB : Ints w B ss) (hl : ns.length ≤ 1000) (hl2 : ss.length ≤ 1000) (hv : odB ns ss = false) :
    Calls Try.prog 27 #[.agg #[.slice A ns.length c, .slice B ss.length d], .int .i64 k] w fun e w' => e = .returned (.tuple #[.slice none 0 0, .int .i64 70]) ∧ Below w.heap.size w w' := by
  have HA := Lib.hid hA
  have HB := Lib.hid hB
  clear hA hB
  obtain ⟨W0, hW0, HW, H0, z0⟩ := one_new w #[.slice A ns.length c, .slice B ss.length d] 24
  have HK : Hid (∀ W, Below W0.heap.size W0 W → W.cell? ⟨w.heap.size, 0, none⟩ = some (.slice A ns.length c) ∧ W.cell? ⟨w.heap.size, 1, none⟩ = some (.slice B ss.length d)) := Lib.hid fun W hW =>
    have q0 := (hW.block _ z0).trans H0.out
    ⟨blk_cell q0 0 rfl, blk_cell q0 1 rfl⟩
  obtain ⟨b0, b1⟩ := HK.out W0 (Below.refl _ _)
  have HV := Lib.hid hv
  clear hv
  go_enter Try.func27, Try.ntmps27
  go_wp2_with (go_at_call 22; with_reducible refine (refValid_any ns ss _ _ _ _ _ (HA.out.below (by repeat (first | with_reducible exact HW.out | with_reducible exact Below.refl _ _ | with_reducible refine below_drewN ?_ _ | with_reducible refine Below.drew ?_ | (with_reducible refine Below.setCell ?_ (by first | exact Nat.le_refl _ | exact Nat.le_succ _ | (simp; done) | (simp; omega) | omega) _) | (with_reducible refine Below.alloc ?_ (by first | exact HW.out.size | (simp; done) | (simp; omega) | omega) _)))) (HB.out.below (by repeat (first | with_reducible exact HW.out | with_reducible exact Below.refl _ _ | with_reducible refine below_drewN ?_ _ | with_reducible refine Below.drew ?_ | (with_reducible refine Below.setCell ?_ (by first | exact Nat.le_refl _ | exact Nat.le_succ _ | (simp; done) | (simp; omega) | omega) _) | (with_reducible refine Below.alloc ?_ (by first | exact HW.out.size | (simp; done) | (simp; omega) | omega) _)))) hl hl2).mono ?_; rintro e w1 ⟨rfl, hB1⟩; rw [HV.out]; rw [← hW0] at hB1; have hV : Below W0.heap.size W0 w1 := hB1; have HW := Lib.hid (below_step HW.out hB1); clear hB1 b0 b1; obtain ⟨b0, b1⟩ := HK.out w1 hV)
  go_ret2
  exact ⟨rfl, HW.out⟩

set_option maxRecDepth 100000 in
set_option maxHeartbeats 2000000 in
theorem wCut_no (ns ss : List Int) (A B : Option Addr) (c d : Nat) (k : Int) (w : World) (hA : Ints w A ns) (hB : Ints w B ss) (hl : ns.length ≤ 1000) (hl2 : ss.length ≤ 1000) (hv : odB ns ss = false) :
    Calls Try.prog 26 #[.agg #[.slice A ns.length c, .slice B ss.length d], .int .i64 k] w fun e w' => e = .returned (.tuple #[.slice none 0 0, .int .i64 70]) ∧ Below w.heap.size w w' := by
  have HA := Lib.hid hA
  have HB := Lib.hid hB
  clear hA hB
  obtain ⟨W0, hW0, HW, H0, z0⟩ := one_new w #[.slice A ns.length c, .slice B ss.length d] 24
  have HK : Hid (∀ W, Below W0.heap.size W0 W → W.cell? ⟨w.heap.size, 0, none⟩ = some (.slice A ns.length c) ∧ W.cell? ⟨w.heap.size, 1, none⟩ = some (.slice B ss.length d)) := Lib.hid fun W hW =>
    have q0 := (hW.block _ z0).trans H0.out
    ⟨blk_cell q0 0 rfl, blk_cell q0 1 rfl⟩
  obtain ⟨b0, b1⟩ := HK.out W0 (Below.refl _ _)
  have HV := Lib.hid hv
  clear hv
  go_enter Try.func26, Try.ntmps26
  go_wp2_with (go_at_call 23; with_reducible refine (wRow_no ns ss _ _ _ _ _ (HA.out.below (by repeat (first | with_reducible exact HW.out | with_reducible exact Below.refl _ _ | with_reducible refine below_drewN ?_ _ | with_reducible refine Below.drew ?_ | (with_reducible refine Below.setCell ?_ (by first | exact Nat.le_refl _ | exact Nat.le_succ _ | (simp; done) | (simp; omega) | omega) _) | (with_reducible refine Below.alloc ?_ (by first | exact HW.out.size | (simp; done) | (simp; omega) | omega) _)))) (HB.out.below (by repeat (first | with_reducible exact HW.out | with_reducible exact Below.refl _ _ | with_reducible refine below_drewN ?_ _ | with_reducible refine Below.drew ?_ | (with_reducible refine Below.setCell ?_ (by first | exact Nat.le_refl _ | exact Nat.le_succ _ | (simp; done) | (simp; omega) | omega) _) | (with_reducible refine Below.alloc ?_ (by first | exact HW.out.size | (simp; done) | (simp; omega) | omega) _)))) hl hl2 HV.out).mono ?_; rintro e w1 ⟨rfl, hB1⟩; rw [← hW0] at hB1; have hV : Below W0.heap.size W0 w1 := hB1; have HW := Lib.hid (below_step HW.out hB1); clear hB1 b0 b1; obtain ⟨b0, b1⟩ := HK.out w1 hV)
  go_ret2
  exact ⟨rfl, HW.out⟩

set_option maxRecDepth 100000 in
set_option maxHeartbeats 2000000 in
theorem refCutX_a (ns ss : List Int) (A B : Option Addr) (c d : Nat) (k : Int) (w : World) (hA : Ints w A ns) (hB : Ints w B ss) (hl : ns.length ≤ 1000) (hl2 : ss.length ≤ 1000) (hv : odB ns ss = true) (hk : k < 0 ∨ (ns.length : Int) < k) :
    Calls Try.prog 27 #[.agg #[.slice A ns.length c, .slice B ss.length d], .int .i64 k] w fun e w' => e = .returned (.tuple #[.slice none 0 0, .int .i64 2]) ∧ Below w.heap.size w w' := by
  have HA := Lib.hid hA
  have HB := Lib.hid hB
  clear hA hB
  obtain ⟨W0, hW0, HW, H0, z0⟩ := one_new w #[.slice A ns.length c, .slice B ss.length d] 24
  have HK : Hid (∀ W, Below W0.heap.size W0 W → W.cell? ⟨w.heap.size, 0, none⟩ = some (.slice A ns.length c) ∧ W.cell? ⟨w.heap.size, 1, none⟩ = some (.slice B ss.length d)) := Lib.hid fun W hW =>
    have q0 := (hW.block _ z0).trans H0.out
    ⟨blk_cell q0 0 rfl, blk_cell q0 1 rfl⟩
  obtain ⟨b0, b1⟩ := HK.out W0 (Below.refl _ _)
  have HV := Lib.hid hv
  clear hv
  cases t1 : decide (k < 0) with
  | true =>
    go_enter Try.func27, Try.ntmps27
    go_wp2_with (go_at_call 22; with_reducible refine (refValid_any ns ss _ _ _ _ _ (HA.out.below (by repeat (first | with_reducible exact HW.out | with_reducible exact Below.refl _ _ | with_reducible refine below_drewN ?_ _ | with_reducible refine Below.drew ?_ | (with_reducible refine Below.setCell ?_ (by first | exact Nat.le_refl _ | exact Nat.le_succ _ | (simp; done) | (simp; omega) | omega) _) | (with_reducible refine Below.alloc ?_ (by first | exact HW.out.size | (simp; done) | (simp; omega) | omega) _)))) (HB.out.below (by repeat (first | with_reducible exact HW.out | with_reducible exact Below.refl _ _ | with_reducible refine below_drewN ?_ _ | with_reducible refine Below.drew ?_ | (with_reducible refine Below.setCell ?_ (by first | exact Nat.le_refl _ | exact Nat.le_succ _ | (simp; done) | (simp; omega) | omega) _) | (with_reducible refine Below.alloc ?_ (by first | exact HW.out.size | (simp; done) | (simp; omega) | omega) _)))) hl hl2).mono ?_; rintro e w1 ⟨rfl, hB1⟩; rw [HV.out]; rw [← hW0] at hB1; have hV : Below W0.heap.size W0 w1 := hB1; have HW := Lib.hid (below_step HW.out hB1); clear hB1 b0 b1; obtain ⟨b0, b1⟩ := HK.out w1 hV)
    go_ret2
    exact ⟨rfl, HW.out⟩
  | false =>
    have t2 : decide ((ns.length : Int) < k) = true := decide_eq_true (by
      have := of_decide_eq_false t1
      rcases hk with h | h <;> omega)
    go_enter Try.func27, Try.ntmps27
    go_wp2_with (go_at_call 22; with_reducible refine (refValid_any ns ss _ _ _ _ _ (HA.out.below (by repeat (first | with_reducible exact HW.out | with_reducible exact Below.refl _ _ | with_reducible refine below_drewN ?_ _ | with_reducible refine Below.drew ?_ | (with_reducible refine Below.setCell ?_ (by first | exact Nat.le_refl _ | exact Nat.le_succ _ | (simp; done) | (simp; omega) | omega) _) | (with_reducible refine Below.alloc ?_ (by first | exact HW.out.size | (simp; done) | (simp; omega) | omega) _)))) (HB.out.below (by repeat (first | with_reducible exact HW.out | with_reducible exact Below.refl _ _ | with_reducible refine below_drewN ?_ _ | with_reducible refine Below.drew ?_ | (with_reducible refine Below.setCell ?_ (by first | exact Nat.le_refl _ | exact Nat.le_succ _ | (simp; done) | (simp; omega) | omega) _) | (with_reducible refine Below.alloc ?_ (by first | exact HW.out.size | (simp; done) | (simp; omega) | omega) _)))) hl hl2).mono ?_; rintro e w1 ⟨rfl, hB1⟩; rw [HV.out]; rw [← hW0] at hB1; have hV : Below W0.heap.size W0 w1 := hB1; have HW := Lib.hid (below_step HW.out hB1); clear hB1 b0 b1; obtain ⟨b0, b1⟩ := HK.out w1 hV)
    go_ret2
    exact ⟨rfl, HW.out⟩

set_option maxRecDepth 100000 in
set_option maxHeartbeats 2000000 in
theorem wCut_a (ns ss : List Int) (A B : Option Addr) (c d : Nat) (k : Int) (w : World) (hA : Ints w A ns) (hB : Ints w B ss) (hl : ns.length ≤ 1000) (hl2 : ss.length ≤ 1000) (hv : odB ns ss = true) (hk : k < 0 ∨ (ns.length : Int) < k) :
    Calls Try.prog 26 #[.agg #[.slice A ns.length c, .slice B ss.length d], .int .i64 k] w fun e w' => e = .returned (.tuple #[.slice none 0 0, .int .i64 2]) ∧ Below w.heap.size w w' := by
  have HA := Lib.hid hA
  have HB := Lib.hid hB
  clear hA hB
  obtain ⟨W0, hW0, HW, H0, z0⟩ := one_new w #[.slice A ns.length c, .slice B ss.length d] 24
  have HK : Hid (∀ W, Below W0.heap.size W0 W → W.cell? ⟨w.heap.size, 0, none⟩ = some (.slice A ns.length c) ∧ W.cell? ⟨w.heap.size, 1, none⟩ = some (.slice B ss.length d)) := Lib.hid fun W hW =>
    have q0 := (hW.block _ z0).trans H0.out
    ⟨blk_cell q0 0 rfl, blk_cell q0 1 rfl⟩
  obtain ⟨b0, b1⟩ := HK.out W0 (Below.refl _ _)
  have HV := Lib.hid hv
  clear hv
  cases t1 : decide (k < 0) with
  | true =>
    go_enter Try.func26, Try.ntmps26
    go_wp2_with (go_at_call 23; with_reducible refine (wRow_yes ns ss _ _ _ _ _ (HA.out.below (by repeat (first | with_reducible exact HW.out | with_reducible exact Below.refl _ _ | with_reducible refine below_drewN ?_ _ | with_reducible refine Below.drew ?_ | (with_reducible refine Below.setCell ?_ (by first | exact Nat.le_refl _ | exact Nat.le_succ _ | (simp; done) | (simp; omega) | omega) _) | (with_reducible refine Below.alloc ?_ (by first | exact HW.out.size | (simp; done) | (simp; omega) | omega) _)))) (HB.out.below (by repeat (first | with_reducible exact HW.out | with_reducible exact Below.refl _ _ | with_reducible refine below_drewN ?_ _ | with_reducible refine Below.drew ?_ | (with_reducible refine Below.setCell ?_ (by first | exact Nat.le_refl _ | exact Nat.le_succ _ | (simp; done) | (simp; omega) | omega) _) | (with_reducible refine Below.alloc ?_ (by first | exact HW.out.size | (simp; done) | (simp; omega) | omega) _)))) HV.out).mono ?_; rintro e w1 ⟨gb, rfl, _, hB1⟩; rw [← hW0] at hB1; have hV : Below W0.heap.size W0 w1 := hB1; have HW := Lib.hid (below_step HW.out hB1); clear hB1 b0 b1; obtain ⟨b0, b1⟩ := HK.out w1 hV)
    go_ret2
    exact ⟨rfl, HW.out⟩
  | false =>
    have t2 : decide ((ns.length : Int) < k) = true := decide_eq_true (by
      have := of_decide_eq_false t1
      rcases hk with h | h <;> omega)
    go_enter Try.func26, Try.ntmps26
    go_wp2_with (go_at_call 23; with_reducible refine (wRow_yes ns ss _ _ _ _ _ (HA.out.below (by repeat (first | with_reducible exact HW.out | with_reducible exact Below.refl _ _ | with_reducible refine below_drewN ?_ _ | with_reducible refine Below.drew ?_ | (with_reducible refine Below.setCell ?_ (by first | exact Nat.le_refl _ | exact Nat.le_succ _ | (simp; done) | (simp; omega) | omega) _) | (with_reducible refine Below.alloc ?_ (by first | exact HW.out.size | (simp; done) | (simp; omega) | omega) _)))) (HB.out.below (by repeat (first | with_reducible exact HW.out | with_reducible exact Below.refl _ _ | with_reducible refine below_drewN ?_ _ | with_reducible refine Below.drew ?_ | (with_reducible refine Below.setCell ?_ (by first | exact Nat.le_refl _ | exact Nat.le_succ _ | (simp; done) | (simp; omega) | omega) _) | (with_reducible refine Below.alloc ?_ (by first | exact HW.out.size | (simp; done) | (simp; omega) | omega) _)))) HV.out).mono ?_; rintro e w1 ⟨gb, rfl, _, hB1⟩; rw [← hW0] at hB1; have hV : Below W0.heap.size W0 w1 := hB1; have HW := Lib.hid (below_step HW.out hB1); clear hB1 b0 b1; obtain ⟨b0, b1⟩ := HK.out w1 hV)
    go_ret2
    exact ⟨rfl, HW.out⟩

set_option maxRecDepth 100000 in
set_option maxHeartbeats 2000000 in
theorem refRowX_yes (ns ss : List Int) (A B : Option Addr) (c d : Nat) (w : World) (hA : Ints w A ns) (hB : Ints w B ss) (hl : ns.length ≤ 1000) (hl2 : ss.length ≤ 1000) (hv : odB ns ss = true) :
    Calls Try.prog 24 #[.agg #[.slice A ns.length c, .slice B ss.length d]] w fun e w' => ∃ gb : Nat, e = .returned (.tuple #[.slice (some ⟨gb, 0, none⟩) ns.length ns.length, .int .i64 0]) ∧ w'.ownsRow w.heap.size 3 1 (.slice (some ⟨gb, 0, none⟩) ns.length ns.length) ns.length ((rowL ns ss).map (Value.int .i64)) ∧ Below w.heap.size w w' := by
  have HA := Lib.hid hA
  have HB := Lib.hid hB
  clear hA hB
  obtain ⟨W0, hW0, HW, H0, z0⟩ := one_new w #[.slice A ns.length c, .slice B ss.length d] 24
  have HK : Hid (∀ W, Below W0.heap.size W0 W → W.cell? ⟨w.heap.size, 0, none⟩ = some (.slice A ns.length c) ∧ W.cell? ⟨w.heap.size, 1, none⟩ = some (.slice B ss.length d)) := Lib.hid fun W hW =>
    have q0 := (hW.block _ z0).trans H0.out
    ⟨blk_cell q0 0 rfl, blk_cell q0 1 rfl⟩
  obtain ⟨b0, b1⟩ := HK.out W0 (Below.refl _ _)
  have HO := Lib.hid (od_of hv)
  have HV := Lib.hid hv
  clear hv
  go_enter Try.func24, Try.ntmps24
  go_wp2_with (first
    | (go_at_call 22; with_reducible refine (refValid_any ns ss _ _ _ _ _ (HA.out.below (by repeat (first | with_reducible exact HW.out | with_reducible exact Below.refl _ _ | with_reducible refine below_drewN ?_ _ | with_reducible refine Below.drew ?_ | (with_reducible refine Below.setCell ?_ (by first | exact Nat.le_refl _ | exact Nat.le_succ _ | (simp; done) | (simp; omega) | omega) _) | (with_reducible refine Below.alloc ?_ (by first | exact HW.out.size | (simp; done) | (simp; omega) | omega) _)))) (HB.out.below (by repeat (first | with_reducible exact HW.out | with_reducible exact Below.refl _ _ | with_reducible refine below_drewN ?_ _ | with_reducible refine Below.drew ?_ | (with_reducible refine Below.setCell ?_ (by first | exact Nat.le_refl _ | exact Nat.le_succ _ | (simp; done) | (simp; omega) | omega) _) | (with_reducible refine Below.alloc ?_ (by first | exact HW.out.size | (simp; done) | (simp; omega) | omega) _)))) hl hl2).mono ?_; rintro e w1 ⟨rfl, hB1⟩; rw [HV.out]; rw [← hW0] at hB1; have hV : Below W0.heap.size W0 w1 := hB1; have HW := Lib.hid (below_step HW.out hB1); clear hB1 b0 b1; obtain ⟨b0, b1⟩ := HK.out w1 hV)
    | (go_at_call 74; with_reducible refine (refRow_own ns ss A B c d HO.out _ (HA.out.below HW.out) (HB.out.below HW.out)).mono ?_; rintro e w2 ⟨gb, rfl, hR, hB2⟩; have HR := Lib.hid hR; have HB2 := Lib.hid hB2; clear hR hB2)
    | fail)
  go_ret2
  exact ⟨gb, rfl, own_mono HR.out HW.out.size, below_step HW.out HB2.out⟩

set_option maxRecDepth 100000 in
set_option maxHeartbeats 2000000 in
theorem refCutX_yes (ns ss : List Int) (A B : Option Addr) (c d : Nat) (k : Nat) (w : World) (hA : Ints w A ns) (hB : Ints w B ss) (hl : ns.length ≤ 1000) (hl2 : ss.length ≤ 1000) (hv : odB ns ss = true) (hk : k ≤ ns.length) :
    Calls Try.prog 27 #[.agg #[.slice A ns.length c, .slice B ss.length d], .int .i64 k] w fun e w' => ∃ A' c', e = .returned (.tuple #[.slice A' (ctL ns ss k).length c', .int .i64 0]) ∧ Out w' A' c' (ctL ns ss k) ∧ Below w.heap.size w w' := by
  have HA := Lib.hid hA
  have HB := Lib.hid hB
  clear hA hB
  obtain ⟨W0, hW0, HW, H0, z0⟩ := one_new w #[.slice A ns.length c, .slice B ss.length d] 24
  have HK : Hid (∀ W, Below W0.heap.size W0 W → W.cell? ⟨w.heap.size, 0, none⟩ = some (.slice A ns.length c) ∧ W.cell? ⟨w.heap.size, 1, none⟩ = some (.slice B ss.length d)) := Lib.hid fun W hW =>
    have q0 := (hW.block _ z0).trans H0.out
    ⟨blk_cell q0 0 rfl, blk_cell q0 1 rfl⟩
  obtain ⟨b0, b1⟩ := HK.out W0 (Below.refl _ _)
  have HO := Lib.hid (od_of hv)
  have t1 : decide ((k : Int) < 0) = false := decide_eq_false (by omega)
  have t2 : decide ((ns.length : Int) < (k : Int)) = false := decide_eq_false (by omega)
  have t3 : decide (ns.length < k) = false := decide_eq_false (by omega)
  have HV := Lib.hid hv
  clear hv
  go_enter Try.func27, Try.ntmps27
  go_wp2_with (first
    | (go_at_call 22; with_reducible refine (refValid_any ns ss _ _ _ _ _ (HA.out.below (by repeat (first | with_reducible exact HW.out | with_reducible exact Below.refl _ _ | with_reducible refine below_drewN ?_ _ | with_reducible refine Below.drew ?_ | (with_reducible refine Below.setCell ?_ (by first | exact Nat.le_refl _ | exact Nat.le_succ _ | (simp; done) | (simp; omega) | omega) _) | (with_reducible refine Below.alloc ?_ (by first | exact HW.out.size | (simp; done) | (simp; omega) | omega) _)))) (HB.out.below (by repeat (first | with_reducible exact HW.out | with_reducible exact Below.refl _ _ | with_reducible refine below_drewN ?_ _ | with_reducible refine Below.drew ?_ | (with_reducible refine Below.setCell ?_ (by first | exact Nat.le_refl _ | exact Nat.le_succ _ | (simp; done) | (simp; omega) | omega) _) | (with_reducible refine Below.alloc ?_ (by first | exact HW.out.size | (simp; done) | (simp; omega) | omega) _)))) hl hl2).mono ?_; rintro e w1 ⟨rfl, hB1⟩; rw [HV.out]; rw [← hW0] at hB1; have hV : Below W0.heap.size W0 w1 := hB1; have HW := Lib.hid (below_step HW.out hB1); clear hB1 b0 b1; obtain ⟨b0, b1⟩ := HK.out w1 hV)
    | (go_at_call 76; with_reducible refine (refCut_own ns ss A B c d HO.out k hk _ (HA.out.below HW.out) (HB.out.below HW.out)).mono ?_; rintro e w2 ⟨A', c', rfl, hR, hB2⟩; have HR := Lib.hid hR; have HB2 := Lib.hid hB2; clear hR hB2)
    | fail)
  go_ret2
  exact ⟨A', c', rfl, HR.out, below_step HW.out HB2.out⟩

set_option maxRecDepth 100000 in
set_option maxHeartbeats 1000000 in
theorem refPrice_no (ns ss : List Int) (A B : Option Addr) (c d : Nat) (k : Int) (w : World) (hA : Ints w A ns) (hB : Ints w B ss) (hl : ns.length ≤ 1000) (hl2 : ss.length ≤ 1000) (hv : odB ns ss = false) :
    Calls Try.prog 29 #[.agg #[.slice A ns.length c, .slice B ss.length d], .int .i64 k] w fun e w' => e = .returned (.tuple #[.agg #[.int .i64 0, .int .i64 0], .int .i64 70]) ∧ Below w.heap.size w w' := by
  have HA := Lib.hid hA
  have HB := Lib.hid hB
  have HV := Lib.hid hv
  clear hA hB hv
  obtain ⟨W0, hW0, HW, H0, H1, z0, z1⟩ := two_new w #[.slice A ns.length c, .slice B ss.length d] #[.int .i64 0, .int .i64 0] 24 28
  have HK : Hid (∀ W, Below W0.heap.size W0 W → W.cell? ⟨w.heap.size, 0, none⟩ = some (.slice A ns.length c) ∧ W.cell? ⟨w.heap.size, 1, none⟩ = some (.slice B ss.length d) ∧ W.cell? ⟨w.heap.size + 1, 0, none⟩ = some (.int .i64 0) ∧ W.cell? ⟨w.heap.size + 1, 1, none⟩ = some (.int .i64 0) ∧ W.frozen? ⟨w.heap.size + 1, 0, none⟩ = false ∧ W.frozen? ⟨w.heap.size + 1, 1, none⟩ = false) := Lib.hid fun W hW =>
    have q0 := (hW.block _ z0).trans H0.out
    have q1 := (hW.block _ z1).trans H1.out
    ⟨blk_cell q0 0 rfl, blk_cell q0 1 rfl, blk_cell q1 0 rfl, blk_cell q1 1 rfl, blk_frozen q1 0, blk_frozen q1 1⟩
  go_enter Try.func29, Try.ntmps29
  go_wp2_with (go_at_call 22; with_reducible refine (refValid_any ns ss _ _ _ _ _ (HA.out.below (by repeat (first | with_reducible exact Below.refl _ _ | with_reducible assumption | refine below_drewN ?_ _ | with_reducible refine Below.drew ?_ | (refine Below.setCell ?_ (by first | (simp; done) | (simp; omega) | omega) _) | (refine Below.alloc ?_ (by first | (simp; done) | (simp; omega) | omega) _)))) (HB.out.below (by repeat (first | with_reducible exact Below.refl _ _ | with_reducible assumption | refine below_drewN ?_ _ | with_reducible refine Below.drew ?_ | (refine Below.setCell ?_ (by first | (simp; done) | (simp; omega) | omega) _) | (refine Below.alloc ?_ (by first | (simp; done) | (simp; omega) | omega) _)))) hl hl2).mono ?_; rintro e w1 ⟨rfl, hB1⟩; rw [HV.out]; rw [← hW0] at hB1; have hV : Below W0.heap.size W0 w1 := hB1; clear hB1; obtain ⟨b0, b1, c0, c1, cf0, cf1⟩ := HK.out w1 hV; have zv := hV.size)
  exact bodyPost_ret (v := .tuple #[.agg #[.int .i64 0, .int .i64 0], .int .i64 70]) (by simp [results, Try.results29, go_sem, cell_ao, c0, c1]) rfl ⟨rfl, set6_belI (below_step HW.out hV)⟩

set_option maxRecDepth 100000 in
set_option maxHeartbeats 1000000 in
theorem refPrice_a0 (ns ss : List Int) (A B : Option Addr) (c d : Nat) (k : Int) (w : World) (hA : Ints w A ns) (hB : Ints w B ss) (hl : ns.length ≤ 1000) (hl2 : ss.length ≤ 1000) (hv : odB ns ss = true) (h : k < 1) :
    Calls Try.prog 29 #[.agg #[.slice A ns.length c, .slice B ss.length d], .int .i64 k] w fun e w' => e = .returned (.tuple #[.agg #[.int .i64 0, .int .i64 0], .int .i64 2]) ∧ Below w.heap.size w w' := by
  have HA := Lib.hid hA
  have HB := Lib.hid hB
  have HV := Lib.hid hv
  clear hA hB hv
  have t1 : decide (k < 1) = true := decide_eq_true h
  obtain ⟨W0, hW0, HW, H0, H1, z0, z1⟩ := two_new w #[.slice A ns.length c, .slice B ss.length d] #[.int .i64 0, .int .i64 0] 24 28
  have HK : Hid (∀ W, Below W0.heap.size W0 W → W.cell? ⟨w.heap.size, 0, none⟩ = some (.slice A ns.length c) ∧ W.cell? ⟨w.heap.size, 1, none⟩ = some (.slice B ss.length d) ∧ W.cell? ⟨w.heap.size + 1, 0, none⟩ = some (.int .i64 0) ∧ W.cell? ⟨w.heap.size + 1, 1, none⟩ = some (.int .i64 0) ∧ W.frozen? ⟨w.heap.size + 1, 0, none⟩ = false ∧ W.frozen? ⟨w.heap.size + 1, 1, none⟩ = false) := Lib.hid fun W hW =>
    have q0 := (hW.block _ z0).trans H0.out
    have q1 := (hW.block _ z1).trans H1.out
    ⟨blk_cell q0 0 rfl, blk_cell q0 1 rfl, blk_cell q1 0 rfl, blk_cell q1 1 rfl, blk_frozen q1 0, blk_frozen q1 1⟩
  go_enter Try.func29, Try.ntmps29
  go_wp2_with (go_at_call 22; with_reducible refine (refValid_any ns ss _ _ _ _ _ (HA.out.below (by repeat (first | with_reducible exact Below.refl _ _ | with_reducible assumption | refine below_drewN ?_ _ | with_reducible refine Below.drew ?_ | (refine Below.setCell ?_ (by first | (simp; done) | (simp; omega) | omega) _) | (refine Below.alloc ?_ (by first | (simp; done) | (simp; omega) | omega) _)))) (HB.out.below (by repeat (first | with_reducible exact Below.refl _ _ | with_reducible assumption | refine below_drewN ?_ _ | with_reducible refine Below.drew ?_ | (refine Below.setCell ?_ (by first | (simp; done) | (simp; omega) | omega) _) | (refine Below.alloc ?_ (by first | (simp; done) | (simp; omega) | omega) _)))) hl hl2).mono ?_; rintro e w1 ⟨rfl, hB1⟩; rw [HV.out]; rw [← hW0] at hB1; have hV : Below W0.heap.size W0 w1 := hB1; clear hB1; obtain ⟨b0, b1, c0, c1, cf0, cf1⟩ := HK.out w1 hV; have zv := hV.size)
  exact bodyPost_ret (v := .tuple #[.agg #[.int .i64 0, .int .i64 0], .int .i64 2]) (by simp [results, Try.results29, go_sem, cell_ao, c0, c1]) rfl ⟨rfl, set6_belI (below_step HW.out hV)⟩

set_option maxRecDepth 100000 in
set_option maxHeartbeats 1000000 in
theorem refPrice_a1 (ns ss : List Int) (A B : Option Addr) (c d : Nat) (k : Int) (w : World) (hA : Ints w A ns) (hB : Ints w B ss) (hl : ns.length ≤ 1000) (hl2 : ss.length ≤ 1000) (hv : odB ns ss = true) (h : 1 ≤ k ∧ (ns.length : Int) < k) :
    Calls Try.prog 29 #[.agg #[.slice A ns.length c, .slice B ss.length d], .int .i64 k] w fun e w' => e = .returned (.tuple #[.agg #[.int .i64 0, .int .i64 0], .int .i64 2]) ∧ Below w.heap.size w w' := by
  have HA := Lib.hid hA
  have HB := Lib.hid hB
  have HV := Lib.hid hv
  clear hA hB hv
  have t1 : decide (k < 1) = false := decide_eq_false (by omega)
  have t2 : decide ((ns.length : Int) < k) = true := decide_eq_true h.2
  obtain ⟨W0, hW0, HW, H0, H1, z0, z1⟩ := two_new w #[.slice A ns.length c, .slice B ss.length d] #[.int .i64 0, .int .i64 0] 24 28
  have HK : Hid (∀ W, Below W0.heap.size W0 W → W.cell? ⟨w.heap.size, 0, none⟩ = some (.slice A ns.length c) ∧ W.cell? ⟨w.heap.size, 1, none⟩ = some (.slice B ss.length d) ∧ W.cell? ⟨w.heap.size + 1, 0, none⟩ = some (.int .i64 0) ∧ W.cell? ⟨w.heap.size + 1, 1, none⟩ = some (.int .i64 0) ∧ W.frozen? ⟨w.heap.size + 1, 0, none⟩ = false ∧ W.frozen? ⟨w.heap.size + 1, 1, none⟩ = false) := Lib.hid fun W hW =>
    have q0 := (hW.block _ z0).trans H0.out
    have q1 := (hW.block _ z1).trans H1.out
    ⟨blk_cell q0 0 rfl, blk_cell q0 1 rfl, blk_cell q1 0 rfl, blk_cell q1 1 rfl, blk_frozen q1 0, blk_frozen q1 1⟩
  go_enter Try.func29, Try.ntmps29
  go_wp2_with (go_at_call 22; with_reducible refine (refValid_any ns ss _ _ _ _ _ (HA.out.below (by repeat (first | with_reducible exact Below.refl _ _ | with_reducible assumption | refine below_drewN ?_ _ | with_reducible refine Below.drew ?_ | (refine Below.setCell ?_ (by first | (simp; done) | (simp; omega) | omega) _) | (refine Below.alloc ?_ (by first | (simp; done) | (simp; omega) | omega) _)))) (HB.out.below (by repeat (first | with_reducible exact Below.refl _ _ | with_reducible assumption | refine below_drewN ?_ _ | with_reducible refine Below.drew ?_ | (refine Below.setCell ?_ (by first | (simp; done) | (simp; omega) | omega) _) | (refine Below.alloc ?_ (by first | (simp; done) | (simp; omega) | omega) _)))) hl hl2).mono ?_; rintro e w1 ⟨rfl, hB1⟩; rw [HV.out]; rw [← hW0] at hB1; have hV : Below W0.heap.size W0 w1 := hB1; clear hB1; obtain ⟨b0, b1, c0, c1, cf0, cf1⟩ := HK.out w1 hV; have zv := hV.size)
  exact bodyPost_ret (v := .tuple #[.agg #[.int .i64 0, .int .i64 0], .int .i64 2]) (by simp [results, Try.results29, go_sem, cell_ao, c0, c1]) rfl ⟨rfl, set6_belI (below_step HW.out hV)⟩

set_option maxRecDepth 100000 in
set_option maxHeartbeats 4000000 in
theorem refPrice_none (ns ss : List Int) (A B : Option Addr) (c d : Nat) (k : Nat) (w : World) (hA : Ints w A ns) (hB : Ints w B ss) (hv : odB ns ss = true) (h1 : 1 ≤ k) (h2 : k ≤ ns.length) (hz : ns.getD (laN ns ss k) 0 = 0) :
    Calls Try.prog 29 #[.agg #[.slice A ns.length c, .slice B ss.length d], .int .i64 k] w fun e w' => e = .returned (.tuple #[.agg #[.int .i64 (0), .int .i64 (0)], .int .i64 5]) ∧ Below w.heap.size w w' := by
  have ho := od_of hv
  have HO := Lib.hid ho
  obtain ⟨hl, hl2⟩ := ho.l3
  have hn10 := ho.le
  have HNB := Lib.hid ho.nb9
  have HSB := Lib.hid ho.sb9
  have n0 := ho.np
  have n1 := ho.nm
  have s0 := ho.sp
  have s1 := ho.sm
  have HA := Lib.hid hA
  have HB := Lib.hid hB
  have HV := Lib.hid hv
  obtain ⟨l1, l2⟩ := la_get (ns := ns) (ss := ss) h1 h2
  have LA2 : Hid (((rowL ns ss).map (Value.int .i64))[k - 1]? = some (.int .i64 ((laN ns ss k : Nat) : Int))) := Lib.hid (by rw [List.getElem?_map, l2]; rfl)
  obtain ⟨j, hj⟩ : ∃ j, k - 1 = j := ⟨_, rfl⟩
  have hwk : IntKind.i64.wrap ((k : Int) - 1) = (j : Int) := by rw [IntWalk.i64_in _ (by omega)]; omega
  have hjn : (j : Int) < (ns.length : Int) := by omega
  have hjn2 : j < ns.length := by omega
  rw [hj] at LA2
  obtain ⟨la, hla⟩ : ∃ la, laN ns ss k = la := ⟨_, rfl⟩
  rw [hla] at LA2 l1 hz
  try rw [hla]
  have t1 : decide ((k : Int) < 1) = false := decide_eq_false (by omega)
  have t2 : decide ((ns.length : Int) < (k : Int)) = false := decide_eq_false (by omega)
  have t3 : decide (ns.length < k) = false := decide_eq_false (by omega)
  have t4 : decide (k < 1) = false := decide_eq_false (by omega)
  have hls : la < ss.length := by rw [← ho.len]; exact l1
  obtain ⟨ad, x, rfl, hbA, hxA, cA⟩ := hA.get l1
  obtain ⟨bd, y, rfl, hbB, hyB, cB⟩ := hB.get hls
  have f1 : ns.getD la 0 = x := getD_of hxA.out
  have f2 : ss.getD la 0 = y := getD_of hyB.out
  obtain ⟨x0, x1⟩ := ho.nb x (List.mem_of_getElem? hxA.out)
  obtain ⟨y0, y1⟩ := ho.sb y (List.mem_of_getElem? hyB.out)
  rw [f1] at hz
  try rw [f1, f2]
  clear hA hB hv l2 hla hj hxA hyB f1 f2 ho
  subst hz
  obtain ⟨W0, hW0, HW, H0, H1, z0, z1⟩ := two_new w #[.slice (some ad) ns.length c, .slice (some bd) ss.length d] #[.int .i64 0, .int .i64 0] 24 28
  have HK : Hid (∀ W, Below W0.heap.size W0 W → W.cell? ⟨w.heap.size, 0, none⟩ = some (.slice (some ad) ns.length c) ∧ W.cell? ⟨w.heap.size, 1, none⟩ = some (.slice (some bd) ss.length d) ∧ W.cell? ⟨w.heap.size + 1, 0, none⟩ = some (.int .i64 0) ∧ W.cell? ⟨w.heap.size + 1, 1, none⟩ = some (.int .i64 0) ∧ W.frozen? ⟨w.heap.size + 1, 0, none⟩ = false ∧ W.frozen? ⟨w.heap.size + 1, 1, none⟩ = false) := Lib.hid fun W hW =>
    have q0 := (hW.block _ z0).trans H0.out
    have q1 := (hW.block _ z1).trans H1.out
    ⟨blk_cell q0 0 rfl, blk_cell q0 1 rfl, blk_cell q1 0 rfl, blk_cell q1 1 rfl, blk_frozen q1 0, blk_frozen q1 1⟩
  have HEL := Lib.hid fun (V : World) (hV' : Below W0.heap.size W0 V) => And.intro (((below_step HW.out hV').cell (p := ad.add la) (by rw [block_of_add]; exact hbA)).trans cA) (((below_step HW.out hV').cell (p := bd.add la) (by rw [block_of_add]; exact hbB)).trans cB)
  clear cA cB
  go_enter Try.func29, Try.ntmps29
  go_upto_region 5 with (go_at_call 22; with_reducible refine (refValid_any ns ss _ _ _ _ _ (HA.out.below (by repeat (first | with_reducible exact Below.refl _ _ | with_reducible assumption | refine below_drewN ?_ _ | with_reducible refine Below.drew ?_ | (refine Below.setCell ?_ (by first | (simp; done) | (simp; omega) | omega) _) | (refine Below.alloc ?_ (by first | (simp; done) | (simp; omega) | omega) _)))) (HB.out.below (by repeat (first | with_reducible exact Below.refl _ _ | with_reducible assumption | refine below_drewN ?_ _ | with_reducible refine Below.drew ?_ | (refine Below.setCell ?_ (by first | (simp; done) | (simp; omega) | omega) _) | (refine Below.alloc ?_ (by first | (simp; done) | (simp; omega) | omega) _)))) hl hl2).mono ?_; rintro e w1 ⟨rfl, hB1⟩; rw [HV.out]; rw [← hW0] at hB1; have hV : Below W0.heap.size W0 w1 := hB1; clear hB1; obtain ⟨b0, b1, c0, c1, cf0, cf1⟩ := HK.out w1 hV; have zv := hV.size)
  have HROW := Lib.hid fun (V : World) (hV : Below W0.heap.size W0 V) => refRow_own ns ss (some ad) (some bd) c d HO.out V (HA.out.below (below_step HW.out hV)) (HB.out.below (below_step HW.out hV))
  go_wp2_with (go_at_call 74; refine (HROW.out _ hV).mono ?_; rintro e w2 ⟨gb, rfl, hR, hB2⟩; have hV2 := below_step hV hB2; clear hV b0 b1 c0 c1 cf0 cf1; have hV := hV2; clear hV2; obtain ⟨b0, b1, c0, c1, cf0, cf1⟩ := HK.out w2 hV; have r0 := (hR.cellAt j (by omega)).trans LA2.out; obtain ⟨k1, k2⟩ := HEL.out w2 hV; clear hR hB2)
  exact bodyPost_ret (v := .tuple #[.agg #[.int .i64 0, .int .i64 0], .int .i64 5]) (by simp [results, Try.results29, go_sem, cell_ao, c0, c1]) rfl ⟨rfl, set6_belI (below_step HW.out (by first | exact hV | exact Below.alloc hV hV.size _))⟩

set_option maxRecDepth 100000 in
set_option maxHeartbeats 4000000 in
theorem refPrice_yes (ns ss : List Int) (A B : Option Addr) (c d : Nat) (k : Nat) (w : World) (hA : Ints w A ns) (hB : Ints w B ss) (hv : odB ns ss = true) (h1 : 1 ≤ k) (h2 : k ≤ ns.length) (hz : ns.getD (laN ns ss k) 0 ≠ 0) :
    Calls Try.prog 29 #[.agg #[.slice A ns.length c, .slice B ss.length d], .int .i64 k] w fun e w' => e = .returned (.tuple #[.agg #[.int .i64 (lowN (ss.getD (laN ns ss k) 0 * ns.sum) (ss.sum * ns.getD (laN ns ss k) 0)), .int .i64 (lowD (ss.getD (laN ns ss k) 0 * ns.sum) (ss.sum * ns.getD (laN ns ss k) 0))], .int .i64 0]) ∧ Below w.heap.size w w' := by
  have ho := od_of hv
  have HO := Lib.hid ho
  obtain ⟨hl, hl2⟩ := ho.l3
  have hn10 := ho.le
  have HNB := Lib.hid ho.nb9
  have HSB := Lib.hid ho.sb9
  have n0 := ho.np
  have n1 := ho.nm
  have s0 := ho.sp
  have s1 := ho.sm
  have HA := Lib.hid hA
  have HB := Lib.hid hB
  have HV := Lib.hid hv
  obtain ⟨l1, l2⟩ := la_get (ns := ns) (ss := ss) h1 h2
  have LA2 : Hid (((rowL ns ss).map (Value.int .i64))[k - 1]? = some (.int .i64 ((laN ns ss k : Nat) : Int))) := Lib.hid (by rw [List.getElem?_map, l2]; rfl)
  obtain ⟨j, hj⟩ : ∃ j, k - 1 = j := ⟨_, rfl⟩
  have hwk : IntKind.i64.wrap ((k : Int) - 1) = (j : Int) := by rw [IntWalk.i64_in _ (by omega)]; omega
  have hjn : (j : Int) < (ns.length : Int) := by omega
  have hjn2 : j < ns.length := by omega
  rw [hj] at LA2
  obtain ⟨la, hla⟩ : ∃ la, laN ns ss k = la := ⟨_, rfl⟩
  rw [hla] at LA2 l1 hz
  try rw [hla]
  have t1 : decide ((k : Int) < 1) = false := decide_eq_false (by omega)
  have t2 : decide ((ns.length : Int) < (k : Int)) = false := decide_eq_false (by omega)
  have t3 : decide (ns.length < k) = false := decide_eq_false (by omega)
  have t4 : decide (k < 1) = false := decide_eq_false (by omega)
  have hls : la < ss.length := by rw [← ho.len]; exact l1
  obtain ⟨ad, x, rfl, hbA, hxA, cA⟩ := hA.get l1
  obtain ⟨bd, y, rfl, hbB, hyB, cB⟩ := hB.get hls
  have f1 : ns.getD la 0 = x := getD_of hxA.out
  have f2 : ss.getD la 0 = y := getD_of hyB.out
  obtain ⟨x0, x1⟩ := ho.nb x (List.mem_of_getElem? hxA.out)
  obtain ⟨y0, y1⟩ := ho.sb y (List.mem_of_getElem? hyB.out)
  rw [f1] at hz
  try rw [f1, f2]
  clear hA hB hv l2 hla hj hxA hyB f1 f2 ho
  have hx0 : 0 < x := by omega
  obtain ⟨m0, m1⟩ := mul_bd (a := y) (b := ns.sum) (A := 1000) (B := 10000) y0 y1 (by omega) n1
  obtain ⟨m2, m3⟩ := mul_bd (a := x) (b := ss.sum) (A := 1000) (B := 10000) x0 x1 (by omega) s1
  have m4 : 0 < x * ss.sum := Int.mul_pos hx0 s0
  have hcm : ss.sum * x = x * ss.sum := Int.mul_comm _ _
  rw [hcm]
  clear hcm
  have e1 : IntKind.i64.wrap (y * ns.sum) = y * ns.sum := IntWalk.i64_in _ (by omega)
  have e2 : IntKind.i64.wrap (x * ss.sum) = x * ss.sum := IntWalk.i64_in _ (by omega)
  have hbe : (x == 0) = false := by simp; omega
  have hbd : decide (x = 0) = false := decide_eq_false (by omega)
  obtain ⟨W0, hW0, HW, H0, H1, z0, z1⟩ := two_new w #[.slice (some ad) ns.length c, .slice (some bd) ss.length d] #[.int .i64 0, .int .i64 0] 24 28
  have HK : Hid (∀ W, Below W0.heap.size W0 W → W.cell? ⟨w.heap.size, 0, none⟩ = some (.slice (some ad) ns.length c) ∧ W.cell? ⟨w.heap.size, 1, none⟩ = some (.slice (some bd) ss.length d) ∧ W.cell? ⟨w.heap.size + 1, 0, none⟩ = some (.int .i64 0) ∧ W.cell? ⟨w.heap.size + 1, 1, none⟩ = some (.int .i64 0) ∧ W.frozen? ⟨w.heap.size + 1, 0, none⟩ = false ∧ W.frozen? ⟨w.heap.size + 1, 1, none⟩ = false) := Lib.hid fun W hW =>
    have q0 := (hW.block _ z0).trans H0.out
    have q1 := (hW.block _ z1).trans H1.out
    ⟨blk_cell q0 0 rfl, blk_cell q0 1 rfl, blk_cell q1 0 rfl, blk_cell q1 1 rfl, blk_frozen q1 0, blk_frozen q1 1⟩
  have HEL := Lib.hid fun (V : World) (hV' : Below W0.heap.size W0 V) => And.intro (((below_step HW.out hV').cell (p := ad.add la) (by rw [block_of_add]; exact hbA)).trans cA) (((below_step HW.out hV').cell (p := bd.add la) (by rw [block_of_add]; exact hbB)).trans cB)
  clear cA cB
  go_enter Try.func29, Try.ntmps29
  go_upto_region 5 with (go_at_call 22; with_reducible refine (refValid_any ns ss _ _ _ _ _ (HA.out.below (by repeat (first | with_reducible exact Below.refl _ _ | with_reducible assumption | refine below_drewN ?_ _ | with_reducible refine Below.drew ?_ | (refine Below.setCell ?_ (by first | (simp; done) | (simp; omega) | omega) _) | (refine Below.alloc ?_ (by first | (simp; done) | (simp; omega) | omega) _)))) (HB.out.below (by repeat (first | with_reducible exact Below.refl _ _ | with_reducible assumption | refine below_drewN ?_ _ | with_reducible refine Below.drew ?_ | (refine Below.setCell ?_ (by first | (simp; done) | (simp; omega) | omega) _) | (refine Below.alloc ?_ (by first | (simp; done) | (simp; omega) | omega) _)))) hl hl2).mono ?_; rintro e w1 ⟨rfl, hB1⟩; rw [HV.out]; rw [← hW0] at hB1; have hV : Below W0.heap.size W0 w1 := hB1; clear hB1; obtain ⟨b0, b1, c0, c1, cf0, cf1⟩ := HK.out w1 hV; have zv := hV.size)
  have HROW := Lib.hid fun (V : World) (hV : Below W0.heap.size W0 V) => refRow_own ns ss (some ad) (some bd) c d HO.out V (HA.out.below (below_step HW.out hV)) (HB.out.below (below_step HW.out hV))
  go_wp2_with (go_at_call 74; refine (HROW.out _ hV).mono ?_; rintro e w2 ⟨gb, rfl, hR, hB2⟩; have hV2 := below_step hV hB2; clear hV b0 b1 c0 c1 cf0 cf1; have hV := hV2; clear hV2; obtain ⟨b0, b1, c0, c1, cf0, cf1⟩ := HK.out w2 hV; have r0 := (hR.cellAt j (by omega)).trans LA2.out; obtain ⟨k1, k2⟩ := HEL.out w2 hV; clear hR hB2)
  have z01 : w.heap.size ≠ w.heap.size + 1 := by omega
  have zA : (ad.add la).block ≠ w.heap.size + 1 := by rw [block_of_add]; omega
  have zB : (bd.add la).block ≠ w.heap.size + 1 := by rw [block_of_add]; omega
  have HT1 := Lib.hid fun (V : World) (hV' : Below W0.heap.size W0 V) => total_any ss (some bd) d V (HB.out.below (below_step HW.out hV')) hl2 HSB.out
  have HT2 := Lib.hid fun (V : World) (hV' : Below W0.heap.size W0 V) => total_any ns (some ad) c V (HA.out.below (below_step HW.out hV')) hl HNB.out
  go_region_held3 (fun W => W.cell? ⟨w.heap.size, 0, none⟩ = some (.slice (some ad) ns.length c) ∧ W.cell? ⟨w.heap.size, 1, none⟩ = some (.slice (some bd) ss.length d) ∧ W.cell? (ad.add la) = some (.int .i64 x) ∧ W.cell? (bd.add la) = some (.int .i64 y))
    ((first | with_reducible exact ⟨b0, b1, k1, k2⟩ | (refine ⟨?_, ?_, ?_, ?_⟩ <;> (repeat (first | with_reducible refine (cell_set1 _ z01).trans ?_ | with_reducible refine (cell_set1 _ zA).trans ?_ | with_reducible refine (cell_set1 _ zB).trans ?_ | with_reducible refine (cell_drew1 _ _).trans ?_)) <;> first | with_reducible exact b0 | with_reducible exact b1 | with_reducible exact k1 | with_reducible exact k2)))
    ((first
      | (go_at_call 58; with_reducible refine (HT1.out _ (by first | with_reducible exact hV | exact (by repeat (first | with_reducible exact Below.refl _ _ | with_reducible assumption | refine below_drewN ?_ _ | with_reducible refine Below.drew ?_ | (refine Below.alloc ?_ (by first | (simp; done) | (simp; omega) | omega) _))))).mono ?_; rintro e wt ⟨rfl, rfl⟩)
      | (go_at_call 58; with_reducible refine (HT2.out _ (by first | with_reducible exact hV | exact (by repeat (first | with_reducible exact Below.refl _ _ | with_reducible assumption | refine below_drewN ?_ _ | with_reducible refine Below.drew ?_ | (refine Below.alloc ?_ (by first | (simp; done) | (simp; omega) | omega) _))))).mono ?_; rintro e wt ⟨rfl, rfl⟩)
      | (go_at_call 59; with_reducible refine (refRatio_any (y * ns.sum) (x * ss.sum) _ (by omega) (by omega) (by omega) (by omega)).mono ?_; rintro e wr4 ⟨rfl, hB4⟩; have hV2 : Below W0.heap.size W0 wr4 := below_step (by first | with_reducible exact hV | exact (by repeat (first | with_reducible exact Below.refl _ _ | with_reducible assumption | refine below_drewN ?_ _ | with_reducible refine Below.drew ?_ | (refine Below.alloc ?_ (by first | (simp; done) | (simp; omega) | omega) _)))) hB4; clear hV k1 k2; clear b0 b1 c0 c1 cf0 cf1; have hV := hV2; clear hV2; obtain ⟨b0, b1, c0, c1, cf0, cf1⟩ := HK.out wr4 hV; have zv := hV.size; obtain ⟨k1, k2⟩ := HEL.out wr4 hV; clear hB4)))
  all_goals
    go_wp2
    exact bodyPost_ret (v := .tuple #[.agg #[.int .i64 (lowN (y * ns.sum) (x * ss.sum)), .int .i64 (lowD (y * ns.sum) (x * ss.sum))], .int .i64 0]) (by simp [results, Try.results29, go_sem, c0, c1]) rfl ⟨rfl, set6_belI (below_step HW.out hV)⟩
end Go.Proofs.Ytolpbbabmcpdkaa
