/-
  Contract: Price (weigh).
-/
import Derived.Test.YtolpbbabmcpdkaaWApart
import Derived.Test.YtolpbbabmcpdkaaCutW
import Derived.Deep.CutRange
set_option linter.unusedVariables false
set_option linter.unusedSimpArgs false
namespace Go.Proofs.Ytolpbbabmcpdkaa
open Go.RowKit Go.Shelf

theorem set6_belI {w v : World} {a b : Value} (h : Below w.heap.size w v) : Below w.heap.size w ((v.setCell ⟨w.heap.size + 1, 0, none⟩ a).setCell ⟨w.heap.size + 1, 1, none⟩ b) := Below.setCell (Below.setCell h (Nat.le_succ _) _) (Nat.le_succ _) _
def laN (ns ss : List Int) (k : Nat) : Nat := (rowN ns ss).getD (k - 1) 0
theorem la_get {ns ss : List Int} {k : Nat} (h1 : 1 ≤ k) (h2 : k ≤ ns.length) : laN ns ss k < ns.length ∧ (rowL ns ss)[k - 1]? = some ((laN ns ss k : Nat) : Int) := by
  obtain ⟨a, ha⟩ := getElem?_of_lt (zs := rowN ns ss) (k := k - 1) (by rw [row_len]; omega)
  have e : laN ns ss k = a := by rw [laN, List.getD_eq_getElem?_getD, ha]; rfl
  rw [e]
  exact ⟨row_mem.1 (List.mem_of_getElem? ha), by rw [rowL, List.getElem?_map, ha]; rfl⟩

set_option maxRecDepth 100000 in
set_option maxHeartbeats 2000000 in
theorem price_no (ns ss : List Int) (A B : Option Addr) (c d : Nat) (k : Int) (w : World) (hA : Ints w A ns) (hB : Ints w B ss) (hl : ns.length ≤ 1000) (hl2 : ss.length ≤ 1000) (hv : odB ns ss = false) :
    Calls Try.prog 28 #[.agg #[.slice A ns.length c, .slice B ss.length d], .int .i64 k] w fun e w' => e = .returned (.tuple #[.agg #[.int .i64 0, .int .i64 0], .int .i64 70]) ∧ Below w.heap.size w w' := by
  have HA := Lib.hid hA
  have HB := Lib.hid hB
  have HV := Lib.hid hv
  clear hA hB hv
  obtain ⟨W0, hW0, HW, H0, H1, z0, z1⟩ := two_new w #[.slice A ns.length c, .slice B ss.length d] #[.int .i64 0, .int .i64 0] 24 28
  go_enter Try.func28, Try.ntmps28
  go_upto_region 2 with (go_at_call 72; with_reducible refine (summed_no ns ss _ _ _ _ _ (HA.out.below (by repeat (first | with_reducible exact Below.refl _ _ | with_reducible assumption | refine below_drewN ?_ _ | with_reducible refine Below.drew ?_ | (refine Below.setCell ?_ (by first | (simp; done) | (simp; omega) | omega) _) | (refine Below.alloc ?_ (by first | (simp; done) | (simp; omega) | omega) _)))) (HB.out.below (by repeat (first | with_reducible exact Below.refl _ _ | with_reducible assumption | refine below_drewN ?_ _ | with_reducible refine Below.drew ?_ | (refine Below.setCell ?_ (by first | (simp; done) | (simp; omega) | omega) _) | (refine Below.alloc ?_ (by first | (simp; done) | (simp; omega) | omega) _)))) hl hl2 HV.out).mono ?_; rintro e v1 ⟨rfl, hB1⟩; rw [← hW0] at hB1; have H0 := Lib.hid ((hB1.block _ z0).trans H0.out); have z0 := Nat.lt_of_lt_of_le z0 hB1.size; have H1 := Lib.hid ((hB1.block _ z1).trans H1.out); have z1 := Nat.lt_of_lt_of_le z1 hB1.size; have HW : Hid (Below w.heap.size w _) := Lib.hid (below_step HW.out hB1); clear hB1)
  obtain ⟨X1, hX1, H2, z2, H0, H1, z0, z1, HW⟩ : ∃ X, v1.alloc (.cells #[.slice none 0 0, .slice none 0 0, .int .i64 0, .int .i64 0] 67) = X ∧ Hid (X.heap[v1.heap.size]? = some (.cells #[.slice none 0 0, .slice none 0 0, .int .i64 0, .int .i64 0] 67 (0, 0))) ∧ v1.heap.size < X.heap.size ∧ Hid (X.heap[w.heap.size]? = some (.cells #[.slice A ns.length c, .slice B ss.length d] 24 (0, 0))) ∧ Hid (X.heap[w.heap.size + 1]? = some (.cells #[.int .i64 0, .int .i64 0] 28 (0, 0))) ∧ w.heap.size < X.heap.size ∧ w.heap.size + 1 < X.heap.size ∧ Hid (Below w.heap.size w X) :=
    ⟨_, rfl, Lib.hid (heap_alloc_new _ _), by simp, Lib.hid ((Below.heap_alloc _ _ _ z0).trans H0.out), Lib.hid ((Below.heap_alloc _ _ _ z1).trans H1.out), by simp; omega, by simp; omega, Lib.hid (Below.alloc HW.out HW.out.size _)⟩
  have zg : w.heap.size + 1 < v1.heap.size := by assumption
  rw [hX1]
  clear hX1
  obtain ⟨gx, hgx⟩ : ∃ g, v1.heap.size = g := ⟨_, rfl⟩
  rw [hgx] at H2 z2 zg ⊢
  clear hgx
  have HK : Hid (∀ W, Below X1.heap.size X1 W → W.cell? ⟨w.heap.size, 0, none⟩ = some (.slice A ns.length c) ∧ W.cell? ⟨w.heap.size, 1, none⟩ = some (.slice B ss.length d) ∧ W.cell? ⟨w.heap.size + 1, 0, none⟩ = some (.int .i64 0) ∧ W.cell? ⟨w.heap.size + 1, 1, none⟩ = some (.int .i64 0) ∧ W.cell? ⟨gx, 0, none⟩ = some (.slice none 0 0) ∧ W.cell? ⟨gx, 1, none⟩ = some (.slice none 0 0) ∧ W.cell? ⟨gx, 2, none⟩ = some (.int .i64 0) ∧ W.cell? ⟨gx, 3, none⟩ = some (.int .i64 0) ∧ W.frozen? ⟨w.heap.size + 1, 0, none⟩ = false ∧ W.frozen? ⟨w.heap.size + 1, 1, none⟩ = false) := Lib.hid fun W hW =>
    have q0 := (hW.block _ z0).trans H0.out
    have q1 := (hW.block _ z1).trans H1.out
    have q2 := (hW.block _ z2).trans H2.out
    ⟨blk_cell q0 0 rfl, blk_cell q0 1 rfl, blk_cell q1 0 rfl, blk_cell q1 1 rfl, blk_cell q2 0 rfl, blk_cell q2 1 rfl, blk_cell q2 2 rfl, blk_cell q2 3 rfl, blk_frozen q1 0, blk_frozen q1 1⟩
  obtain ⟨b0, b1, c0, c1, s0, s1, s2, s3, cf0, cf1⟩ := HK.out X1 (Below.refl _ _)
  go_wp2
  exact bodyPost_ret (v := .tuple #[.agg #[.int .i64 0, .int .i64 0], .int .i64 70]) (by simp [results, Try.results28, go_sem, c0, c1]) rfl ⟨rfl, (by repeat (first | with_reducible exact HW.out | with_reducible exact Below.refl _ _ | with_reducible refine below_drewN ?_ _ | with_reducible refine Below.drew ?_ | (with_reducible refine Below.setCell ?_ (by first | exact Nat.le_refl _ | exact Nat.le_succ _ | (simp; done) | (simp; omega) | omega) _) | (with_reducible refine Below.alloc ?_ (by first | exact HW.out.size | (simp; done) | (simp; omega) | omega) _)))⟩

set_option maxRecDepth 100000 in
set_option maxHeartbeats 2000000 in
theorem price_a0 (ns ss : List Int) (A B : Option Addr) (c d : Nat) (k : Int) (w : World) (hA : Ints w A ns) (hB : Ints w B ss) (h : k < 1) (hv : odB ns ss = true) :
    Calls Try.prog 28 #[.agg #[.slice A ns.length c, .slice B ss.length d], .int .i64 k] w fun e w' => e = .returned (.tuple #[.agg #[.int .i64 0, .int .i64 0], .int .i64 2]) ∧ Below w.heap.size w w' := by
  have HA := Lib.hid hA
  have HB := Lib.hid hB
  have HV := Lib.hid hv
  have t1 : decide (k < 1) = true := decide_eq_true h
  clear hA hB hv
  obtain ⟨W0, hW0, HW, H0, H1, z0, z1⟩ := two_new w #[.slice A ns.length c, .slice B ss.length d] #[.int .i64 0, .int .i64 0] 24 28
  go_enter Try.func28, Try.ntmps28
  go_upto_region 2 with (go_at_call 72; with_reducible refine (summed_yes ns ss _ _ _ _ _ (HA.out.below (by repeat (first | with_reducible exact Below.refl _ _ | with_reducible assumption | refine below_drewN ?_ _ | with_reducible refine Below.drew ?_ | (refine Below.setCell ?_ (by first | (simp; done) | (simp; omega) | omega) _) | (refine Below.alloc ?_ (by first | (simp; done) | (simp; omega) | omega) _)))) (HB.out.below (by repeat (first | with_reducible exact Below.refl _ _ | with_reducible assumption | refine below_drewN ?_ _ | with_reducible refine Below.drew ?_ | (refine Below.setCell ?_ (by first | (simp; done) | (simp; omega) | omega) _) | (refine Below.alloc ?_ (by first | (simp; done) | (simp; omega) | omega) _)))) HV.out).mono ?_; rintro e v1 ⟨rfl, hB1⟩; rw [← hW0] at hB1; have H0 := Lib.hid ((hB1.block _ z0).trans H0.out); have z0 := Nat.lt_of_lt_of_le z0 hB1.size; have H1 := Lib.hid ((hB1.block _ z1).trans H1.out); have z1 := Nat.lt_of_lt_of_le z1 hB1.size; have HW : Hid (Below w.heap.size w _) := Lib.hid (below_step HW.out hB1); clear hB1)
  obtain ⟨X1, hX1, H2, z2, H0, H1, z0, z1, HW⟩ : ∃ X, v1.alloc (.cells #[.slice A ns.length c, .slice B ss.length d, .int .i64 ns.sum, .int .i64 ss.sum] 67) = X ∧ Hid (X.heap[v1.heap.size]? = some (.cells #[.slice A ns.length c, .slice B ss.length d, .int .i64 ns.sum, .int .i64 ss.sum] 67 (0, 0))) ∧ v1.heap.size < X.heap.size ∧ Hid (X.heap[w.heap.size]? = some (.cells #[.slice A ns.length c, .slice B ss.length d] 24 (0, 0))) ∧ Hid (X.heap[w.heap.size + 1]? = some (.cells #[.int .i64 0, .int .i64 0] 28 (0, 0))) ∧ w.heap.size < X.heap.size ∧ w.heap.size + 1 < X.heap.size ∧ Hid (Below w.heap.size w X) :=
    ⟨_, rfl, Lib.hid (heap_alloc_new _ _), by simp, Lib.hid ((Below.heap_alloc _ _ _ z0).trans H0.out), Lib.hid ((Below.heap_alloc _ _ _ z1).trans H1.out), by simp; omega, by simp; omega, Lib.hid (Below.alloc HW.out HW.out.size _)⟩
  have zg : w.heap.size + 1 < v1.heap.size := by assumption
  rw [hX1]
  clear hX1
  obtain ⟨gx, hgx⟩ : ∃ g, v1.heap.size = g := ⟨_, rfl⟩
  rw [hgx] at H2 z2 zg ⊢
  clear hgx
  have HK : Hid (∀ W, Below X1.heap.size X1 W → W.cell? ⟨w.heap.size, 0, none⟩ = some (.slice A ns.length c) ∧ W.cell? ⟨w.heap.size, 1, none⟩ = some (.slice B ss.length d) ∧ W.cell? ⟨w.heap.size + 1, 0, none⟩ = some (.int .i64 0) ∧ W.cell? ⟨w.heap.size + 1, 1, none⟩ = some (.int .i64 0) ∧ W.cell? ⟨gx, 0, none⟩ = some (.slice A ns.length c) ∧ W.cell? ⟨gx, 1, none⟩ = some (.slice B ss.length d) ∧ W.cell? ⟨gx, 2, none⟩ = some (.int .i64 ns.sum) ∧ W.cell? ⟨gx, 3, none⟩ = some (.int .i64 ss.sum) ∧ W.frozen? ⟨w.heap.size + 1, 0, none⟩ = false ∧ W.frozen? ⟨w.heap.size + 1, 1, none⟩ = false) := Lib.hid fun W hW =>
    have q0 := (hW.block _ z0).trans H0.out
    have q1 := (hW.block _ z1).trans H1.out
    have q2 := (hW.block _ z2).trans H2.out
    ⟨blk_cell q0 0 rfl, blk_cell q0 1 rfl, blk_cell q1 0 rfl, blk_cell q1 1 rfl, blk_cell q2 0 rfl, blk_cell q2 1 rfl, blk_cell q2 2 rfl, blk_cell q2 3 rfl, blk_frozen q1 0, blk_frozen q1 1⟩
  obtain ⟨b0, b1, c0, c1, s0, s1, s2, s3, cf0, cf1⟩ := HK.out X1 (Below.refl _ _)
  have hV : Below X1.heap.size X1 X1 := Below.refl _ _
  have zv := hV.size
  go_wp2
  exact bodyPost_ret (v := .tuple #[.agg #[.int .i64 0, .int .i64 0], .int .i64 2]) (by simp [results, Try.results28, go_sem, c0, c1]) rfl ⟨rfl, set6_belI (below_step HW.out hV)⟩

set_option maxRecDepth 100000 in
set_option maxHeartbeats 2000000 in
theorem price_a1 (ns ss : List Int) (A B : Option Addr) (c d : Nat) (k : Int) (w : World) (hA : Ints w A ns) (hB : Ints w B ss) (h : 1 ≤ k ∧ (ns.length : Int) < k) (hv : odB ns ss = true) :
    Calls Try.prog 28 #[.agg #[.slice A ns.length c, .slice B ss.length d], .int .i64 k] w fun e w' => e = .returned (.tuple #[.agg #[.int .i64 0, .int .i64 0], .int .i64 2]) ∧ Below w.heap.size w w' := by
  have HA := Lib.hid hA
  have HB := Lib.hid hB
  have HV := Lib.hid hv
  have t1 : decide (k < 1) = false := decide_eq_false (by omega)
  have t2 : decide ((ns.length : Int) < k) = true := decide_eq_true h.2
  clear hA hB hv
  obtain ⟨W0, hW0, HW, H0, H1, z0, z1⟩ := two_new w #[.slice A ns.length c, .slice B ss.length d] #[.int .i64 0, .int .i64 0] 24 28
  go_enter Try.func28, Try.ntmps28
  go_upto_region 2 with (go_at_call 72; with_reducible refine (summed_yes ns ss _ _ _ _ _ (HA.out.below (by repeat (first | with_reducible exact Below.refl _ _ | with_reducible assumption | refine below_drewN ?_ _ | with_reducible refine Below.drew ?_ | (refine Below.setCell ?_ (by first | (simp; done) | (simp; omega) | omega) _) | (refine Below.alloc ?_ (by first | (simp; done) | (simp; omega) | omega) _)))) (HB.out.below (by repeat (first | with_reducible exact Below.refl _ _ | with_reducible assumption | refine below_drewN ?_ _ | with_reducible refine Below.drew ?_ | (refine Below.setCell ?_ (by first | (simp; done) | (simp; omega) | omega) _) | (refine Below.alloc ?_ (by first | (simp; done) | (simp; omega) | omega) _)))) HV.out).mono ?_; rintro e v1 ⟨rfl, hB1⟩; rw [← hW0] at hB1; have H0 := Lib.hid ((hB1.block _ z0).trans H0.out); have z0 := Nat.lt_of_lt_of_le z0 hB1.size; have H1 := Lib.hid ((hB1.block _ z1).trans H1.out); have z1 := Nat.lt_of_lt_of_le z1 hB1.size; have HW : Hid (Below w.heap.size w _) := Lib.hid (below_step HW.out hB1); clear hB1)
  obtain ⟨X1, hX1, H2, z2, H0, H1, z0, z1, HW⟩ : ∃ X, v1.alloc (.cells #[.slice A ns.length c, .slice B ss.length d, .int .i64 ns.sum, .int .i64 ss.sum] 67) = X ∧ Hid (X.heap[v1.heap.size]? = some (.cells #[.slice A ns.length c, .slice B ss.length d, .int .i64 ns.sum, .int .i64 ss.sum] 67 (0, 0))) ∧ v1.heap.size < X.heap.size ∧ Hid (X.heap[w.heap.size]? = some (.cells #[.slice A ns.length c, .slice B ss.length d] 24 (0, 0))) ∧ Hid (X.heap[w.heap.size + 1]? = some (.cells #[.int .i64 0, .int .i64 0] 28 (0, 0))) ∧ w.heap.size < X.heap.size ∧ w.heap.size + 1 < X.heap.size ∧ Hid (Below w.heap.size w X) :=
    ⟨_, rfl, Lib.hid (heap_alloc_new _ _), by simp, Lib.hid ((Below.heap_alloc _ _ _ z0).trans H0.out), Lib.hid ((Below.heap_alloc _ _ _ z1).trans H1.out), by simp; omega, by simp; omega, Lib.hid (Below.alloc HW.out HW.out.size _)⟩
  have zg : w.heap.size + 1 < v1.heap.size := by assumption
  rw [hX1]
  clear hX1
  obtain ⟨gx, hgx⟩ : ∃ g, v1.heap.size = g := ⟨_, rfl⟩
  rw [hgx] at H2 z2 zg ⊢
  clear hgx
  have HK : Hid (∀ W, Below X1.heap.size X1 W → W.cell? ⟨w.heap.size, 0, none⟩ = some (.slice A ns.length c) ∧ W.cell? ⟨w.heap.size, 1, none⟩ = some (.slice B ss.length d) ∧ W.cell? ⟨w.heap.size + 1, 0, none⟩ = some (.int .i64 0) ∧ W.cell? ⟨w.heap.size + 1, 1, none⟩ = some (.int .i64 0) ∧ W.cell? ⟨gx, 0, none⟩ = some (.slice A ns.length c) ∧ W.cell? ⟨gx, 1, none⟩ = some (.slice B ss.length d) ∧ W.cell? ⟨gx, 2, none⟩ = some (.int .i64 ns.sum) ∧ W.cell? ⟨gx, 3, none⟩ = some (.int .i64 ss.sum) ∧ W.frozen? ⟨w.heap.size + 1, 0, none⟩ = false ∧ W.frozen? ⟨w.heap.size + 1, 1, none⟩ = false) := Lib.hid fun W hW =>
    have q0 := (hW.block _ z0).trans H0.out
    have q1 := (hW.block _ z1).trans H1.out
    have q2 := (hW.block _ z2).trans H2.out
    ⟨blk_cell q0 0 rfl, blk_cell q0 1 rfl, blk_cell q1 0 rfl, blk_cell q1 1 rfl, blk_cell q2 0 rfl, blk_cell q2 1 rfl, blk_cell q2 2 rfl, blk_cell q2 3 rfl, blk_frozen q1 0, blk_frozen q1 1⟩
  obtain ⟨b0, b1, c0, c1, s0, s1, s2, s3, cf0, cf1⟩ := HK.out X1 (Below.refl _ _)
  have hV : Below X1.heap.size X1 X1 := Below.refl _ _
  have zv := hV.size
  go_wp2_with (go_at_call 77; with_reducible refine (count_any ns ss _ _ _ _ _ _ _).mono ?_; rintro e v2 ⟨rfl, hB2⟩; have hV2 : Below X1.heap.size X1 v2 := below_step (by first | with_reducible exact hV | exact (by repeat (first | with_reducible exact Below.refl _ _ | with_reducible assumption | refine below_drewN ?_ _ | with_reducible refine Below.drew ?_ | (refine Below.alloc ?_ (by first | (simp; done) | (simp; omega) | omega) _)))) hB2;  clear hV; clear b0 b1 c0 c1 s0 s1 s2 s3 cf0 cf1; have hV := hV2; clear hV2; obtain ⟨b0, b1, c0, c1, s0, s1, s2, s3, cf0, cf1⟩ := HK.out v2 hV; have zv := hV.size; clear hB2)
  exact bodyPost_ret (v := .tuple #[.agg #[.int .i64 0, .int .i64 0], .int .i64 2]) (by simp [results, Try.results28, go_sem, c0, c1]) rfl ⟨rfl, set6_belI (below_step HW.out hV)⟩

set_option maxRecDepth 100000 in
set_option maxHeartbeats 2000000 in
theorem price_none (ns ss : List Int) (A B : Option Addr) (c d : Nat) (k : Nat) (w : World) (hA : Ints w A ns) (hB : Ints w B ss) (hv : odB ns ss = true) (h1 : 1 ≤ k) (h2 : k ≤ ns.length) (hz : ns.getD (laN ns ss k) 0 = 0) :
    Calls Try.prog 28 #[.agg #[.slice A ns.length c, .slice B ss.length d], .int .i64 k] w fun e w' => e = .returned (.tuple #[.agg #[.int .i64 0, .int .i64 0], .int .i64 5]) ∧ Below w.heap.size w w' := by
  have ho := od_of hv
  have HO := Lib.hid ho
  obtain ⟨l1, l2⟩ := la_get (ns := ns) (ss := ss) h1 h2
  have LA2 : Hid (((rowL ns ss).map (Value.int .i64))[k - 1]? = some (.int .i64 ((laN ns ss k : Nat) : Int))) := Lib.hid (by rw [List.getElem?_map, l2]; rfl)
  have HL1 := Lib.hid l1
  obtain ⟨la, hla⟩ : ∃ a, laN ns ss k = a := ⟨_, rfl⟩
  rw [hla] at LA2 l1 HL1 hz
  try rw [hla]
  have hls : la < ss.length := by rw [← ho.len]; exact l1
  have hk10 := ho.le
  have hsn := ho.np
  have hss := ho.sp
  have t1 : decide ((k : Int) < 1) = false := decide_eq_false (by omega)
  have t2 : decide ((ns.length : Int) < (k : Int)) = false := decide_eq_false (by omega)
  have t1n : decide (k < 1) = false := decide_eq_false (by omega)
  have t2n : decide (ns.length < k) = false := decide_eq_false (by omega)
  have e1 : IntKind.i64.wrap ((k : Int) - 1) = ((k - 1 : Nat) : Int) := by rw [IntWalk.i64_in _ (by omega)]; omega
  clear hla l2 ho
  obtain ⟨ad, x, rfl, hbA, hxA, cA⟩ := hA.get l1
  obtain ⟨bd, y, rfl, hbB, hyB, cB⟩ := hB.get hls
  have gA : ns.getD la 0 = x := getD_of hxA.out
  have gB : ss.getD la 0 = y := getD_of hyB.out
  have bx := (od_of hv).nb x (List.mem_of_getElem? hxA.out)
  have by_ := (od_of hv).sb y (List.mem_of_getElem? hyB.out)
  have mx := (od_of hv).nm
  have my := (od_of hv).sm
  rw [gA] at hz
  try rw [gA]
  try rw [gB]
  obtain ⟨bx0, bx1⟩ := bx
  obtain ⟨by0, by1⟩ := by_
  have HA := Lib.hid hA
  have HB := Lib.hid hB
  have HV := Lib.hid hv
  have HCA := Lib.hid (fun (W : World) (hW : Below w.heap.size w W) => (hW.cell (p := ad.add la) (by rw [block_of_add]; exact hbA)).trans cA)
  have HCB := Lib.hid (fun (W : World) (hW : Below w.heap.size w W) => (hW.cell (p := bd.add la) (by rw [block_of_add]; exact hbB)).trans cB)
  clear hA hB hv gA gB hxA hyB cA cB
  obtain ⟨W0, hW0, HW, H0, H1, z0, z1⟩ := two_new w #[.slice (some ad) ns.length c, .slice (some bd) ss.length d] #[.int .i64 0, .int .i64 0] 24 28
  go_enter Try.func28, Try.ntmps28
  go_upto_region 2 with (go_at_call 72; with_reducible refine (summed_yes ns ss _ _ _ _ _ (HA.out.below (by repeat (first | with_reducible exact Below.refl _ _ | with_reducible assumption | refine below_drewN ?_ _ | with_reducible refine Below.drew ?_ | (refine Below.setCell ?_ (by first | (simp; done) | (simp; omega) | omega) _) | (refine Below.alloc ?_ (by first | (simp; done) | (simp; omega) | omega) _)))) (HB.out.below (by repeat (first | with_reducible exact Below.refl _ _ | with_reducible assumption | refine below_drewN ?_ _ | with_reducible refine Below.drew ?_ | (refine Below.setCell ?_ (by first | (simp; done) | (simp; omega) | omega) _) | (refine Below.alloc ?_ (by first | (simp; done) | (simp; omega) | omega) _)))) HV.out).mono ?_; rintro e v1 ⟨rfl, hB1⟩; rw [← hW0] at hB1; have H0 := Lib.hid ((hB1.block _ z0).trans H0.out); have z0 := Nat.lt_of_lt_of_le z0 hB1.size; have H1 := Lib.hid ((hB1.block _ z1).trans H1.out); have z1 := Nat.lt_of_lt_of_le z1 hB1.size; have HW : Hid (Below w.heap.size w _) := Lib.hid (below_step HW.out hB1); clear hB1)
  obtain ⟨X1, hX1, H2, z2, H0, H1, z0, z1, HW⟩ : ∃ X, v1.alloc (.cells #[.slice (some ad) ns.length c, .slice (some bd) ss.length d, .int .i64 ns.sum, .int .i64 ss.sum] 67) = X ∧ Hid (X.heap[v1.heap.size]? = some (.cells #[.slice (some ad) ns.length c, .slice (some bd) ss.length d, .int .i64 ns.sum, .int .i64 ss.sum] 67 (0, 0))) ∧ v1.heap.size < X.heap.size ∧ Hid (X.heap[w.heap.size]? = some (.cells #[.slice (some ad) ns.length c, .slice (some bd) ss.length d] 24 (0, 0))) ∧ Hid (X.heap[w.heap.size + 1]? = some (.cells #[.int .i64 0, .int .i64 0] 28 (0, 0))) ∧ w.heap.size < X.heap.size ∧ w.heap.size + 1 < X.heap.size ∧ Hid (Below w.heap.size w X) :=
    ⟨_, rfl, Lib.hid (heap_alloc_new _ _), by simp, Lib.hid ((Below.heap_alloc _ _ _ z0).trans H0.out), Lib.hid ((Below.heap_alloc _ _ _ z1).trans H1.out), by simp; omega, by simp; omega, Lib.hid (Below.alloc HW.out HW.out.size _)⟩
  have zg : w.heap.size + 1 < v1.heap.size := by assumption
  rw [hX1]
  clear hX1
  obtain ⟨gx, hgx⟩ : ∃ g, v1.heap.size = g := ⟨_, rfl⟩
  rw [hgx] at H2 z2 zg ⊢
  clear hgx
  have HK : Hid (∀ W, Below X1.heap.size X1 W → W.cell? ⟨w.heap.size, 0, none⟩ = some (.slice (some ad) ns.length c) ∧ W.cell? ⟨w.heap.size, 1, none⟩ = some (.slice (some bd) ss.length d) ∧ W.cell? ⟨w.heap.size + 1, 0, none⟩ = some (.int .i64 0) ∧ W.cell? ⟨w.heap.size + 1, 1, none⟩ = some (.int .i64 0) ∧ W.cell? ⟨gx, 0, none⟩ = some (.slice (some ad) ns.length c) ∧ W.cell? ⟨gx, 1, none⟩ = some (.slice (some bd) ss.length d) ∧ W.cell? ⟨gx, 2, none⟩ = some (.int .i64 ns.sum) ∧ W.cell? ⟨gx, 3, none⟩ = some (.int .i64 ss.sum) ∧ W.frozen? ⟨w.heap.size + 1, 0, none⟩ = false ∧ W.frozen? ⟨w.heap.size + 1, 1, none⟩ = false) := Lib.hid fun W hW =>
    have q0 := (hW.block _ z0).trans H0.out
    have q1 := (hW.block _ z1).trans H1.out
    have q2 := (hW.block _ z2).trans H2.out
    ⟨blk_cell q0 0 rfl, blk_cell q0 1 rfl, blk_cell q1 0 rfl, blk_cell q1 1 rfl, blk_cell q2 0 rfl, blk_cell q2 1 rfl, blk_cell q2 2 rfl, blk_cell q2 3 rfl, blk_frozen q1 0, blk_frozen q1 1⟩
  obtain ⟨b0, b1, c0, c1, s0, s1, s2, s3, cf0, cf1⟩ := HK.out X1 (Below.refl _ _)
  have hV : Below X1.heap.size X1 X1 := Below.refl _ _
  have zv := hV.size
  go_upto_region 7 with (first
    | (go_at_call 77; with_reducible refine (count_any ns ss _ _ _ _ _ _ _).mono ?_; rintro e v2 ⟨rfl, hB2⟩; have hV2 : Below X1.heap.size X1 v2 := below_step (by first | with_reducible exact hV | exact (by repeat (first | with_reducible exact Below.refl _ _ | with_reducible assumption | refine below_drewN ?_ _ | with_reducible refine Below.drew ?_ | (refine Below.alloc ?_ (by first | (simp; done) | (simp; omega) | omega) _)))) hB2;  clear hV; clear b0 b1 c0 c1 s0 s1 s2 s3 cf0 cf1; have hV := hV2; clear hV2; obtain ⟨b0, b1, c0, c1, s0, s1, s2, s3, cf0, cf1⟩ := HK.out v2 hV; have zv := hV.size; clear hB2)
    | (go_at_call 73; with_reducible refine (row_own ns ss (some ad) (some bd) c d HO.out _ (HA.out.below (below_step HW.out (by first | with_reducible exact hV | exact (by repeat (first | with_reducible exact Below.refl _ _ | with_reducible assumption | refine below_drewN ?_ _ | with_reducible refine Below.drew ?_ | (refine Below.alloc ?_ (by first | (simp; done) | (simp; omega) | omega) _)))))) (HB.out.below (below_step HW.out (by first | with_reducible exact hV | exact (by repeat (first | with_reducible exact Below.refl _ _ | with_reducible assumption | refine below_drewN ?_ _ | with_reducible refine Below.drew ?_ | (refine Below.alloc ?_ (by first | (simp; done) | (simp; omega) | omega) _))))))).mono ?_; rintro e v3 ⟨gb, rfl, hO, hB3⟩; have hV2 : Below X1.heap.size X1 v3 := below_step (by first | with_reducible exact hV | exact (by repeat (first | with_reducible exact Below.refl _ _ | with_reducible assumption | refine below_drewN ?_ _ | with_reducible refine Below.drew ?_ | (refine Below.alloc ?_ (by first | (simp; done) | (simp; omega) | omega) _)))) hB3; have HR := Lib.hid hO; have r0 := (hO.cellAt (k - 1) (by omega)).trans LA2.out; clear hO; clear hV; clear b0 b1 c0 c1 s0 s1 s2 s3 cf0 cf1; have hV := hV2; clear hV2; obtain ⟨b0, b1, c0, c1, s0, s1, s2, s3, cf0, cf1⟩ := HK.out v3 hV; have zv := hV.size; clear hB3)
    | fail)
  have k0 := HCA.out _ (below_step HW.out hV)
  subst hz
  go_wp2
  exact bodyPost_ret (v := .tuple #[.agg #[.int .i64 0, .int .i64 0], .int .i64 5]) (by simp [results, Try.results28, go_sem, c0, c1]) rfl ⟨rfl, set6_belI (below_step HW.out hV)⟩

set_option maxRecDepth 100000 in
set_option maxHeartbeats 2000000 in
theorem price_yes (ns ss : List Int) (A B : Option Addr) (c d : Nat) (k : Nat) (w : World) (hA : Ints w A ns) (hB : Ints w B ss) (hv : odB ns ss = true) (h1 : 1 ≤ k) (h2 : k ≤ ns.length) (hz : ns.getD (laN ns ss k) 0 ≠ 0) :
    Calls Try.prog 28 #[.agg #[.slice A ns.length c, .slice B ss.length d], .int .i64 k] w fun e w' => e = .returned (.tuple #[.agg #[.int .i64 (lowN (ss.getD (laN ns ss k) 0 * ns.sum) (ss.sum * ns.getD (laN ns ss k) 0)), .int .i64 (lowD (ss.getD (laN ns ss k) 0 * ns.sum) (ss.sum * ns.getD (laN ns ss k) 0))], .int .i64 0]) ∧ Below w.heap.size w w' := by
  have ho := od_of hv
  have HO := Lib.hid ho
  obtain ⟨l1, l2⟩ := la_get (ns := ns) (ss := ss) h1 h2
  have LA2 : Hid (((rowL ns ss).map (Value.int .i64))[k - 1]? = some (.int .i64 ((laN ns ss k : Nat) : Int))) := Lib.hid (by rw [List.getElem?_map, l2]; rfl)
  have HL1 := Lib.hid l1
  obtain ⟨la, hla⟩ : ∃ a, laN ns ss k = a := ⟨_, rfl⟩
  rw [hla] at LA2 l1 HL1 hz
  try rw [hla]
  have hls : la < ss.length := by rw [← ho.len]; exact l1
  have hk10 := ho.le
  have hsn := ho.np
  have hss := ho.sp
  have t1 : decide ((k : Int) < 1) = false := decide_eq_false (by omega)
  have t2 : decide ((ns.length : Int) < (k : Int)) = false := decide_eq_false (by omega)
  have t1n : decide (k < 1) = false := decide_eq_false (by omega)
  have t2n : decide (ns.length < k) = false := decide_eq_false (by omega)
  have e1 : IntKind.i64.wrap ((k : Int) - 1) = ((k - 1 : Nat) : Int) := by rw [IntWalk.i64_in _ (by omega)]; omega
  clear hla l2 ho
  obtain ⟨ad, x, rfl, hbA, hxA, cA⟩ := hA.get l1
  obtain ⟨bd, y, rfl, hbB, hyB, cB⟩ := hB.get hls
  have gA : ns.getD la 0 = x := getD_of hxA.out
  have gB : ss.getD la 0 = y := getD_of hyB.out
  have bx := (od_of hv).nb x (List.mem_of_getElem? hxA.out)
  have by_ := (od_of hv).sb y (List.mem_of_getElem? hyB.out)
  have mx := (od_of hv).nm
  have my := (od_of hv).sm
  rw [gA] at hz
  try rw [gA]
  try rw [gB]
  obtain ⟨bx0, bx1⟩ := bx
  obtain ⟨by0, by1⟩ := by_
  have HA := Lib.hid hA
  have HB := Lib.hid hB
  have HV := Lib.hid hv
  have HCA := Lib.hid (fun (W : World) (hW : Below w.heap.size w W) => (hW.cell (p := ad.add la) (by rw [block_of_add]; exact hbA)).trans cA)
  have HCB := Lib.hid (fun (W : World) (hW : Below w.heap.size w W) => (hW.cell (p := bd.add la) (by rw [block_of_add]; exact hbB)).trans cB)
  clear hA hB hv gA gB hxA hyB cA cB
  have u1 : (x == 0) = false := beq_eq_false_iff_ne.2 hz
  have m1 : 0 ≤ y * ns.sum ∧ y * ns.sum ≤ 10000000 := ⟨Int.mul_nonneg by0 (by omega), Int.le_trans (Int.mul_le_mul by1 mx (by omega) (by omega)) (by omega)⟩
  have m2 : 0 < ss.sum * x ∧ ss.sum * x ≤ 10000000 := ⟨Int.mul_pos (by omega) (by omega), Int.le_trans (Int.mul_le_mul my bx1 (by omega) (by omega)) (by omega)⟩
  obtain ⟨m10, m11⟩ := m1
  obtain ⟨m20, m21⟩ := m2
  have s1 : IntKind.i64.wrap (y * ns.sum) = y * ns.sum := IntWalk.i64_in _ (by omega)
  have s2 : IntKind.i64.wrap (ss.sum * x) = ss.sum * x := IntWalk.i64_in _ (by omega)
  obtain ⟨W0, hW0, HW, H0, H1, z0, z1⟩ := two_new w #[.slice (some ad) ns.length c, .slice (some bd) ss.length d] #[.int .i64 0, .int .i64 0] 24 28
  go_enter Try.func28, Try.ntmps28
  go_upto_region 2 with (go_at_call 72; with_reducible refine (summed_yes ns ss _ _ _ _ _ (HA.out.below (by repeat (first | with_reducible exact Below.refl _ _ | with_reducible assumption | refine below_drewN ?_ _ | with_reducible refine Below.drew ?_ | (refine Below.setCell ?_ (by first | (simp; done) | (simp; omega) | omega) _) | (refine Below.alloc ?_ (by first | (simp; done) | (simp; omega) | omega) _)))) (HB.out.below (by repeat (first | with_reducible exact Below.refl _ _ | with_reducible assumption | refine below_drewN ?_ _ | with_reducible refine Below.drew ?_ | (refine Below.setCell ?_ (by first | (simp; done) | (simp; omega) | omega) _) | (refine Below.alloc ?_ (by first | (simp; done) | (simp; omega) | omega) _)))) HV.out).mono ?_; rintro e v1 ⟨rfl, hB1⟩; rw [← hW0] at hB1; have H0 := Lib.hid ((hB1.block _ z0).trans H0.out); have z0 := Nat.lt_of_lt_of_le z0 hB1.size; have H1 := Lib.hid ((hB1.block _ z1).trans H1.out); have z1 := Nat.lt_of_lt_of_le z1 hB1.size; have HW : Hid (Below w.heap.size w _) := Lib.hid (below_step HW.out hB1); clear hB1)
  obtain ⟨X1, hX1, H2, z2, H0, H1, z0, z1, HW⟩ : ∃ X, v1.alloc (.cells #[.slice (some ad) ns.length c, .slice (some bd) ss.length d, .int .i64 ns.sum, .int .i64 ss.sum] 67) = X ∧ Hid (X.heap[v1.heap.size]? = some (.cells #[.slice (some ad) ns.length c, .slice (some bd) ss.length d, .int .i64 ns.sum, .int .i64 ss.sum] 67 (0, 0))) ∧ v1.heap.size < X.heap.size ∧ Hid (X.heap[w.heap.size]? = some (.cells #[.slice (some ad) ns.length c, .slice (some bd) ss.length d] 24 (0, 0))) ∧ Hid (X.heap[w.heap.size + 1]? = some (.cells #[.int .i64 0, .int .i64 0] 28 (0, 0))) ∧ w.heap.size < X.heap.size ∧ w.heap.size + 1 < X.heap.size ∧ Hid (Below w.heap.size w X) :=
    ⟨_, rfl, Lib.hid (heap_alloc_new _ _), by simp, Lib.hid ((Below.heap_alloc _ _ _ z0).trans H0.out), Lib.hid ((Below.heap_alloc _ _ _ z1).trans H1.out), by simp; omega, by simp; omega, Lib.hid (Below.alloc HW.out HW.out.size _)⟩
  have zg : w.heap.size + 1 < v1.heap.size := by assumption
  rw [hX1]
  clear hX1
  obtain ⟨gx, hgx⟩ : ∃ g, v1.heap.size = g := ⟨_, rfl⟩
  rw [hgx] at H2 z2 zg ⊢
  clear hgx
  have HK : Hid (∀ W, Below X1.heap.size X1 W → W.cell? ⟨w.heap.size, 0, none⟩ = some (.slice (some ad) ns.length c) ∧ W.cell? ⟨w.heap.size, 1, none⟩ = some (.slice (some bd) ss.length d) ∧ W.cell? ⟨w.heap.size + 1, 0, none⟩ = some (.int .i64 0) ∧ W.cell? ⟨w.heap.size + 1, 1, none⟩ = some (.int .i64 0) ∧ W.cell? ⟨gx, 0, none⟩ = some (.slice (some ad) ns.length c) ∧ W.cell? ⟨gx, 1, none⟩ = some (.slice (some bd) ss.length d) ∧ W.cell? ⟨gx, 2, none⟩ = some (.int .i64 ns.sum) ∧ W.cell? ⟨gx, 3, none⟩ = some (.int .i64 ss.sum) ∧ W.frozen? ⟨w.heap.size + 1, 0, none⟩ = false ∧ W.frozen? ⟨w.heap.size + 1, 1, none⟩ = false) := Lib.hid fun W hW =>
    have q0 := (hW.block _ z0).trans H0.out
    have q1 := (hW.block _ z1).trans H1.out
    have q2 := (hW.block _ z2).trans H2.out
    ⟨blk_cell q0 0 rfl, blk_cell q0 1 rfl, blk_cell q1 0 rfl, blk_cell q1 1 rfl, blk_cell q2 0 rfl, blk_cell q2 1 rfl, blk_cell q2 2 rfl, blk_cell q2 3 rfl, blk_frozen q1 0, blk_frozen q1 1⟩
  obtain ⟨b0, b1, c0, c1, s0, s1, s2, s3, cf0, cf1⟩ := HK.out X1 (Below.refl _ _)
  have hV : Below X1.heap.size X1 X1 := Below.refl _ _
  have zv := hV.size
  go_upto_region 7 with (first
    | (go_at_call 77; with_reducible refine (count_any ns ss _ _ _ _ _ _ _).mono ?_; rintro e v2 ⟨rfl, hB2⟩; have hV2 : Below X1.heap.size X1 v2 := below_step (by first | with_reducible exact hV | exact (by repeat (first | with_reducible exact Below.refl _ _ | with_reducible assumption | refine below_drewN ?_ _ | with_reducible refine Below.drew ?_ | (refine Below.alloc ?_ (by first | (simp; done) | (simp; omega) | omega) _)))) hB2;  clear hV; clear b0 b1 c0 c1 s0 s1 s2 s3 cf0 cf1; have hV := hV2; clear hV2; obtain ⟨b0, b1, c0, c1, s0, s1, s2, s3, cf0, cf1⟩ := HK.out v2 hV; have zv := hV.size; clear hB2)
    | (go_at_call 73; with_reducible refine (row_own ns ss (some ad) (some bd) c d HO.out _ (HA.out.below (below_step HW.out (by first | with_reducible exact hV | exact (by repeat (first | with_reducible exact Below.refl _ _ | with_reducible assumption | refine below_drewN ?_ _ | with_reducible refine Below.drew ?_ | (refine Below.alloc ?_ (by first | (simp; done) | (simp; omega) | omega) _)))))) (HB.out.below (below_step HW.out (by first | with_reducible exact hV | exact (by repeat (first | with_reducible exact Below.refl _ _ | with_reducible assumption | refine below_drewN ?_ _ | with_reducible refine Below.drew ?_ | (refine Below.alloc ?_ (by first | (simp; done) | (simp; omega) | omega) _))))))).mono ?_; rintro e v3 ⟨gb, rfl, hO, hB3⟩; have hV2 : Below X1.heap.size X1 v3 := below_step (by first | with_reducible exact hV | exact (by repeat (first | with_reducible exact Below.refl _ _ | with_reducible assumption | refine below_drewN ?_ _ | with_reducible refine Below.drew ?_ | (refine Below.alloc ?_ (by first | (simp; done) | (simp; omega) | omega) _)))) hB3; have HR := Lib.hid hO; have r0 := (hO.cellAt (k - 1) (by omega)).trans LA2.out; clear hO; clear hV; clear b0 b1 c0 c1 s0 s1 s2 s3 cf0 cf1; have hV := hV2; clear hV2; obtain ⟨b0, b1, c0, c1, s0, s1, s2, s3, cf0, cf1⟩ := HK.out v3 hV; have zv := hV.size; clear hB3)
    | fail)
  have k0 := HCA.out _ (below_step HW.out hV)
  have k1 := HCB.out _ (below_step HW.out hV)
  have nX : gx ≠ w.heap.size + 1 := by omega
  have nA : (ad.add la).block ≠ w.heap.size + 1 := by rw [block_of_add]; omega
  have nB : (bd.add la).block ≠ w.heap.size + 1 := by rw [block_of_add]; omega
  go_upto_region 9 with (fail)
  go_region_held3 (fun W => W.cell? ⟨gx, 0, none⟩ = some (.slice (some ad) ns.length c) ∧ W.cell? ⟨gx, 1, none⟩ = some (.slice (some bd) ss.length d) ∧ W.cell? ⟨gx, 2, none⟩ = some (.int .i64 ns.sum) ∧ W.cell? ⟨gx, 3, none⟩ = some (.int .i64 ss.sum) ∧ W.cell? (ad.add la) = some (.int .i64 x) ∧ W.cell? (bd.add la) = some (.int .i64 y))
    ((first | with_reducible exact ⟨s0, s1, s2, s3, k0, k1⟩ | (refine ⟨?_, ?_, ?_, ?_, ?_, ?_⟩ <;> (repeat (first | with_reducible refine (cell_set1 _ nX).trans ?_ | with_reducible refine (cell_set1 _ nA).trans ?_ | with_reducible refine (cell_set1 _ nB).trans ?_ | with_reducible refine (cell_drew1 _ _).trans ?_)) <;> first | with_reducible exact s0 | with_reducible exact s1 | with_reducible exact s2 | with_reducible exact s3 | with_reducible exact k0 | with_reducible exact k1)))
    ((go_at_call 66; with_reducible refine (ratio_any (y * ns.sum) (ss.sum * x) _ (by omega) (by omega) m20 (by omega)).mono ?_; rintro e v4 ⟨rfl, hB4⟩; have hV2 : Below X1.heap.size X1 v4 := below_step (by first | with_reducible exact hV | exact (by repeat (first | with_reducible exact Below.refl _ _ | with_reducible assumption | refine below_drewN ?_ _ | with_reducible refine Below.drew ?_ | (refine Below.alloc ?_ (by first | (simp; done) | (simp; omega) | omega) _)))) hB4; clear k0 k1; clear hV; clear b0 b1 c0 c1 s0 s1 s2 s3 cf0 cf1; have hV := hV2; clear hV2; obtain ⟨b0, b1, c0, c1, s0, s1, s2, s3, cf0, cf1⟩ := HK.out v4 hV; have zv := hV.size; clear hB4; have k0 := HCA.out _ (below_step HW.out hV); have k1 := HCB.out _ (below_step HW.out hV)))
  go_wp2
  exact bodyPost_ret (v := .tuple #[.agg #[.int .i64 (lowN (y * ns.sum) (ss.sum * x)), .int .i64 (lowD (y * ns.sum) (ss.sum * x))], .int .i64 0]) (by simp [results, Try.results28, go_sem, c0, c1]) rfl ⟨rfl, set6_belI (below_step HW.out hV)⟩
end Go.Proofs.Ytolpbbabmcpdkaa
