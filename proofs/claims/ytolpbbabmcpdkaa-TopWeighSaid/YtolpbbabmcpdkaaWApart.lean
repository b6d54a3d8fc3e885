/-
  Contract: Apart (weigh).
-/
import Derived.Test.YtolpbbabmcpdkaaAt
import Derived.Test.YtolpbbabmcpdkaaJoined
set_option linter.unusedVariables false
set_option linter.unusedSimpArgs false
namespace Go.Proofs.Ytolpbbabmcpdkaa
open Go.RowKit Go.Shelf

theorem one_ok : okP 1 1 = true := by decide
def apV (ns ss : List Int) : Int := tgV ns ss 1 1 (deL ns ss 1 1)
theorem tg_mS (ns ss : List Int) (p q : Int) (n : Nat) (f : Nat → Bool) : tgV ns ss p q (ofM n f) = ((List.range n).map fun i => if f i then gnV ns ss p q i else 0).sum := by
  unfold tgV ofM
  generalize List.range n = l
  induction l with
  | nil => rfl
  | cons i t ih =>
    rw [List.filter_cons]
    cases h : f i <;> simp [h] <;> simpa using ih
/-- The gains above 0, added up. -/
theorem ap_sum {ns ss : List Int} (h : ns.length = ss.length) : apV ns ss = apSum (prL ns ss) := by
  unfold apV deL
  rw [tg_mS]
  unfold apSum
  rw [prL_s1, prL_s2 h]
  unfold prL
  rw [List.map_map]
  refine sum_congr _ _ _ (fun a _ => ?_)
  show (if decide (0 < gnV ns ss 1 1 a) then gnV ns ss 1 1 a else 0) = max 0 (ss.getD a 0 * ns.sum - ns.getD a 0 * ss.sum)
  have e : gnV ns ss 1 1 a = ss.getD a 0 * ns.sum - ns.getD a 0 * ss.sum := by unfold gnV; rw [Int.mul_one, Int.mul_one]
  rw [e]
  by_cases h1 : 0 < ss.getD a 0 * ns.sum - ns.getD a 0 * ss.sum
  · rw [decide_eq_true h1, if_pos rfl]; omega
  · rw [decide_eq_false h1]; simp only [Bool.false_eq_true, if_false]; omega
theorem un_one (ns ss : List Int) : unV ns ss 1 = ss.sum * ns.sum := by unfold unV; rw [Int.mul_one]
theorem ap_swap' {ns ss : List Int} (h : ns.length = ss.length) : apV ss ns = apV ns ss ∧ unV ss ns 1 = unV ns ss 1 := by
  constructor
  · rw [ap_sum h, ap_sum h.symm, ← prL_sw h, ap_swap]
  · rw [un_one, un_one, Int.mul_comm]
theorem ap_bds {ns ss : List Int} (ho : Od ns ss) : 0 ≤ apV ns ss ∧ apV ns ss ≤ unV ns ss 1 ∧ 0 < unV ns ss 1 ∧ unV ns ss 1 ≤ 100000000 := by
  have h := ap_bd (prL ns ss) (prL_nn (fun a => (getD_bd (by omega) ho.nb a).1) (fun a => (getD_bd (by omega) ho.sb a).1))
  rw [ap_sum ho.len, un_one]
  rw [prL_s1, prL_s2 ho.len, Int.mul_comm] at h
  have h0 := ho.np; have h1 := ho.nm; have h2 := ho.sp; have h3 := ho.sm
  obtain ⟨m0, m1⟩ := mul_bd (a := ss.sum) (b := ns.sum) (A := 10000) (B := 10000) (by omega) h3 (by omega) h1
  exact ⟨h.1, h.2, Int.mul_pos h2 h0, by omega⟩

set_option maxRecDepth 100000 in
set_option maxHeartbeats 1000000 in
theorem wApart_no (ns ss : List Int) (A B : Option Addr) (c d : Nat) (w : World) (hA : Ints w A ns) (hB : Ints w B ss) (hl : ns.length ≤ 1000) (hl2 : ss.length ≤ 1000) (hv : odB ns ss = false) :
    Calls Try.prog 44 #[.agg #[.slice A ns.length c, .slice B ss.length d]] w fun e w' => e = .returned (.tuple #[.agg #[.int .i64 0, .int .i64 0], .int .i64 70]) ∧ Below w.heap.size w w' := by
  have HA := Lib.hid hA
  have HB := Lib.hid hB
  have HV := Lib.hid hv
  clear hA hB hv
  obtain ⟨W0, hW0, HW, H0, H1, z0, z1⟩ := two_new w #[.slice A ns.length c, .slice B ss.length d] #[.int .i64 0, .int .i64 0] 24 28
  go_enter Try.func44, Try.ntmps44
  go_wp2_with (first
    | (go_at_call 82; with_reducible refine (at_no ns ss A B c d 1 1 _ (HA.out.below (by repeat (first | with_reducible exact Below.refl _ _ | with_reducible assumption | refine below_drewN ?_ _ | with_reducible refine Below.drew ?_ | (refine Below.setCell ?_ (by first | (simp; done) | (simp; omega) | omega) _) | (refine Below.alloc ?_ (by first | (simp; done) | (simp; omega) | omega) _)))) (HB.out.below (by repeat (first | with_reducible exact Below.refl _ _ | with_reducible assumption | refine below_drewN ?_ _ | with_reducible refine Below.drew ?_ | (refine Below.setCell ?_ (by first | (simp; done) | (simp; omega) | omega) _) | (refine Below.alloc ?_ (by first | (simp; done) | (simp; omega) | omega) _)))) hl hl2 HV.out).mono ?_; rintro e w1 ⟨rfl, hB1⟩; rw [← hW0] at hB1; have H0 := Lib.hid ((hB1.block _ z0).trans H0.out); have z0 := Nat.lt_of_lt_of_le z0 hB1.size; have b0 : World.cell? _ ⟨_, 0, none⟩ = some (.slice A ns.length c) := blk_cell H0.out 0 rfl; have b1 : World.cell? _ ⟨_, 1, none⟩ = some (.slice B ss.length d) := blk_cell H0.out 1 rfl; have H1 := Lib.hid ((hB1.block _ z1).trans H1.out); have z1 := Nat.lt_of_lt_of_le z1 hB1.size; have c0 : World.cell? _ ⟨_, 0, none⟩ = some (.int .i64 0) := blk_cell H1.out 0 rfl; have c1 : World.cell? _ ⟨_, 1, none⟩ = some (.int .i64 0) := blk_cell H1.out 1 rfl; have cf0 := blk_frozen H1.out 0; have cf1 := blk_frozen H1.out 1; have HW : Hid (Below w.heap.size w _) := Lib.hid (below_step (by first | exact HW.out | exact Below.drew HW.out | exact below_drewN HW.out _) hB1); clear hB1)
    | (refine wpList_store_row rfl 81 (.tmp 4) (.tmp 10) rfl w1.heap.size #[.slice none 0 0, .slice none 0 0, .int .i64 0, .int .i64 0, .int .i64 0, .int .i64 0] rfl rfl 81 _ (heap_alloc_new w1 _) (by kernel_rfl) (by kernel_rfl) (by kernel_rfl) ?_; refine box_world w1 _ _ _ (fun X hX1 hX2 hX3 => ?_); have H6 := Lib.hid hX1; have z6 := hX3; have g0 : World.cell? _ ⟨_, 0, none⟩ = some (.slice none 0 0) := blk_cell H6.out 0 rfl; have g1 : World.cell? _ ⟨_, 1, none⟩ = some (.slice none 0 0) := blk_cell H6.out 1 rfl; have g2 : World.cell? _ ⟨_, 2, none⟩ = some (.int .i64 0) := blk_cell H6.out 2 rfl; have g3 : World.cell? _ ⟨_, 3, none⟩ = some (.int .i64 0) := blk_cell H6.out 3 rfl; have g4 : World.cell? _ ⟨_, 4, none⟩ = some (.int .i64 0) := blk_cell H6.out 4 rfl; have g5 : World.cell? _ ⟨_, 5, none⟩ = some (.int .i64 0) := blk_cell H6.out 5 rfl; have H0 := Lib.hid ((hX2.block _ z0).trans H0.out); have z0 := Nat.lt_of_lt_of_le z0 hX2.size; have b0 : World.cell? _ ⟨_, 0, none⟩ = some (.slice A ns.length c) := blk_cell H0.out 0 rfl; have b1 : World.cell? _ ⟨_, 1, none⟩ = some (.slice B ss.length d) := blk_cell H0.out 1 rfl; have H1 := Lib.hid ((hX2.block _ z1).trans H1.out); have z1 := Nat.lt_of_lt_of_le z1 hX2.size; have c0 : World.cell? _ ⟨_, 0, none⟩ = some (.int .i64 0) := blk_cell H1.out 0 rfl; have c1 : World.cell? _ ⟨_, 1, none⟩ = some (.int .i64 0) := blk_cell H1.out 1 rfl; have cf0 := blk_frozen H1.out 0; have cf1 := blk_frozen H1.out 1; have HW : Hid (Below w.heap.size w _) := Lib.hid (below_step HW.out hX2); clear hX1 hX2 hX3)
    | fail)
  exact bodyPost_ret (v := .tuple #[.agg #[.int .i64 0, .int .i64 0], .int .i64 70]) (by simp [results, Try.results44, go_sem, cell_ao, c0, c1]) rfl ⟨rfl, (by repeat (first | with_reducible exact HW.out | with_reducible exact Below.refl _ _ | with_reducible refine below_drewN ?_ _ | with_reducible refine Below.drew ?_ | (with_reducible refine Below.setCell ?_ (by first | exact Nat.le_refl _ | exact Nat.le_succ _ | (simp; done) | (simp; omega) | omega) _) | (with_reducible refine Below.alloc ?_ (by first | exact HW.out.size | (simp; done) | (simp; omega) | omega) _)))⟩

set_option maxRecDepth 100000 in
set_option maxHeartbeats 1000000 in
theorem wApart_yes (ns ss : List Int) (A B : Option Addr) (c d : Nat) (w : World) (hA : Ints w A ns) (hB : Ints w B ss) (hv : odB ns ss = true) :
    Calls Try.prog 44 #[.agg #[.slice A ns.length c, .slice B ss.length d]] w fun e w' => e = .returned (.tuple #[.agg #[.int .i64 (lowN (apV ns ss) (unV ns ss 1)), .int .i64 (lowD (apV ns ss) (unV ns ss 1))], .int .i64 0]) ∧ Below w.heap.size w w' := by
  have ho := od_of hv
  have hpp := okP_of one_ok
  have hn2 := ho.le
  obtain ⟨u0, u1, u2, u3⟩ := un_bd ho hpp
  have HTB2 := Lib.hid (tg_bd ho hpp (deL ns ss 1 1))
  have hdl : (deL ns ss 1 1).length ≤ 10 := Nat.le_trans (ofM_len _ _) hn2
  have hd9 : (deL ns ss 1 1).length ≤ 100 := by omega
  have HDM : Hid (∀ a ∈ deL ns ss 1 1, 0 ≤ a ∧ a < ns.length) := Lib.hid (cutB_mem (ofM_cut _ _))
  have t0 : -1000000000000000000 ≤ tgV ns ss 1 1 (deL ns ss 1 1) := by have := HTB2.out.1; omega
  have t1 : tgV ns ss 1 1 (deL ns ss 1 1) ≤ 1000000000000000000 := by have := HTB2.out.2; omega
  unfold apV
  have HA := Lib.hid hA
  have HB := Lib.hid hB
  have HV := Lib.hid hv
  clear hA hB hv
  obtain ⟨W0, hW0, HW, H0, H1, z0, z1⟩ := two_new w #[.slice A ns.length c, .slice B ss.length d] #[.int .i64 0, .int .i64 0] 24 28
  go_enter Try.func44, Try.ntmps44
  go_wp2_with (first
    | (go_at_call 82; with_reducible refine (at_yes ns ss A B c d 1 1 _ (HA.out.below (by repeat (first | with_reducible exact Below.refl _ _ | with_reducible assumption | refine below_drewN ?_ _ | with_reducible refine Below.drew ?_ | (refine Below.setCell ?_ (by first | (simp; done) | (simp; omega) | omega) _) | (refine Below.alloc ?_ (by first | (simp; done) | (simp; omega) | omega) _)))) (HB.out.below (by repeat (first | with_reducible exact Below.refl _ _ | with_reducible assumption | refine below_drewN ?_ _ | with_reducible refine Below.drew ?_ | (refine Below.setCell ?_ (by first | (simp; done) | (simp; omega) | omega) _) | (refine Below.alloc ?_ (by first | (simp; done) | (simp; omega) | omega) _)))) HV.out one_ok).mono ?_; rintro e w1 ⟨rfl, hB1⟩; rw [← hW0] at hB1; have H0 := Lib.hid ((hB1.block _ z0).trans H0.out); have z0 := Nat.lt_of_lt_of_le z0 hB1.size; have b0 : World.cell? _ ⟨_, 0, none⟩ = some (.slice A ns.length c) := blk_cell H0.out 0 rfl; have b1 : World.cell? _ ⟨_, 1, none⟩ = some (.slice B ss.length d) := blk_cell H0.out 1 rfl; have H1 := Lib.hid ((hB1.block _ z1).trans H1.out); have z1 := Nat.lt_of_lt_of_le z1 hB1.size; have c0 : World.cell? _ ⟨_, 0, none⟩ = some (.int .i64 0) := blk_cell H1.out 0 rfl; have c1 : World.cell? _ ⟨_, 1, none⟩ = some (.int .i64 0) := blk_cell H1.out 1 rfl; have cf0 := blk_frozen H1.out 0; have cf1 := blk_frozen H1.out 1; have HW : Hid (Below w.heap.size w _) := Lib.hid (below_step (by first | exact HW.out | exact Below.drew HW.out | exact below_drewN HW.out _) hB1); clear hB1)
    | (refine wpList_store_row rfl 81 (.tmp 4) (.tmp 10) rfl w1.heap.size #[.slice A ns.length c, .slice B ss.length d, .int .i64 ns.sum, .int .i64 ss.sum, .int .i64 1, .int .i64 1] rfl rfl 81 _ (heap_alloc_new w1 _) (by kernel_rfl) (by kernel_rfl) (by kernel_rfl) ?_; refine box_world w1 _ _ _ (fun X hX1 hX2 hX3 => ?_); have H6 := Lib.hid hX1; have z6 := hX3; have g0 : World.cell? _ ⟨_, 0, none⟩ = some (.slice A ns.length c) := blk_cell H6.out 0 rfl; have g1 : World.cell? _ ⟨_, 1, none⟩ = some (.slice B ss.length d) := blk_cell H6.out 1 rfl; have g2 : World.cell? _ ⟨_, 2, none⟩ = some (.int .i64 ns.sum) := blk_cell H6.out 2 rfl; have g3 : World.cell? _ ⟨_, 3, none⟩ = some (.int .i64 ss.sum) := blk_cell H6.out 3 rfl; have g4 : World.cell? _ ⟨_, 4, none⟩ = some (.int .i64 1) := blk_cell H6.out 4 rfl; have g5 : World.cell? _ ⟨_, 5, none⟩ = some (.int .i64 1) := blk_cell H6.out 5 rfl; have H0 := Lib.hid ((hX2.block _ z0).trans H0.out); have z0 := Nat.lt_of_lt_of_le z0 hX2.size; have b0 : World.cell? _ ⟨_, 0, none⟩ = some (.slice A ns.length c) := blk_cell H0.out 0 rfl; have b1 : World.cell? _ ⟨_, 1, none⟩ = some (.slice B ss.length d) := blk_cell H0.out 1 rfl; have H1 := Lib.hid ((hX2.block _ z1).trans H1.out); have z1 := Nat.lt_of_lt_of_le z1 hX2.size; have c0 : World.cell? _ ⟨_, 0, none⟩ = some (.int .i64 0) := blk_cell H1.out 0 rfl; have c1 : World.cell? _ ⟨_, 1, none⟩ = some (.int .i64 0) := blk_cell H1.out 1 rfl; have cf0 := blk_frozen H1.out 0; have cf1 := blk_frozen H1.out 1; have HW : Hid (Below w.heap.size w _) := Lib.hid (below_step HW.out hX2); clear hX1 hX2 hX3)
    | fail)
  have n1 : w1.heap.size ≠ w.heap.size + 1 := by omega
  go_region_held3 (fun W => W.cell? ⟨w1.heap.size, 0, none⟩ = some (.slice A ns.length c) ∧ W.cell? ⟨w1.heap.size, 1, none⟩ = some (.slice B ss.length d) ∧ W.cell? ⟨w1.heap.size, 2, none⟩ = some (.int .i64 ns.sum) ∧ W.cell? ⟨w1.heap.size, 3, none⟩ = some (.int .i64 ss.sum) ∧ W.cell? ⟨w1.heap.size, 4, none⟩ = some (.int .i64 1) ∧ W.cell? ⟨w1.heap.size, 5, none⟩ = some (.int .i64 1))
    ((first | with_reducible exact ⟨g0, g1, g2, g3, g4, g5⟩ | (refine ⟨?_, ?_, ?_, ?_, ?_, ?_⟩ <;> (repeat (first | with_reducible refine (cell_set1 _ n1).trans ?_ | with_reducible refine (cell_drew1 _ _).trans ?_)) <;> first | with_reducible exact g0 | with_reducible exact g1 | with_reducible exact g2 | with_reducible exact g3 | with_reducible exact g4 | with_reducible exact g5)))
    ((first
    | (go_at_call 87; with_reducible refine (dearest_own ns ss A B c d 1 1 ho hpp _ (HA.out.below (by first | exact HW.out | exact Below.drew HW.out | exact below_drewN HW.out _)) (HB.out.below (by first | exact HW.out | exact Below.drew HW.out | exact below_drewN HW.out _))).mono ?_; rintro e w4 ⟨D', e', rfl, hO4, hB4⟩; have HO4 := Lib.hid hO4.ints; have HDW := Lib.hid (Below.refl w4.heap.size w4); have H0 := Lib.hid ((hB4.block _ z0).trans H0.out); have z0 := Nat.lt_of_lt_of_le z0 hB4.size; have b0 : World.cell? _ ⟨_, 0, none⟩ = some (.slice A ns.length c) := blk_cell H0.out 0 rfl; have b1 : World.cell? _ ⟨_, 1, none⟩ = some (.slice B ss.length d) := blk_cell H0.out 1 rfl; have H1 := Lib.hid ((hB4.block _ z1).trans H1.out); have z1 := Nat.lt_of_lt_of_le z1 hB4.size; have c0 : World.cell? _ ⟨_, 0, none⟩ = some (.int .i64 0) := blk_cell H1.out 0 rfl; have c1 : World.cell? _ ⟨_, 1, none⟩ = some (.int .i64 0) := blk_cell H1.out 1 rfl; have cf0 := blk_frozen H1.out 0; have cf1 := blk_frozen H1.out 1; have H6 := Lib.hid ((hB4.block _ z6).trans H6.out); have z6 := Nat.lt_of_lt_of_le z6 hB4.size; have g0 : World.cell? _ ⟨_, 0, none⟩ = some (.slice A ns.length c) := blk_cell H6.out 0 rfl; have g1 : World.cell? _ ⟨_, 1, none⟩ = some (.slice B ss.length d) := blk_cell H6.out 1 rfl; have g2 : World.cell? _ ⟨_, 2, none⟩ = some (.int .i64 ns.sum) := blk_cell H6.out 2 rfl; have g3 : World.cell? _ ⟨_, 3, none⟩ = some (.int .i64 ss.sum) := blk_cell H6.out 3 rfl; have g4 : World.cell? _ ⟨_, 4, none⟩ = some (.int .i64 1) := blk_cell H6.out 4 rfl; have g5 : World.cell? _ ⟨_, 5, none⟩ = some (.int .i64 1) := blk_cell H6.out 5 rfl; have HW : Hid (Below w.heap.size w _) := Lib.hid (below_step (by first | exact HW.out | exact Below.drew HW.out | exact below_drewN HW.out _) hB4); clear hB4 hO4)
    | (go_at_call 84; with_reducible refine (total_price ns ss A B c d 1 1 ho hpp _ (deL ns ss 1 1) D' e' (HA.out.below (by first | exact HW.out | exact Below.drew HW.out | exact below_drewN HW.out _)) (HB.out.below (by first | exact HW.out | exact Below.drew HW.out | exact below_drewN HW.out _)) (by first | exact HO4.out | exact HO4.out.below (by first | exact HDW.out | exact Below.drew HDW.out | exact below_drewN HDW.out _)) hd9 HDM.out).mono ?_; rintro e w5 ⟨rfl, hB5⟩; have HDW := Lib.hid (below_step (by first | exact HDW.out | exact Below.drew HDW.out | exact below_drewN HDW.out _) hB5); have H0 := Lib.hid ((hB5.block _ z0).trans H0.out); have z0 := Nat.lt_of_lt_of_le z0 hB5.size; have b0 : World.cell? _ ⟨_, 0, none⟩ = some (.slice A ns.length c) := blk_cell H0.out 0 rfl; have b1 : World.cell? _ ⟨_, 1, none⟩ = some (.slice B ss.length d) := blk_cell H0.out 1 rfl; have H1 := Lib.hid ((hB5.block _ z1).trans H1.out); have z1 := Nat.lt_of_lt_of_le z1 hB5.size; have c0 : World.cell? _ ⟨_, 0, none⟩ = some (.int .i64 0) := blk_cell H1.out 0 rfl; have c1 : World.cell? _ ⟨_, 1, none⟩ = some (.int .i64 0) := blk_cell H1.out 1 rfl; have cf0 := blk_frozen H1.out 0; have cf1 := blk_frozen H1.out 1; have H6 := Lib.hid ((hB5.block _ z6).trans H6.out); have z6 := Nat.lt_of_lt_of_le z6 hB5.size; have g0 : World.cell? _ ⟨_, 0, none⟩ = some (.slice A ns.length c) := blk_cell H6.out 0 rfl; have g1 : World.cell? _ ⟨_, 1, none⟩ = some (.slice B ss.length d) := blk_cell H6.out 1 rfl; have g2 : World.cell? _ ⟨_, 2, none⟩ = some (.int .i64 ns.sum) := blk_cell H6.out 2 rfl; have g3 : World.cell? _ ⟨_, 3, none⟩ = some (.int .i64 ss.sum) := blk_cell H6.out 3 rfl; have g4 : World.cell? _ ⟨_, 4, none⟩ = some (.int .i64 1) := blk_cell H6.out 4 rfl; have g5 : World.cell? _ ⟨_, 5, none⟩ = some (.int .i64 1) := blk_cell H6.out 5 rfl; have HW : Hid (Below w.heap.size w _) := Lib.hid (below_step (by first | exact HW.out | exact Below.drew HW.out | exact below_drewN HW.out _) hB5); clear hB5)
    | (go_at_call 85; with_reducible refine (unit_any ns ss A B c d 1 1 ho hpp _).mono ?_; rintro e w6 ⟨rfl, hB6⟩; (try have HDW := Lib.hid (below_step (by first | exact HDW.out | exact Below.drew HDW.out | exact below_drewN HDW.out _) hB6)); have H0 := Lib.hid ((hB6.block _ z0).trans H0.out); have z0 := Nat.lt_of_lt_of_le z0 hB6.size; have b0 : World.cell? _ ⟨_, 0, none⟩ = some (.slice A ns.length c) := blk_cell H0.out 0 rfl; have b1 : World.cell? _ ⟨_, 1, none⟩ = some (.slice B ss.length d) := blk_cell H0.out 1 rfl; have H1 := Lib.hid ((hB6.block _ z1).trans H1.out); have z1 := Nat.lt_of_lt_of_le z1 hB6.size; have c0 : World.cell? _ ⟨_, 0, none⟩ = some (.int .i64 0) := blk_cell H1.out 0 rfl; have c1 : World.cell? _ ⟨_, 1, none⟩ = some (.int .i64 0) := blk_cell H1.out 1 rfl; have cf0 := blk_frozen H1.out 0; have cf1 := blk_frozen H1.out 1; have H6 := Lib.hid ((hB6.block _ z6).trans H6.out); have z6 := Nat.lt_of_lt_of_le z6 hB6.size; have g0 : World.cell? _ ⟨_, 0, none⟩ = some (.slice A ns.length c) := blk_cell H6.out 0 rfl; have g1 : World.cell? _ ⟨_, 1, none⟩ = some (.slice B ss.length d) := blk_cell H6.out 1 rfl; have g2 : World.cell? _ ⟨_, 2, none⟩ = some (.int .i64 ns.sum) := blk_cell H6.out 2 rfl; have g3 : World.cell? _ ⟨_, 3, none⟩ = some (.int .i64 ss.sum) := blk_cell H6.out 3 rfl; have g4 : World.cell? _ ⟨_, 4, none⟩ = some (.int .i64 1) := blk_cell H6.out 4 rfl; have g5 : World.cell? _ ⟨_, 5, none⟩ = some (.int .i64 1) := blk_cell H6.out 5 rfl; have HW : Hid (Below w.heap.size w _) := Lib.hid (below_step (by first | exact HW.out | exact Below.drew HW.out | exact below_drewN HW.out _) hB6); clear hB6)
    | (go_at_call 66; with_reducible refine (ratio_any (tgV ns ss 1 1 (deL ns ss 1 1)) (unV ns ss 1) _ (by omega) (by omega) u0 (by omega)).mono ?_; rintro e w7 ⟨rfl, hB7⟩; have H0 := Lib.hid ((hB7.block _ z0).trans H0.out); have z0 := Nat.lt_of_lt_of_le z0 hB7.size; have b0 : World.cell? _ ⟨_, 0, none⟩ = some (.slice A ns.length c) := blk_cell H0.out 0 rfl; have b1 : World.cell? _ ⟨_, 1, none⟩ = some (.slice B ss.length d) := blk_cell H0.out 1 rfl; have H1 := Lib.hid ((hB7.block _ z1).trans H1.out); have z1 := Nat.lt_of_lt_of_le z1 hB7.size; have c0 : World.cell? _ ⟨_, 0, none⟩ = some (.int .i64 0) := blk_cell H1.out 0 rfl; have c1 : World.cell? _ ⟨_, 1, none⟩ = some (.int .i64 0) := blk_cell H1.out 1 rfl; have cf0 := blk_frozen H1.out 0; have cf1 := blk_frozen H1.out 1; have H6 := Lib.hid ((hB7.block _ z6).trans H6.out); have z6 := Nat.lt_of_lt_of_le z6 hB7.size; have g0 : World.cell? _ ⟨_, 0, none⟩ = some (.slice A ns.length c) := blk_cell H6.out 0 rfl; have g1 : World.cell? _ ⟨_, 1, none⟩ = some (.slice B ss.length d) := blk_cell H6.out 1 rfl; have g2 : World.cell? _ ⟨_, 2, none⟩ = some (.int .i64 ns.sum) := blk_cell H6.out 2 rfl; have g3 : World.cell? _ ⟨_, 3, none⟩ = some (.int .i64 ss.sum) := blk_cell H6.out 3 rfl; have g4 : World.cell? _ ⟨_, 4, none⟩ = some (.int .i64 1) := blk_cell H6.out 4 rfl; have g5 : World.cell? _ ⟨_, 5, none⟩ = some (.int .i64 1) := blk_cell H6.out 5 rfl; have HW : Hid (Below w.heap.size w _) := Lib.hid (below_step (by first | exact HW.out | exact Below.drew HW.out | exact below_drewN HW.out _) hB7); clear hB7)))
  all_goals
    go_wp2
    exact bodyPost_ret (v := .tuple #[.agg #[.int .i64 (lowN (tgV ns ss 1 1 (deL ns ss 1 1)) (unV ns ss 1)), .int .i64 (lowD (tgV ns ss 1 1 (deL ns ss 1 1)) (unV ns ss 1))], .int .i64 0]) (by simp [results, Try.results44, go_sem, cell_ao, c0, c1]) rfl ⟨rfl, (by repeat (first | with_reducible exact HW.out | with_reducible exact Below.refl _ _ | with_reducible refine below_drewN ?_ _ | with_reducible refine Below.drew ?_ | (with_reducible refine Below.setCell ?_ (by first | exact Nat.le_refl _ | exact Nat.le_succ _ | (simp; done) | (simp; omega) | omega) _) | (with_reducible refine Below.alloc ?_ (by first | exact HW.out.size | (simp; done) | (simp; omega) | omega) _)))⟩
end Go.Proofs.Ytolpbbabmcpdkaa
