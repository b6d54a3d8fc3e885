/-
  Contracts: Gain, Dearest, Proves (firnref07).
-/
import Derived.Test.YtolpbbabmcpdkaaRefDear
import Derived.Test.YtolpbbabmcpdkaaKeptLaw
set_option linter.unusedVariables false
set_option linter.unusedSimpArgs false
namespace Go.Proofs.Ytolpbbabmcpdkaa
open Go.RowKit Go.Shelf

theorem prod_bd {ns ss : List Int} (ho : Od ns ss) : 0 < ns.sum * ss.sum ∧ ns.sum * ss.sum ≤ 100000000 := by
  have h0 := ho.np; have h1 := ho.nm; have h2 := ho.sp; have h3 := ho.sm
  obtain ⟨m0, m1⟩ := mul_bd (a := ns.sum) (b := ss.sum) (A := 10000) (B := 10000) (by omega) h1 (by omega) h3
  exact ⟨Int.mul_pos h0 h2, by omega⟩
theorem un_prod (ns ss : List Int) (q : Int) : ns.sum * ss.sum * q = unV ns ss q := by unfold unV; grind
theorem tg_max' {ns ss : List Int} {p q : Int} {cs : List Int} (h : cutB ns.length cs = true) : tgV ns ss p q cs ≤ tgV ns ss p q (deL ns ss p q) := by
  rw [cut_of h, deL, tg_mS', tg_mS']
  exact sum_mono _ _ _ (fun i _ => de_le ns ss p q (fun i => cs.contains (i : Int)) i)
/-- As great a gain as the dearest one has. -/
theorem ge_eq {ns ss : List Int} {p q : Int} {cs : List Int} (h : cutB ns.length cs = true) : decide (tgV ns ss p q (deL ns ss p q) ≤ tgV ns ss p q cs) = (tgV ns ss p q cs == tgV ns ss p q (deL ns ss p q)) := by
  have := tg_max' (ns := ns) (ss := ss) (p := p) (q := q) h
  by_cases he : tgV ns ss p q cs = tgV ns ss p q (deL ns ss p q)
  · rw [he]; simp
  · have h2 : ¬ tgV ns ss p q (deL ns ss p q) ≤ tgV ns ss p q cs := by omega
    rw [decide_eq_false h2]; symm; simpa using he

set_option maxRecDepth 100000 in
set_option maxHeartbeats 1000000 in
theorem rGain_no (ns ss cs : List Int) (A B C : Option Addr) (c d e1 : Nat) (p q : Int) (w : World) (hA : Ints w A ns) (hB : Ints w B ss) (hl : ns.length ≤ 1000) (hl2 : ss.length ≤ 1000) (hv : odB ns ss = false) :
    Calls Try.prog 33 #[.agg #[.slice A ns.length c, .slice B ss.length d], .slice C cs.length e1, .agg #[.int .i64 p, .int .i64 q]] w fun e w' => e = .returned (.tuple #[.agg #[.int .i64 0, .int .i64 0], .int .i64 70]) ∧ Below w.heap.size w w' := by
  have HA := Lib.hid hA
  have HB := Lib.hid hB
  have HV := Lib.hid hv
  clear hA hB hv
  obtain ⟨W0, hW0, HW, H0, H1, H2, z0, z1, z2⟩ := three_new1 w #[.slice A ns.length c, .slice B ss.length d] #[.int .i64 p, .int .i64 q] #[.int .i64 0, .int .i64 0] 24 28 28
  go_enter Try.func33, Try.ntmps33
  go_wp2_with (go_at_call 68; with_reducible refine (asked_no ns ss cs _ _ _ _ _ _ _ (HA.out.below (by repeat (first | with_reducible exact Below.refl _ _ | with_reducible assumption | refine below_drewN ?_ _ | with_reducible refine Below.drew ?_ | (refine Below.setCell ?_ (by first | (simp; done) | (simp; omega) | omega) _) | (refine Below.alloc ?_ (by first | (simp; done) | (simp; omega) | omega) _)))) (HB.out.below (by repeat (first | with_reducible exact Below.refl _ _ | with_reducible assumption | refine below_drewN ?_ _ | with_reducible refine Below.drew ?_ | (refine Below.setCell ?_ (by first | (simp; done) | (simp; omega) | omega) _) | (refine Below.alloc ?_ (by first | (simp; done) | (simp; omega) | omega) _)))) hl hl2 HV.out).mono ?_; rintro e w1 ⟨rfl, hB1⟩; rw [← hW0] at hB1; have H0 := Lib.hid ((hB1.block _ z0).trans H0.out); have z0 := Nat.lt_of_lt_of_le z0 hB1.size; have b0 : World.cell? _ ⟨_, 0, none⟩ = some (.slice A ns.length c) := blk_cell H0.out 0 rfl; have b1 : World.cell? _ ⟨_, 1, none⟩ = some (.slice B ss.length d) := blk_cell H0.out 1 rfl; have H1 := Lib.hid ((hB1.block _ z1).trans H1.out); have z1 := Nat.lt_of_lt_of_le z1 hB1.size; have r0 : World.cell? _ ⟨_, 0, none⟩ = some (.int .i64 p) := blk_cell H1.out 0 rfl; have r1 : World.cell? _ ⟨_, 1, none⟩ = some (.int .i64 q) := blk_cell H1.out 1 rfl; have H2 := Lib.hid ((hB1.block _ z2).trans H2.out); have z2 := Nat.lt_of_lt_of_le z2 hB1.size; have c0 : World.cell? _ ⟨_, 0, none⟩ = some (.int .i64 0) := blk_cell H2.out 0 rfl; have c1 : World.cell? _ ⟨_, 1, none⟩ = some (.int .i64 0) := blk_cell H2.out 1 rfl; have cf0 := blk_frozen H2.out 0; have cf1 := blk_frozen H2.out 1; have HW : Hid (Below w.heap.size w _) := Lib.hid (below_step (by first | exact HW.out | exact Below.drew HW.out | exact below_drewN HW.out _) hB1); clear hB1)
  exact bodyPost_ret (v := .tuple #[.agg #[.int .i64 0, .int .i64 0], .int .i64 70]) (by simp [results, Try.results33, go_sem, cell_ao, c0, c1]) rfl ⟨rfl, (by repeat (first | with_reducible exact HW.out | with_reducible exact Below.refl _ _ | with_reducible refine below_drewN ?_ _ | with_reducible refine Below.drew ?_ | (with_reducible refine Below.setCell ?_ (by first | exact Nat.le_refl _ | exact Nat.le_succ _ | (simp; done) | (simp; omega) | omega) _) | (with_reducible refine Below.alloc ?_ (by first | exact HW.out.size | (simp; done) | (simp; omega) | omega) _)))⟩

set_option maxRecDepth 100000 in
set_option maxHeartbeats 1000000 in
theorem rGain_cut (ns ss cs : List Int) (A B C : Option Addr) (c d e1 : Nat) (p q : Int) (w : World) (hA : Ints w A ns) (hB : Ints w B ss) (hC : Ints w C cs) (hl3 : cs.length ≤ 1000) (hv : odB ns ss = true) (hq : cutB ns.length cs = false) :
    Calls Try.prog 33 #[.agg #[.slice A ns.length c, .slice B ss.length d], .slice C cs.length e1, .agg #[.int .i64 p, .int .i64 q]] w fun e w' => e = .returned (.tuple #[.agg #[.int .i64 0, .int .i64 0], .int .i64 2]) ∧ Below w.heap.size w w' := by
  have HA := Lib.hid hA
  have HB := Lib.hid hB
  have HV := Lib.hid hv
  clear hA hB hv
  have HC := Lib.hid hC
  have HQ := Lib.hid hq
  clear hC hq
  obtain ⟨W0, hW0, HW, H0, H1, H2, z0, z1, z2⟩ := three_new1 w #[.slice A ns.length c, .slice B ss.length d] #[.int .i64 p, .int .i64 q] #[.int .i64 0, .int .i64 0] 24 28 28
  go_enter Try.func33, Try.ntmps33
  go_wp2_with (go_at_call 68; with_reducible refine (asked_arg ns ss cs _ _ _ _ _ _ _ (HA.out.below (by repeat (first | with_reducible exact Below.refl _ _ | with_reducible assumption | refine below_drewN ?_ _ | with_reducible refine Below.drew ?_ | (refine Below.setCell ?_ (by first | (simp; done) | (simp; omega) | omega) _) | (refine Below.alloc ?_ (by first | (simp; done) | (simp; omega) | omega) _)))) (HB.out.below (by repeat (first | with_reducible exact Below.refl _ _ | with_reducible assumption | refine below_drewN ?_ _ | with_reducible refine Below.drew ?_ | (refine Below.setCell ?_ (by first | (simp; done) | (simp; omega) | omega) _) | (refine Below.alloc ?_ (by first | (simp; done) | (simp; omega) | omega) _)))) (HC.out.below (by repeat (first | with_reducible exact Below.refl _ _ | with_reducible assumption | refine below_drewN ?_ _ | with_reducible refine Below.drew ?_ | (refine Below.setCell ?_ (by first | (simp; done) | (simp; omega) | omega) _) | (refine Below.alloc ?_ (by first | (simp; done) | (simp; omega) | omega) _)))) hl3 HV.out HQ.out).mono ?_; rintro e w1 ⟨rfl, hB1⟩; rw [← hW0] at hB1; have H0 := Lib.hid ((hB1.block _ z0).trans H0.out); have z0 := Nat.lt_of_lt_of_le z0 hB1.size; have b0 : World.cell? _ ⟨_, 0, none⟩ = some (.slice A ns.length c) := blk_cell H0.out 0 rfl; have b1 : World.cell? _ ⟨_, 1, none⟩ = some (.slice B ss.length d) := blk_cell H0.out 1 rfl; have H1 := Lib.hid ((hB1.block _ z1).trans H1.out); have z1 := Nat.lt_of_lt_of_le z1 hB1.size; have r0 : World.cell? _ ⟨_, 0, none⟩ = some (.int .i64 p) := blk_cell H1.out 0 rfl; have r1 : World.cell? _ ⟨_, 1, none⟩ = some (.int .i64 q) := blk_cell H1.out 1 rfl; have H2 := Lib.hid ((hB1.block _ z2).trans H2.out); have z2 := Nat.lt_of_lt_of_le z2 hB1.size; have c0 : World.cell? _ ⟨_, 0, none⟩ = some (.int .i64 0) := blk_cell H2.out 0 rfl; have c1 : World.cell? _ ⟨_, 1, none⟩ = some (.int .i64 0) := blk_cell H2.out 1 rfl; have cf0 := blk_frozen H2.out 0; have cf1 := blk_frozen H2.out 1; have HW : Hid (Below w.heap.size w _) := Lib.hid (below_step (by first | exact HW.out | exact Below.drew HW.out | exact below_drewN HW.out _) hB1); clear hB1)
  exact bodyPost_ret (v := .tuple #[.agg #[.int .i64 0, .int .i64 0], .int .i64 2]) (by simp [results, Try.results33, go_sem, cell_ao, c0, c1]) rfl ⟨rfl, (by repeat (first | with_reducible exact HW.out | with_reducible exact Below.refl _ _ | with_reducible refine below_drewN ?_ _ | with_reducible refine Below.drew ?_ | (with_reducible refine Below.setCell ?_ (by first | exact Nat.le_refl _ | exact Nat.le_succ _ | (simp; done) | (simp; omega) | omega) _) | (with_reducible refine Below.alloc ?_ (by first | exact HW.out.size | (simp; done) | (simp; omega) | omega) _)))⟩

set_option maxRecDepth 100000 in
set_option maxHeartbeats 1000000 in
theorem rGain_price (ns ss cs : List Int) (A B C : Option Addr) (c d e1 : Nat) (p q : Int) (w : World) (hA : Ints w A ns) (hB : Ints w B ss) (hC : Ints w C cs) (hl3 : cs.length ≤ 1000) (hv : odB ns ss = true) (hq : cutB ns.length cs = true) (hp : okP p q = false) :
    Calls Try.prog 33 #[.agg #[.slice A ns.length c, .slice B ss.length d], .slice C cs.length e1, .agg #[.int .i64 p, .int .i64 q]] w fun e w' => e = .returned (.tuple #[.agg #[.int .i64 0, .int .i64 0], .int .i64 2]) ∧ Below w.heap.size w w' := by
  have HA := Lib.hid hA
  have HB := Lib.hid hB
  have HV := Lib.hid hv
  clear hA hB hv
  have HP := Lib.hid hp
  clear hp
  have HC := Lib.hid hC
  have HQ := Lib.hid hq
  clear hC hq
  obtain ⟨W0, hW0, HW, H0, H1, H2, z0, z1, z2⟩ := three_new1 w #[.slice A ns.length c, .slice B ss.length d] #[.int .i64 p, .int .i64 q] #[.int .i64 0, .int .i64 0] 24 28 28
  go_enter Try.func33, Try.ntmps33
  go_wp2_with (first
    | (go_at_call 68; with_reducible refine (asked_yes ns ss cs _ _ _ _ _ _ _ (HA.out.below (by repeat (first | with_reducible exact Below.refl _ _ | with_reducible assumption | refine below_drewN ?_ _ | with_reducible refine Below.drew ?_ | (refine Below.setCell ?_ (by first | (simp; done) | (simp; omega) | omega) _) | (refine Below.alloc ?_ (by first | (simp; done) | (simp; omega) | omega) _)))) (HB.out.below (by repeat (first | with_reducible exact Below.refl _ _ | with_reducible assumption | refine below_drewN ?_ _ | with_reducible refine Below.drew ?_ | (refine Below.setCell ?_ (by first | (simp; done) | (simp; omega) | omega) _) | (refine Below.alloc ?_ (by first | (simp; done) | (simp; omega) | omega) _)))) (HC.out.below (by repeat (first | with_reducible exact Below.refl _ _ | with_reducible assumption | refine below_drewN ?_ _ | with_reducible refine Below.drew ?_ | (refine Below.setCell ?_ (by first | (simp; done) | (simp; omega) | omega) _) | (refine Below.alloc ?_ (by first | (simp; done) | (simp; omega) | omega) _)))) hl3 HV.out HQ.out).mono ?_; rintro e w1 ⟨rfl, hB1⟩; rw [← hW0] at hB1; have H0 := Lib.hid ((hB1.block _ z0).trans H0.out); have z0 := Nat.lt_of_lt_of_le z0 hB1.size; have b0 : World.cell? _ ⟨_, 0, none⟩ = some (.slice A ns.length c) := blk_cell H0.out 0 rfl; have b1 : World.cell? _ ⟨_, 1, none⟩ = some (.slice B ss.length d) := blk_cell H0.out 1 rfl; have H1 := Lib.hid ((hB1.block _ z1).trans H1.out); have z1 := Nat.lt_of_lt_of_le z1 hB1.size; have r0 : World.cell? _ ⟨_, 0, none⟩ = some (.int .i64 p) := blk_cell H1.out 0 rfl; have r1 : World.cell? _ ⟨_, 1, none⟩ = some (.int .i64 q) := blk_cell H1.out 1 rfl; have H2 := Lib.hid ((hB1.block _ z2).trans H2.out); have z2 := Nat.lt_of_lt_of_le z2 hB1.size; have c0 : World.cell? _ ⟨_, 0, none⟩ = some (.int .i64 0) := blk_cell H2.out 0 rfl; have c1 : World.cell? _ ⟨_, 1, none⟩ = some (.int .i64 0) := blk_cell H2.out 1 rfl; have cf0 := blk_frozen H2.out 0; have cf1 := blk_frozen H2.out 1; have HW : Hid (Below w.heap.size w _) := Lib.hid (below_step (by first | exact HW.out | exact Below.drew HW.out | exact below_drewN HW.out _) hB1); clear hB1)
    | (go_at_call 56; with_reducible refine (isPrice_any p q _).mono ?_; rintro e w2 ⟨rfl, hB2⟩; rw [HP.out]; have H0 := Lib.hid ((hB2.block _ z0).trans H0.out); have z0 := Nat.lt_of_lt_of_le z0 hB2.size; have b0 : World.cell? _ ⟨_, 0, none⟩ = some (.slice A ns.length c) := blk_cell H0.out 0 rfl; have b1 : World.cell? _ ⟨_, 1, none⟩ = some (.slice B ss.length d) := blk_cell H0.out 1 rfl; have H1 := Lib.hid ((hB2.block _ z1).trans H1.out); have z1 := Nat.lt_of_lt_of_le z1 hB2.size; have r0 : World.cell? _ ⟨_, 0, none⟩ = some (.int .i64 p) := blk_cell H1.out 0 rfl; have r1 : World.cell? _ ⟨_, 1, none⟩ = some (.int .i64 q) := blk_cell H1.out 1 rfl; have H2 := Lib.hid ((hB2.block _ z2).trans H2.out); have z2 := Nat.lt_of_lt_of_le z2 hB2.size; have c0 : World.cell? _ ⟨_, 0, none⟩ = some (.int .i64 0) := blk_cell H2.out 0 rfl; have c1 : World.cell? _ ⟨_, 1, none⟩ = some (.int .i64 0) := blk_cell H2.out 1 rfl; have cf0 := blk_frozen H2.out 0; have cf1 := blk_frozen H2.out 1; have HW : Hid (Below w.heap.size w _) := Lib.hid (below_step (by first | exact HW.out | exact Below.drew HW.out | exact below_drewN HW.out _) hB2); clear hB2))
  exact bodyPost_ret (v := .tuple #[.agg #[.int .i64 0, .int .i64 0], .int .i64 2]) (by simp [results, Try.results33, go_sem, cell_ao, c0, c1]) rfl ⟨rfl, (by repeat (first | with_reducible exact HW.out | with_reducible exact Below.refl _ _ | with_reducible refine below_drewN ?_ _ | with_reducible refine Below.drew ?_ | (with_reducible refine Below.setCell ?_ (by first | exact Nat.le_refl _ | exact Nat.le_succ _ | (simp; done) | (simp; omega) | omega) _) | (with_reducible refine Below.alloc ?_ (by first | exact HW.out.size | (simp; done) | (simp; omega) | omega) _)))⟩

set_option maxRecDepth 100000 in
set_option maxHeartbeats 1000000 in
theorem rGain_yes (ns ss cs : List Int) (A B C : Option Addr) (c d e1 : Nat) (p q : Int) (w : World) (hA : Ints w A ns) (hB : Ints w B ss) (hC : Ints w C cs) (hv : odB ns ss = true) (hp : okP p q = true) (hq : cutB ns.length cs = true) :
    Calls Try.prog 33 #[.agg #[.slice A ns.length c, .slice B ss.length d], .slice C cs.length e1, .agg #[.int .i64 p, .int .i64 q]] w fun e w' => e = .returned (.tuple #[.agg #[.int .i64 (lowN (tgV ns ss p q cs) (unV ns ss q)), .int .i64 (lowD (tgV ns ss p q cs) (unV ns ss q))], .int .i64 0]) ∧ Below w.heap.size w w' := by
  have ho := od_of hv
  have hpp := okP_of hp
  have hcl := cutB_len hq
  have hn2 := ho.le
  obtain ⟨hl1, hl2⟩ := ho.l3
  have hl3 : cs.length ≤ 1000 := by omega
  obtain ⟨u0, u1, u2, u3⟩ := un_bd ho hpp
  obtain ⟨k0, k1⟩ := prod_bd ho
  have hn0 := ho.np
  have hn1 := ho.nm
  have hs0 := ho.sp
  have hs1 := ho.sm
  have HUN := Lib.hid (un_prod ns ss q)
  have HTB := Lib.hid (tg_bd ho hpp cs)
  have t0 : -1000000000000000000 ≤ tgV ns ss p q cs := by have := HTB.out.1; omega
  have t1 : tgV ns ss p q cs ≤ 1000000000000000000 := by have := HTB.out.2; omega
  have hwr : IntKind.i64.wrap (ns.sum * ss.sum * q) = ns.sum * ss.sum * q := IntWalk.i64_in _ (by rw [HUN.out]; omega)
  have hwr2 : IntKind.i64.wrap (ns.sum * ss.sum) = ns.sum * ss.sum := IntWalk.i64_in _ (by omega)
  have HA := Lib.hid hA
  have HB := Lib.hid hB
  have HV := Lib.hid hv
  clear hA hB hv
  have HP := Lib.hid hp
  clear hp
  have HC := Lib.hid hC
  have HQ := Lib.hid hq
  clear hC hq
  obtain ⟨W0, hW0, HW, H0, H1, H2, z0, z1, z2⟩ := three_new1 w #[.slice A ns.length c, .slice B ss.length d] #[.int .i64 p, .int .i64 q] #[.int .i64 0, .int .i64 0] 24 28 28
  go_enter Try.func33, Try.ntmps33
  go_wp2_with (first
    | (go_at_call 68; with_reducible refine (asked_yes ns ss cs _ _ _ _ _ _ _ (HA.out.below (by repeat (first | with_reducible exact Below.refl _ _ | with_reducible assumption | refine below_drewN ?_ _ | with_reducible refine Below.drew ?_ | (refine Below.setCell ?_ (by first | (simp; done) | (simp; omega) | omega) _) | (refine Below.alloc ?_ (by first | (simp; done) | (simp; omega) | omega) _)))) (HB.out.below (by repeat (first | with_reducible exact Below.refl _ _ | with_reducible assumption | refine below_drewN ?_ _ | with_reducible refine Below.drew ?_ | (refine Below.setCell ?_ (by first | (simp; done) | (simp; omega) | omega) _) | (refine Below.alloc ?_ (by first | (simp; done) | (simp; omega) | omega) _)))) (HC.out.below (by repeat (first | with_reducible exact Below.refl _ _ | with_reducible assumption | refine below_drewN ?_ _ | with_reducible refine Below.drew ?_ | (refine Below.setCell ?_ (by first | (simp; done) | (simp; omega) | omega) _) | (refine Below.alloc ?_ (by first | (simp; done) | (simp; omega) | omega) _)))) hl3 HV.out HQ.out).mono ?_; rintro e w1 ⟨rfl, hB1⟩; rw [← hW0] at hB1; have H0 := Lib.hid ((hB1.block _ z0).trans H0.out); have z0 := Nat.lt_of_lt_of_le z0 hB1.size; have b0 : World.cell? _ ⟨_, 0, none⟩ = some (.slice A ns.length c) := blk_cell H0.out 0 rfl; have b1 : World.cell? _ ⟨_, 1, none⟩ = some (.slice B ss.length d) := blk_cell H0.out 1 rfl; have H1 := Lib.hid ((hB1.block _ z1).trans H1.out); have z1 := Nat.lt_of_lt_of_le z1 hB1.size; have r0 : World.cell? _ ⟨_, 0, none⟩ = some (.int .i64 p) := blk_cell H1.out 0 rfl; have r1 : World.cell? _ ⟨_, 1, none⟩ = some (.int .i64 q) := blk_cell H1.out 1 rfl; have H2 := Lib.hid ((hB1.block _ z2).trans H2.out); have z2 := Nat.lt_of_lt_of_le z2 hB1.size; have c0 : World.cell? _ ⟨_, 0, none⟩ = some (.int .i64 0) := blk_cell H2.out 0 rfl; have c1 : World.cell? _ ⟨_, 1, none⟩ = some (.int .i64 0) := blk_cell H2.out 1 rfl; have cf0 := blk_frozen H2.out 0; have cf1 := blk_frozen H2.out 1; have HW : Hid (Below w.heap.size w _) := Lib.hid (below_step (by first | exact HW.out | exact Below.drew HW.out | exact below_drewN HW.out _) hB1); clear hB1)
    | (go_at_call 56; with_reducible refine (isPrice_any p q _).mono ?_; rintro e w2 ⟨rfl, hB2⟩; rw [HP.out]; have H0 := Lib.hid ((hB2.block _ z0).trans H0.out); have z0 := Nat.lt_of_lt_of_le z0 hB2.size; have b0 : World.cell? _ ⟨_, 0, none⟩ = some (.slice A ns.length c) := blk_cell H0.out 0 rfl; have b1 : World.cell? _ ⟨_, 1, none⟩ = some (.slice B ss.length d) := blk_cell H0.out 1 rfl; have H1 := Lib.hid ((hB2.block _ z1).trans H1.out); have z1 := Nat.lt_of_lt_of_le z1 hB2.size; have r0 : World.cell? _ ⟨_, 0, none⟩ = some (.int .i64 p) := blk_cell H1.out 0 rfl; have r1 : World.cell? _ ⟨_, 1, none⟩ = some (.int .i64 q) := blk_cell H1.out 1 rfl; have H2 := Lib.hid ((hB2.block _ z2).trans H2.out); have z2 := Nat.lt_of_lt_of_le z2 hB2.size; have c0 : World.cell? _ ⟨_, 0, none⟩ = some (.int .i64 0) := blk_cell H2.out 0 rfl; have c1 : World.cell? _ ⟨_, 1, none⟩ = some (.int .i64 0) := blk_cell H2.out 1 rfl; have cf0 := blk_frozen H2.out 0; have cf1 := blk_frozen H2.out 1; have HW : Hid (Below w.heap.size w _) := Lib.hid (below_step (by first | exact HW.out | exact Below.drew HW.out | exact below_drewN HW.out _) hB2); clear hB2))
  have n12 : w.heap.size ≠ w.heap.size + 1 + 1 := by omega
  have n13 : w.heap.size + 1 ≠ w.heap.size + 1 + 1 := by omega
  go_region_held3 (fun W => W.cell? ⟨w.heap.size, 0, none⟩ = some (.slice A ns.length c) ∧ W.cell? ⟨w.heap.size, 1, none⟩ = some (.slice B ss.length d) ∧ W.cell? ⟨w.heap.size + 1, 0, none⟩ = some (.int .i64 p) ∧ W.cell? ⟨w.heap.size + 1, 1, none⟩ = some (.int .i64 q))
    ((first | with_reducible exact ⟨b0, b1, r0, r1⟩ | (refine ⟨?_, ?_, ?_, ?_⟩ <;> (repeat (first | with_reducible exact b0 | with_reducible exact b1 | with_reducible exact r0 | with_reducible exact r1 | with_reducible refine (cell_drew1 _ _).trans ?_ | with_reducible refine (cell_set1 _ n12).trans ?_ | with_reducible refine (cell_set1 _ n13).trans ?_)))))
    ((first
    | (go_at_call 86; with_reducible refine (refgain_any ns ss A B c d ho p q hpp cs C e1 _ (HA.out.below (by first | exact HW.out | exact Below.drew HW.out | exact below_drewN HW.out _)) (HB.out.below (by first | exact HW.out | exact Below.drew HW.out | exact below_drewN HW.out _)) (HC.out.below (by first | exact HW.out | exact Below.drew HW.out | exact below_drewN HW.out _)) HQ.out).mono ?_; rintro e w3 ⟨rfl, hB3⟩; have H0 := Lib.hid ((hB3.block _ z0).trans H0.out); have z0 := Nat.lt_of_lt_of_le z0 hB3.size; have b0 : World.cell? _ ⟨_, 0, none⟩ = some (.slice A ns.length c) := blk_cell H0.out 0 rfl; have b1 : World.cell? _ ⟨_, 1, none⟩ = some (.slice B ss.length d) := blk_cell H0.out 1 rfl; have H1 := Lib.hid ((hB3.block _ z1).trans H1.out); have z1 := Nat.lt_of_lt_of_le z1 hB3.size; have r0 : World.cell? _ ⟨_, 0, none⟩ = some (.int .i64 p) := blk_cell H1.out 0 rfl; have r1 : World.cell? _ ⟨_, 1, none⟩ = some (.int .i64 q) := blk_cell H1.out 1 rfl; have H2 := Lib.hid ((hB3.block _ z2).trans H2.out); have z2 := Nat.lt_of_lt_of_le z2 hB3.size; have c0 : World.cell? _ ⟨_, 0, none⟩ = some (.int .i64 0) := blk_cell H2.out 0 rfl; have c1 : World.cell? _ ⟨_, 1, none⟩ = some (.int .i64 0) := blk_cell H2.out 1 rfl; have cf0 := blk_frozen H2.out 0; have cf1 := blk_frozen H2.out 1; have HW : Hid (Below w.heap.size w _) := Lib.hid (below_step (by first | exact HW.out | exact Below.drew HW.out | exact below_drewN HW.out _) hB3); clear hB3)
    | (go_at_call 58; with_reducible refine (total_any ns _ _ _ (HA.out.below (by first | exact HW.out | exact Below.drew HW.out | exact below_drewN HW.out _)) hl1 ho.nb9).mono ?_; rintro e w4 ⟨rfl, rfl⟩)
    | (go_at_call 58; with_reducible refine (total_any ss _ _ _ (HB.out.below (by first | exact HW.out | exact Below.drew HW.out | exact below_drewN HW.out _)) hl2 ho.sb9).mono ?_; rintro e w4 ⟨rfl, rfl⟩)
    | (go_at_call 59; with_reducible refine (refRatio_any (tgV ns ss p q cs) (ns.sum * ss.sum * q) _ (by omega) (by omega) (by rw [HUN.out]; exact u0) (by rw [HUN.out]; omega)).mono ?_; rintro e w5 ⟨rfl, hB5⟩; rw [HUN.out]; have H0 := Lib.hid ((hB5.block _ z0).trans H0.out); have z0 := Nat.lt_of_lt_of_le z0 hB5.size; have b0 : World.cell? _ ⟨_, 0, none⟩ = some (.slice A ns.length c) := blk_cell H0.out 0 rfl; have b1 : World.cell? _ ⟨_, 1, none⟩ = some (.slice B ss.length d) := blk_cell H0.out 1 rfl; have H1 := Lib.hid ((hB5.block _ z1).trans H1.out); have z1 := Nat.lt_of_lt_of_le z1 hB5.size; have r0 : World.cell? _ ⟨_, 0, none⟩ = some (.int .i64 p) := blk_cell H1.out 0 rfl; have r1 : World.cell? _ ⟨_, 1, none⟩ = some (.int .i64 q) := blk_cell H1.out 1 rfl; have H2 := Lib.hid ((hB5.block _ z2).trans H2.out); have z2 := Nat.lt_of_lt_of_le z2 hB5.size; have c0 : World.cell? _ ⟨_, 0, none⟩ = some (.int .i64 0) := blk_cell H2.out 0 rfl; have c1 : World.cell? _ ⟨_, 1, none⟩ = some (.int .i64 0) := blk_cell H2.out 1 rfl; have cf0 := blk_frozen H2.out 0; have cf1 := blk_frozen H2.out 1; have HW : Hid (Below w.heap.size w _) := Lib.hid (below_step (by first | exact HW.out | exact Below.drew HW.out | exact below_drewN HW.out _) hB5); clear hB5)))
  all_goals
    go_wp2
    exact bodyPost_ret (v := .tuple #[.agg #[.int .i64 (lowN (tgV ns ss p q cs) (unV ns ss q)), .int .i64 (lowD (tgV ns ss p q cs) (unV ns ss q))], .int .i64 0]) (by simp [results, Try.results33, go_sem, cell_ao, c0, c1]) rfl ⟨rfl, (by repeat (first | with_reducible exact HW.out | with_reducible exact Below.refl _ _ | with_reducible refine below_drewN ?_ _ | with_reducible refine Below.drew ?_ | (with_reducible refine Below.setCell ?_ (by first | exact Nat.le_refl _ | exact Nat.le_succ _ | (simp; done) | (simp; omega) | omega) _) | (with_reducible refine Below.alloc ?_ (by first | exact HW.out.size | (simp; done) | (simp; omega) | omega) _)))⟩

set_option maxRecDepth 100000 in
set_option maxHeartbeats 1000000 in
theorem rProves_no (ns ss cs : List Int) (A B C : Option Addr) (c d e1 : Nat) (p q : Int) (w : World) (hA : Ints w A ns) (hB : Ints w B ss) (hl : ns.length ≤ 1000) (hl2 : ss.length ≤ 1000) (hv : odB ns ss = false) :
    Calls Try.prog 37 #[.agg #[.slice A ns.length c, .slice B ss.length d], .slice C cs.length e1, .agg #[.int .i64 p, .int .i64 q]] w fun e w' => e = .returned (.tuple #[.bool false, .int .i64 70]) ∧ Below w.heap.size w w' := by
  have HA := Lib.hid hA
  have HB := Lib.hid hB
  have HV := Lib.hid hv
  clear hA hB hv
  obtain ⟨W0, hW0, HW, H0, H1, z0, z1⟩ := two_new w #[.slice A ns.length c, .slice B ss.length d] #[.int .i64 p, .int .i64 q] 24 28
  go_enter Try.func37, Try.ntmps37
  go_wp2_with (go_at_call 68; with_reducible refine (asked_no ns ss cs _ _ _ _ _ _ _ (HA.out.below (by repeat (first | with_reducible exact Below.refl _ _ | with_reducible assumption | refine below_drewN ?_ _ | with_reducible refine Below.drew ?_ | (refine Below.setCell ?_ (by first | (simp; done) | (simp; omega) | omega) _) | (refine Below.alloc ?_ (by first | (simp; done) | (simp; omega) | omega) _)))) (HB.out.below (by repeat (first | with_reducible exact Below.refl _ _ | with_reducible assumption | refine below_drewN ?_ _ | with_reducible refine Below.drew ?_ | (refine Below.setCell ?_ (by first | (simp; done) | (simp; omega) | omega) _) | (refine Below.alloc ?_ (by first | (simp; done) | (simp; omega) | omega) _)))) hl hl2 HV.out).mono ?_; rintro e w1 ⟨rfl, hB1⟩; rw [← hW0] at hB1; have H0 := Lib.hid ((hB1.block _ z0).trans H0.out); have z0 := Nat.lt_of_lt_of_le z0 hB1.size; have b0 : World.cell? _ ⟨_, 0, none⟩ = some (.slice A ns.length c) := blk_cell H0.out 0 rfl; have b1 : World.cell? _ ⟨_, 1, none⟩ = some (.slice B ss.length d) := blk_cell H0.out 1 rfl; have H1 := Lib.hid ((hB1.block _ z1).trans H1.out); have z1 := Nat.lt_of_lt_of_le z1 hB1.size; have r0 : World.cell? _ ⟨_, 0, none⟩ = some (.int .i64 p) := blk_cell H1.out 0 rfl; have r1 : World.cell? _ ⟨_, 1, none⟩ = some (.int .i64 q) := blk_cell H1.out 1 rfl; have HW : Hid (Below w.heap.size w _) := Lib.hid (below_step (by first | exact HW.out | exact Below.drew HW.out | exact below_drewN HW.out _) hB1); clear hB1)
  go_ret2
  exact ⟨rfl, (by repeat (first | with_reducible exact HW.out | with_reducible exact Below.refl _ _ | with_reducible refine below_drewN ?_ _ | with_reducible refine Below.drew ?_ | (with_reducible refine Below.setCell ?_ (by first | exact Nat.le_refl _ | exact Nat.le_succ _ | (simp; done) | (simp; omega) | omega) _) | (with_reducible refine Below.alloc ?_ (by first | exact HW.out.size | (simp; done) | (simp; omega) | omega) _)))⟩

set_option maxRecDepth 100000 in
set_option maxHeartbeats 1000000 in
theorem rProves_cut (ns ss cs : List Int) (A B C : Option Addr) (c d e1 : Nat) (p q : Int) (w : World) (hA : Ints w A ns) (hB : Ints w B ss) (hC : Ints w C cs) (hl3 : cs.length ≤ 1000) (hv : odB ns ss = true) (hq : cutB ns.length cs = false) :
    Calls Try.prog 37 #[.agg #[.slice A ns.length c, .slice B ss.length d], .slice C cs.length e1, .agg #[.int .i64 p, .int .i64 q]] w fun e w' => e = .returned (.tuple #[.bool false, .int .i64 2]) ∧ Below w.heap.size w w' := by
  have HA := Lib.hid hA
  have HB := Lib.hid hB
  have HV := Lib.hid hv
  clear hA hB hv
  have HC := Lib.hid hC
  have HQ := Lib.hid hq
  clear hC hq
  obtain ⟨W0, hW0, HW, H0, H1, z0, z1⟩ := two_new w #[.slice A ns.length c, .slice B ss.length d] #[.int .i64 p, .int .i64 q] 24 28
  go_enter Try.func37, Try.ntmps37
  go_wp2_with (go_at_call 68; with_reducible refine (asked_arg ns ss cs _ _ _ _ _ _ _ (HA.out.below (by repeat (first | with_reducible exact Below.refl _ _ | with_reducible assumption | refine below_drewN ?_ _ | with_reducible refine Below.drew ?_ | (refine Below.setCell ?_ (by first | (simp; done) | (simp; omega) | omega) _) | (refine Below.alloc ?_ (by first | (simp; done) | (simp; omega) | omega) _)))) (HB.out.below (by repeat (first | with_reducible exact Below.refl _ _ | with_reducible assumption | refine below_drewN ?_ _ | with_reducible refine Below.drew ?_ | (refine Below.setCell ?_ (by first | (simp; done) | (simp; omega) | omega) _) | (refine Below.alloc ?_ (by first | (simp; done) | (simp; omega) | omega) _)))) (HC.out.below (by repeat (first | with_reducible exact Below.refl _ _ | with_reducible assumption | refine below_drewN ?_ _ | with_reducible refine Below.drew ?_ | (refine Below.setCell ?_ (by first | (simp; done) | (simp; omega) | omega) _) | (refine Below.alloc ?_ (by first | (simp; done) | (simp; omega) | omega) _)))) hl3 HV.out HQ.out).mono ?_; rintro e w1 ⟨rfl, hB1⟩; rw [← hW0] at hB1; have H0 := Lib.hid ((hB1.block _ z0).trans H0.out); have z0 := Nat.lt_of_lt_of_le z0 hB1.size; have b0 : World.cell? _ ⟨_, 0, none⟩ = some (.slice A ns.length c) := blk_cell H0.out 0 rfl; have b1 : World.cell? _ ⟨_, 1, none⟩ = some (.slice B ss.length d) := blk_cell H0.out 1 rfl; have H1 := Lib.hid ((hB1.block _ z1).trans H1.out); have z1 := Nat.lt_of_lt_of_le z1 hB1.size; have r0 : World.cell? _ ⟨_, 0, none⟩ = some (.int .i64 p) := blk_cell H1.out 0 rfl; have r1 : World.cell? _ ⟨_, 1, none⟩ = some (.int .i64 q) := blk_cell H1.out 1 rfl; have HW : Hid (Below w.heap.size w _) := Lib.hid (below_step (by first | exact HW.out | exact Below.drew HW.out | exact below_drewN HW.out _) hB1); clear hB1)
  go_ret2
  exact ⟨rfl, (by repeat (first | with_reducible exact HW.out | with_reducible exact Below.refl _ _ | with_reducible refine below_drewN ?_ _ | with_reducible refine Below.drew ?_ | (with_reducible refine Below.setCell ?_ (by first | exact Nat.le_refl _ | exact Nat.le_succ _ | (simp; done) | (simp; omega) | omega) _) | (with_reducible refine Below.alloc ?_ (by first | exact HW.out.size | (simp; done) | (simp; omega) | omega) _)))⟩

set_option maxRecDepth 100000 in
set_option maxHeartbeats 1000000 in
theorem rProves_price (ns ss cs : List Int) (A B C : Option Addr) (c d e1 : Nat) (p q : Int) (w : World) (hA : Ints w A ns) (hB : Ints w B ss) (hC : Ints w C cs) (hl3 : cs.length ≤ 1000) (hv : odB ns ss = true) (hq : cutB ns.length cs = true) (hp : okP p q = false) :
    Calls Try.prog 37 #[.agg #[.slice A ns.length c, .slice B ss.length d], .slice C cs.length e1, .agg #[.int .i64 p, .int .i64 q]] w fun e w' => e = .returned (.tuple #[.bool false, .int .i64 2]) ∧ Below w.heap.size w w' := by
  have HA := Lib.hid hA
  have HB := Lib.hid hB
  have HV := Lib.hid hv
  clear hA hB hv
  have HP := Lib.hid hp
  clear hp
  have HC := Lib.hid hC
  have HQ := Lib.hid hq
  clear hC hq
  obtain ⟨W0, hW0, HW, H0, H1, z0, z1⟩ := two_new w #[.slice A ns.length c, .slice B ss.length d] #[.int .i64 p, .int .i64 q] 24 28
  go_enter Try.func37, Try.ntmps37
  go_wp2_with (first
    | (go_at_call 68; with_reducible refine (asked_yes ns ss cs _ _ _ _ _ _ _ (HA.out.below (by repeat (first | with_reducible exact Below.refl _ _ | with_reducible assumption | refine below_drewN ?_ _ | with_reducible refine Below.drew ?_ | (refine Below.setCell ?_ (by first | (simp; done) | (simp; omega) | omega) _) | (refine Below.alloc ?_ (by first | (simp; done) | (simp; omega) | omega) _)))) (HB.out.below (by repeat (first | with_reducible exact Below.refl _ _ | with_reducible assumption | refine below_drewN ?_ _ | with_reducible refine Below.drew ?_ | (refine Below.setCell ?_ (by first | (simp; done) | (simp; omega) | omega) _) | (refine Below.alloc ?_ (by first | (simp; done) | (simp; omega) | omega) _)))) (HC.out.below (by repeat (first | with_reducible exact Below.refl _ _ | with_reducible assumption | refine below_drewN ?_ _ | with_reducible refine Below.drew ?_ | (refine Below.setCell ?_ (by first | (simp; done) | (simp; omega) | omega) _) | (refine Below.alloc ?_ (by first | (simp; done) | (simp; omega) | omega) _)))) hl3 HV.out HQ.out).mono ?_; rintro e w1 ⟨rfl, hB1⟩; rw [← hW0] at hB1; have H0 := Lib.hid ((hB1.block _ z0).trans H0.out); have z0 := Nat.lt_of_lt_of_le z0 hB1.size; have b0 : World.cell? _ ⟨_, 0, none⟩ = some (.slice A ns.length c) := blk_cell H0.out 0 rfl; have b1 : World.cell? _ ⟨_, 1, none⟩ = some (.slice B ss.length d) := blk_cell H0.out 1 rfl; have H1 := Lib.hid ((hB1.block _ z1).trans H1.out); have z1 := Nat.lt_of_lt_of_le z1 hB1.size; have r0 : World.cell? _ ⟨_, 0, none⟩ = some (.int .i64 p) := blk_cell H1.out 0 rfl; have r1 : World.cell? _ ⟨_, 1, none⟩ = some (.int .i64 q) := blk_cell H1.out 1 rfl; have HW : Hid (Below w.heap.size w _) := Lib.hid (below_step (by first | exact HW.out | exact Below.drew HW.out | exact below_drewN HW.out _) hB1); clear hB1)
    | (go_at_call 56; with_reducible refine (isPrice_any p q _).mono ?_; rintro e w2 ⟨rfl, hB2⟩; rw [HP.out]; have H0 := Lib.hid ((hB2.block _ z0).trans H0.out); have z0 := Nat.lt_of_lt_of_le z0 hB2.size; have b0 : World.cell? _ ⟨_, 0, none⟩ = some (.slice A ns.length c) := blk_cell H0.out 0 rfl; have b1 : World.cell? _ ⟨_, 1, none⟩ = some (.slice B ss.length d) := blk_cell H0.out 1 rfl; have H1 := Lib.hid ((hB2.block _ z1).trans H1.out); have z1 := Nat.lt_of_lt_of_le z1 hB2.size; have r0 : World.cell? _ ⟨_, 0, none⟩ = some (.int .i64 p) := blk_cell H1.out 0 rfl; have r1 : World.cell? _ ⟨_, 1, none⟩ = some (.int .i64 q) := blk_cell H1.out 1 rfl; have HW : Hid (Below w.heap.size w _) := Lib.hid (below_step (by first | exact HW.out | exact Below.drew HW.out | exact below_drewN HW.out _) hB2); clear hB2))
  go_ret2
  exact ⟨rfl, (by repeat (first | with_reducible exact HW.out | with_reducible exact Below.refl _ _ | with_reducible refine below_drewN ?_ _ | with_reducible refine Below.drew ?_ | (with_reducible refine Below.setCell ?_ (by first | exact Nat.le_refl _ | exact Nat.le_succ _ | (simp; done) | (simp; omega) | omega) _) | (with_reducible refine Below.alloc ?_ (by first | exact HW.out.size | (simp; done) | (simp; omega) | omega) _)))⟩

set_option maxRecDepth 100000 in
set_option maxHeartbeats 1000000 in
theorem rProves_yes (ns ss cs : List Int) (A B C : Option Addr) (c d e1 : Nat) (p q : Int) (w : World) (hA : Ints w A ns) (hB : Ints w B ss) (hC : Ints w C cs) (hv : odB ns ss = true) (hp : okP p q = true) (hq : cutB ns.length cs = true) :
    Calls Try.prog 37 #[.agg #[.slice A ns.length c, .slice B ss.length d], .slice C cs.length e1, .agg #[.int .i64 p, .int .i64 q]] w fun e w' => e = .returned (.tuple #[.bool (tgV ns ss p q cs == tgV ns ss p q (deL ns ss p q)), .int .i64 0]) ∧ Below w.heap.size w w' := by
  have ho := od_of hv
  have hpp := okP_of hp
  have hcl := cutB_len hq
  have hn2 := ho.le
  obtain ⟨hl1, hl2⟩ := ho.l3
  have hl3 : cs.length ≤ 1000 := by omega
  obtain ⟨u0, u1, u2, u3⟩ := un_bd ho hpp
  obtain ⟨k0, k1⟩ := prod_bd ho
  have hn0 := ho.np
  have hn1 := ho.nm
  have hs0 := ho.sp
  have hs1 := ho.sm
  have HUN := Lib.hid (un_prod ns ss q)
  have HTB := Lib.hid (tg_bd ho hpp cs)
  have t0 : -1000000000000000000 ≤ tgV ns ss p q cs := by have := HTB.out.1; omega
  have t1 : tgV ns ss p q cs ≤ 1000000000000000000 := by have := HTB.out.2; omega
  rw [← ge_eq hq]
  have HDC : Hid (cutB ns.length (deL ns ss p q) = true) := Lib.hid (ofM_cut _ _)
  have HA := Lib.hid hA
  have HB := Lib.hid hB
  have HV := Lib.hid hv
  clear hA hB hv
  have HP := Lib.hid hp
  clear hp
  have HC := Lib.hid hC
  have HQ := Lib.hid hq
  clear hC hq
  obtain ⟨W0, hW0, HW, H0, H1, z0, z1⟩ := two_new w #[.slice A ns.length c, .slice B ss.length d] #[.int .i64 p, .int .i64 q] 24 28
  go_enter Try.func37, Try.ntmps37
  go_wp2_with (first
    | (go_at_call 68; with_reducible refine (asked_yes ns ss cs _ _ _ _ _ _ _ (HA.out.below (by repeat (first | with_reducible exact Below.refl _ _ | with_reducible assumption | refine below_drewN ?_ _ | with_reducible refine Below.drew ?_ | (refine Below.setCell ?_ (by first | (simp; done) | (simp; omega) | omega) _) | (refine Below.alloc ?_ (by first | (simp; done) | (simp; omega) | omega) _)))) (HB.out.below (by repeat (first | with_reducible exact Below.refl _ _ | with_reducible assumption | refine below_drewN ?_ _ | with_reducible refine Below.drew ?_ | (refine Below.setCell ?_ (by first | (simp; done) | (simp; omega) | omega) _) | (refine Below.alloc ?_ (by first | (simp; done) | (simp; omega) | omega) _)))) (HC.out.below (by repeat (first | with_reducible exact Below.refl _ _ | with_reducible assumption | refine below_drewN ?_ _ | with_reducible refine Below.drew ?_ | (refine Below.setCell ?_ (by first | (simp; done) | (simp; omega) | omega) _) | (refine Below.alloc ?_ (by first | (simp; done) | (simp; omega) | omega) _)))) hl3 HV.out HQ.out).mono ?_; rintro e w1 ⟨rfl, hB1⟩; rw [← hW0] at hB1; have H0 := Lib.hid ((hB1.block _ z0).trans H0.out); have z0 := Nat.lt_of_lt_of_le z0 hB1.size; have b0 : World.cell? _ ⟨_, 0, none⟩ = some (.slice A ns.length c) := blk_cell H0.out 0 rfl; have b1 : World.cell? _ ⟨_, 1, none⟩ = some (.slice B ss.length d) := blk_cell H0.out 1 rfl; have H1 := Lib.hid ((hB1.block _ z1).trans H1.out); have z1 := Nat.lt_of_lt_of_le z1 hB1.size; have r0 : World.cell? _ ⟨_, 0, none⟩ = some (.int .i64 p) := blk_cell H1.out 0 rfl; have r1 : World.cell? _ ⟨_, 1, none⟩ = some (.int .i64 q) := blk_cell H1.out 1 rfl; have HW : Hid (Below w.heap.size w _) := Lib.hid (below_step (by first | exact HW.out | exact Below.drew HW.out | exact below_drewN HW.out _) hB1); clear hB1)
    | (go_at_call 56; with_reducible refine (isPrice_any p q _).mono ?_; rintro e w2 ⟨rfl, hB2⟩; rw [HP.out]; have H0 := Lib.hid ((hB2.block _ z0).trans H0.out); have z0 := Nat.lt_of_lt_of_le z0 hB2.size; have b0 : World.cell? _ ⟨_, 0, none⟩ = some (.slice A ns.length c) := blk_cell H0.out 0 rfl; have b1 : World.cell? _ ⟨_, 1, none⟩ = some (.slice B ss.length d) := blk_cell H0.out 1 rfl; have H1 := Lib.hid ((hB2.block _ z1).trans H1.out); have z1 := Nat.lt_of_lt_of_le z1 hB2.size; have r0 : World.cell? _ ⟨_, 0, none⟩ = some (.int .i64 p) := blk_cell H1.out 0 rfl; have r1 : World.cell? _ ⟨_, 1, none⟩ = some (.int .i64 q) := blk_cell H1.out 1 rfl; have HW : Hid (Below w.heap.size w _) := Lib.hid (below_step (by first | exact HW.out | exact Below.drew HW.out | exact below_drewN HW.out _) hB2); clear hB2))
  go_region_held3 (fun W => W.cell? ⟨w.heap.size, 0, none⟩ = some (.slice A ns.length c) ∧ W.cell? ⟨w.heap.size, 1, none⟩ = some (.slice B ss.length d) ∧ W.cell? ⟨w.heap.size + 1, 0, none⟩ = some (.int .i64 p) ∧ W.cell? ⟨w.heap.size + 1, 1, none⟩ = some (.int .i64 q))
    ((first | with_reducible exact ⟨b0, b1, r0, r1⟩ | (refine ⟨?_, ?_, ?_, ?_⟩ <;> (repeat (first | with_reducible refine (cell_set1 _ z0).trans ?_ | with_reducible refine (cell_drew1 _ _).trans ?_)) <;> first | with_reducible exact b0 | with_reducible exact b1 | with_reducible exact r0 | with_reducible exact r1)))
    ((first
    | (go_at_call 86; with_reducible refine (refgain_any ns ss A B c d ho p q hpp cs C e1 _ (HA.out.below (by first | exact HW.out | exact Below.drew HW.out | exact below_drewN HW.out _)) (HB.out.below (by first | exact HW.out | exact Below.drew HW.out | exact below_drewN HW.out _)) (HC.out.below (by first | exact HW.out | exact Below.drew HW.out | exact below_drewN HW.out _)) HQ.out).mono ?_; rintro e w3 ⟨rfl, hB3⟩; (try have HDW := Lib.hid (below_step (by first | exact HDW.out | exact Below.drew HDW.out | exact below_drewN HDW.out _) hB3)); have H0 := Lib.hid ((hB3.block _ z0).trans H0.out); have z0 := Nat.lt_of_lt_of_le z0 hB3.size; have b0 : World.cell? _ ⟨_, 0, none⟩ = some (.slice A ns.length c) := blk_cell H0.out 0 rfl; have b1 : World.cell? _ ⟨_, 1, none⟩ = some (.slice B ss.length d) := blk_cell H0.out 1 rfl; have H1 := Lib.hid ((hB3.block _ z1).trans H1.out); have z1 := Nat.lt_of_lt_of_le z1 hB3.size; have r0 : World.cell? _ ⟨_, 0, none⟩ = some (.int .i64 p) := blk_cell H1.out 0 rfl; have r1 : World.cell? _ ⟨_, 1, none⟩ = some (.int .i64 q) := blk_cell H1.out 1 rfl; have HW : Hid (Below w.heap.size w _) := Lib.hid (below_step (by first | exact HW.out | exact Below.drew HW.out | exact below_drewN HW.out _) hB3); clear hB3)
    | (go_at_call 88; with_reducible refine (refdear_any ns ss A B c d ho p q hpp _ (HA.out.below (by first | exact HW.out | exact Below.drew HW.out | exact below_drewN HW.out _)) (HB.out.below (by first | exact HW.out | exact Below.drew HW.out | exact below_drewN HW.out _))).mono ?_; rintro e w4 ⟨D', e', rfl, hO4, hB4⟩; have HO4 := Lib.hid hO4.ints; have HDW := Lib.hid (Below.refl w4.heap.size w4); have H0 := Lib.hid ((hB4.block _ z0).trans H0.out); have z0 := Nat.lt_of_lt_of_le z0 hB4.size; have b0 : World.cell? _ ⟨_, 0, none⟩ = some (.slice A ns.length c) := blk_cell H0.out 0 rfl; have b1 : World.cell? _ ⟨_, 1, none⟩ = some (.slice B ss.length d) := blk_cell H0.out 1 rfl; have H1 := Lib.hid ((hB4.block _ z1).trans H1.out); have z1 := Nat.lt_of_lt_of_le z1 hB4.size; have r0 : World.cell? _ ⟨_, 0, none⟩ = some (.int .i64 p) := blk_cell H1.out 0 rfl; have r1 : World.cell? _ ⟨_, 1, none⟩ = some (.int .i64 q) := blk_cell H1.out 1 rfl; have HW : Hid (Below w.heap.size w _) := Lib.hid (below_step (by first | exact HW.out | exact Below.drew HW.out | exact below_drewN HW.out _) hB4); clear hB4 hO4)
    | (go_at_call 86; with_reducible refine (refgain_any ns ss A B c d ho p q hpp (deL ns ss p q) D' e' _ (HA.out.below (by first | exact HW.out | exact Below.drew HW.out | exact below_drewN HW.out _)) (HB.out.below (by first | exact HW.out | exact Below.drew HW.out | exact below_drewN HW.out _)) (by first | exact HO4.out | exact HO4.out.below (by first | exact HDW.out | exact Below.drew HDW.out | exact below_drewN HDW.out _)) HDC.out).mono ?_; rintro e w5 ⟨rfl, hB5⟩; have H0 := Lib.hid ((hB5.block _ z0).trans H0.out); have z0 := Nat.lt_of_lt_of_le z0 hB5.size; have b0 : World.cell? _ ⟨_, 0, none⟩ = some (.slice A ns.length c) := blk_cell H0.out 0 rfl; have b1 : World.cell? _ ⟨_, 1, none⟩ = some (.slice B ss.length d) := blk_cell H0.out 1 rfl; have H1 := Lib.hid ((hB5.block _ z1).trans H1.out); have z1 := Nat.lt_of_lt_of_le z1 hB5.size; have r0 : World.cell? _ ⟨_, 0, none⟩ = some (.int .i64 p) := blk_cell H1.out 0 rfl; have r1 : World.cell? _ ⟨_, 1, none⟩ = some (.int .i64 q) := blk_cell H1.out 1 rfl; have HW : Hid (Below w.heap.size w _) := Lib.hid (below_step (by first | exact HW.out | exact Below.drew HW.out | exact below_drewN HW.out _) hB5); clear hB5)))
  all_goals
    go_wp2
    go_ret2
    exact ⟨rfl, (by repeat (first | with_reducible exact HW.out | with_reducible exact Below.refl _ _ | with_reducible refine below_drewN ?_ _ | with_reducible refine Below.drew ?_ | (with_reducible refine Below.setCell ?_ (by first | exact Nat.le_refl _ | exact Nat.le_succ _ | (simp; done) | (simp; omega) | omega) _) | (with_reducible refine Below.alloc ?_ (by first | exact HW.out.size | (simp; done) | (simp; omega) | omega) _)))⟩

set_option maxRecDepth 100000 in
set_option maxHeartbeats 1000000 in
theorem rDearest_no (ns ss : List Int) (A B : Option Addr) (c d : Nat) (p q : Int) (w : World) (hA : Ints w A ns) (hB : Ints w B ss) (hl : ns.length ≤ 1000) (hl2 : ss.length ≤ 1000) (hv : odB ns ss = false) :
    Calls Try.prog 35 #[.agg #[.slice A ns.length c, .slice B ss.length d], .agg #[.int .i64 p, .int .i64 q]] w fun e w' => e = .returned (.tuple #[.slice none 0 0, .int .i64 70]) ∧ Below w.heap.size w w' := by
  have HA := Lib.hid hA
  have HB := Lib.hid hB
  have HV := Lib.hid hv
  clear hA hB hv
  obtain ⟨W0, hW0, HW, H0, H1, z0, z1⟩ := two_new w #[.slice A ns.length c, .slice B ss.length d] #[.int .i64 p, .int .i64 q] 24 28
  go_enter Try.func35, Try.ntmps35
  go_wp2_with (go_at_call 22; with_reducible refine (refValid_any ns ss _ _ _ _ _ (HA.out.below (by repeat (first | with_reducible exact Below.refl _ _ | with_reducible assumption | refine below_drewN ?_ _ | with_reducible refine Below.drew ?_ | (refine Below.setCell ?_ (by first | (simp; done) | (simp; omega) | omega) _) | (refine Below.alloc ?_ (by first | (simp; done) | (simp; omega) | omega) _)))) (HB.out.below (by repeat (first | with_reducible exact Below.refl _ _ | with_reducible assumption | refine below_drewN ?_ _ | with_reducible refine Below.drew ?_ | (refine Below.setCell ?_ (by first | (simp; done) | (simp; omega) | omega) _) | (refine Below.alloc ?_ (by first | (simp; done) | (simp; omega) | omega) _)))) hl hl2).mono ?_; rintro e w1 ⟨rfl, hB1⟩; rw [← hW0] at hB1; rw [HV.out]; have H0 := Lib.hid ((hB1.block _ z0).trans H0.out); have z0 := Nat.lt_of_lt_of_le z0 hB1.size; have b0 : World.cell? _ ⟨_, 0, none⟩ = some (.slice A ns.length c) := blk_cell H0.out 0 rfl; have b1 : World.cell? _ ⟨_, 1, none⟩ = some (.slice B ss.length d) := blk_cell H0.out 1 rfl; have H1 := Lib.hid ((hB1.block _ z1).trans H1.out); have z1 := Nat.lt_of_lt_of_le z1 hB1.size; have r0 : World.cell? _ ⟨_, 0, none⟩ = some (.int .i64 p) := blk_cell H1.out 0 rfl; have r1 : World.cell? _ ⟨_, 1, none⟩ = some (.int .i64 q) := blk_cell H1.out 1 rfl; have HW : Hid (Below w.heap.size w _) := Lib.hid (below_step (by first | exact HW.out | exact Below.drew HW.out | exact below_drewN HW.out _) hB1); clear hB1)
  go_ret2
  exact ⟨rfl, (by repeat (first | with_reducible exact HW.out | with_reducible exact Below.refl _ _ | with_reducible refine below_drewN ?_ _ | with_reducible refine Below.drew ?_ | (with_reducible refine Below.setCell ?_ (by first | exact Nat.le_refl _ | exact Nat.le_succ _ | (simp; done) | (simp; omega) | omega) _) | (with_reducible refine Below.alloc ?_ (by first | exact HW.out.size | (simp; done) | (simp; omega) | omega) _)))⟩

set_option maxRecDepth 100000 in
set_option maxHeartbeats 1000000 in
theorem rDearest_arg (ns ss : List Int) (A B : Option Addr) (c d : Nat) (p q : Int) (w : World) (hA : Ints w A ns) (hB : Ints w B ss) (hv : odB ns ss = true) (hp : okP p q = false) :
    Calls Try.prog 35 #[.agg #[.slice A ns.length c, .slice B ss.length d], .agg #[.int .i64 p, .int .i64 q]] w fun e w' => e = .returned (.tuple #[.slice none 0 0, .int .i64 2]) ∧ Below w.heap.size w w' := by
  obtain ⟨hl, hl2⟩ := (od_of hv).l3
  have HA := Lib.hid hA
  have HB := Lib.hid hB
  have HV := Lib.hid hv
  clear hA hB hv
  have HP := Lib.hid hp
  clear hp
  obtain ⟨W0, hW0, HW, H0, H1, z0, z1⟩ := two_new w #[.slice A ns.length c, .slice B ss.length d] #[.int .i64 p, .int .i64 q] 24 28
  go_enter Try.func35, Try.ntmps35
  go_wp2_with (first
    | (go_at_call 22; with_reducible refine (refValid_any ns ss _ _ _ _ _ (HA.out.below (by repeat (first | with_reducible exact Below.refl _ _ | with_reducible assumption | refine below_drewN ?_ _ | with_reducible refine Below.drew ?_ | (refine Below.setCell ?_ (by first | (simp; done) | (simp; omega) | omega) _) | (refine Below.alloc ?_ (by first | (simp; done) | (simp; omega) | omega) _)))) (HB.out.below (by repeat (first | with_reducible exact Below.refl _ _ | with_reducible assumption | refine below_drewN ?_ _ | with_reducible refine Below.drew ?_ | (refine Below.setCell ?_ (by first | (simp; done) | (simp; omega) | omega) _) | (refine Below.alloc ?_ (by first | (simp; done) | (simp; omega) | omega) _)))) hl hl2).mono ?_; rintro e w1 ⟨rfl, hB1⟩; rw [← hW0] at hB1; rw [HV.out]; have H0 := Lib.hid ((hB1.block _ z0).trans H0.out); have z0 := Nat.lt_of_lt_of_le z0 hB1.size; have b0 : World.cell? _ ⟨_, 0, none⟩ = some (.slice A ns.length c) := blk_cell H0.out 0 rfl; have b1 : World.cell? _ ⟨_, 1, none⟩ = some (.slice B ss.length d) := blk_cell H0.out 1 rfl; have H1 := Lib.hid ((hB1.block _ z1).trans H1.out); have z1 := Nat.lt_of_lt_of_le z1 hB1.size; have r0 : World.cell? _ ⟨_, 0, none⟩ = some (.int .i64 p) := blk_cell H1.out 0 rfl; have r1 : World.cell? _ ⟨_, 1, none⟩ = some (.int .i64 q) := blk_cell H1.out 1 rfl; have HW : Hid (Below w.heap.size w _) := Lib.hid (below_step (by first | exact HW.out | exact Below.drew HW.out | exact below_drewN HW.out _) hB1); clear hB1)
    | (go_at_call 56; with_reducible refine (isPrice_any p q _).mono ?_; rintro e w2 ⟨rfl, hB2⟩; rw [HP.out]; have H0 := Lib.hid ((hB2.block _ z0).trans H0.out); have z0 := Nat.lt_of_lt_of_le z0 hB2.size; have b0 : World.cell? _ ⟨_, 0, none⟩ = some (.slice A ns.length c) := blk_cell H0.out 0 rfl; have b1 : World.cell? _ ⟨_, 1, none⟩ = some (.slice B ss.length d) := blk_cell H0.out 1 rfl; have H1 := Lib.hid ((hB2.block _ z1).trans H1.out); have z1 := Nat.lt_of_lt_of_le z1 hB2.size; have r0 : World.cell? _ ⟨_, 0, none⟩ = some (.int .i64 p) := blk_cell H1.out 0 rfl; have r1 : World.cell? _ ⟨_, 1, none⟩ = some (.int .i64 q) := blk_cell H1.out 1 rfl; have HW : Hid (Below w.heap.size w _) := Lib.hid (below_step (by first | exact HW.out | exact Below.drew HW.out | exact below_drewN HW.out _) hB2); clear hB2))
  go_ret2
  exact ⟨rfl, (by repeat (first | with_reducible exact HW.out | with_reducible exact Below.refl _ _ | with_reducible refine below_drewN ?_ _ | with_reducible refine Below.drew ?_ | (with_reducible refine Below.setCell ?_ (by first | exact Nat.le_refl _ | exact Nat.le_succ _ | (simp; done) | (simp; omega) | omega) _) | (with_reducible refine Below.alloc ?_ (by first | exact HW.out.size | (simp; done) | (simp; omega) | omega) _)))⟩

set_option maxRecDepth 100000 in
set_option maxHeartbeats 1000000 in
theorem rDearest_yes (ns ss : List Int) (A B : Option Addr) (c d : Nat) (p q : Int) (w : World) (hA : Ints w A ns) (hB : Ints w B ss) (hv : odB ns ss = true) (hp : okP p q = true) :
    Calls Try.prog 35 #[.agg #[.slice A ns.length c, .slice B ss.length d], .agg #[.int .i64 p, .int .i64 q]] w fun e w' => ∃ D' e', e = .returned (.tuple #[.slice D' (deL ns ss p q).length e', .int .i64 0]) ∧ Out w' D' e' (deL ns ss p q) ∧ Below w.heap.size w w' := by
  have ho := od_of hv
  have hpp := okP_of hp
  obtain ⟨hl, hl2⟩ := (od_of hv).l3
  have HA := Lib.hid hA
  have HB := Lib.hid hB
  have HV := Lib.hid hv
  clear hA hB hv
  have HP := Lib.hid hp
  clear hp
  obtain ⟨W0, hW0, HW, H0, H1, z0, z1⟩ := two_new w #[.slice A ns.length c, .slice B ss.length d] #[.int .i64 p, .int .i64 q] 24 28
  go_enter Try.func35, Try.ntmps35
  go_wp2_with (first
    | (go_at_call 22; with_reducible refine (refValid_any ns ss _ _ _ _ _ (HA.out.below (by repeat (first | with_reducible exact Below.refl _ _ | with_reducible assumption | refine below_drewN ?_ _ | with_reducible refine Below.drew ?_ | (refine Below.setCell ?_ (by first | (simp; done) | (simp; omega) | omega) _) | (refine Below.alloc ?_ (by first | (simp; done) | (simp; omega) | omega) _)))) (HB.out.below (by repeat (first | with_reducible exact Below.refl _ _ | with_reducible assumption | refine below_drewN ?_ _ | with_reducible refine Below.drew ?_ | (refine Below.setCell ?_ (by first | (simp; done) | (simp; omega) | omega) _) | (refine Below.alloc ?_ (by first | (simp; done) | (simp; omega) | omega) _)))) hl hl2).mono ?_; rintro e w1 ⟨rfl, hB1⟩; rw [← hW0] at hB1; rw [HV.out]; have H0 := Lib.hid ((hB1.block _ z0).trans H0.out); have z0 := Nat.lt_of_lt_of_le z0 hB1.size; have b0 : World.cell? _ ⟨_, 0, none⟩ = some (.slice A ns.length c) := blk_cell H0.out 0 rfl; have b1 : World.cell? _ ⟨_, 1, none⟩ = some (.slice B ss.length d) := blk_cell H0.out 1 rfl; have H1 := Lib.hid ((hB1.block _ z1).trans H1.out); have z1 := Nat.lt_of_lt_of_le z1 hB1.size; have r0 : World.cell? _ ⟨_, 0, none⟩ = some (.int .i64 p) := blk_cell H1.out 0 rfl; have r1 : World.cell? _ ⟨_, 1, none⟩ = some (.int .i64 q) := blk_cell H1.out 1 rfl; have HW : Hid (Below w.heap.size w _) := Lib.hid (below_step (by first | exact HW.out | exact Below.drew HW.out | exact below_drewN HW.out _) hB1); clear hB1)
    | (go_at_call 56; with_reducible refine (isPrice_any p q _).mono ?_; rintro e w2 ⟨rfl, hB2⟩; rw [HP.out]; have H0 := Lib.hid ((hB2.block _ z0).trans H0.out); have z0 := Nat.lt_of_lt_of_le z0 hB2.size; have b0 : World.cell? _ ⟨_, 0, none⟩ = some (.slice A ns.length c) := blk_cell H0.out 0 rfl; have b1 : World.cell? _ ⟨_, 1, none⟩ = some (.slice B ss.length d) := blk_cell H0.out 1 rfl; have H1 := Lib.hid ((hB2.block _ z1).trans H1.out); have z1 := Nat.lt_of_lt_of_le z1 hB2.size; have r0 : World.cell? _ ⟨_, 0, none⟩ = some (.int .i64 p) := blk_cell H1.out 0 rfl; have r1 : World.cell? _ ⟨_, 1, none⟩ = some (.int .i64 q) := blk_cell H1.out 1 rfl; have HW : Hid (Below w.heap.size w _) := Lib.hid (below_step (by first | exact HW.out | exact Below.drew HW.out | exact below_drewN HW.out _) hB2); clear hB2)
    | (go_at_call 88; with_reducible refine (refdear_any ns ss A B c d ho p q hpp _ (HA.out.below (by repeat (first | with_reducible exact HW.out | with_reducible exact Below.refl _ _ | with_reducible refine below_drewN ?_ _ | with_reducible refine Below.drew ?_ | (with_reducible refine Below.setCell ?_ (by first | exact Nat.le_refl _ | exact Nat.le_succ _ | (simp; done) | (simp; omega) | omega) _) | (with_reducible refine Below.alloc ?_ (by first | exact HW.out.size | (simp; done) | (simp; omega) | omega) _)))) (HB.out.below (by repeat (first | with_reducible exact HW.out | with_reducible exact Below.refl _ _ | with_reducible refine below_drewN ?_ _ | with_reducible refine Below.drew ?_ | (with_reducible refine Below.setCell ?_ (by first | exact Nat.le_refl _ | exact Nat.le_succ _ | (simp; done) | (simp; omega) | omega) _) | (with_reducible refine Below.alloc ?_ (by first | exact HW.out.size | (simp; done) | (simp; omega) | omega) _))))).mono ?_; rintro e w4 ⟨D', e', rfl, hO4, hB4⟩; have HW : Hid (Below w.heap.size w _) := Lib.hid (below_step (by first | exact HW.out | exact Below.drew HW.out | exact below_drewN HW.out _) hB4); clear hB4))
  go_ret2
  exact ⟨D', e', rfl, hO4, (by repeat (first | with_reducible exact HW.out | with_reducible exact Below.refl _ _ | with_reducible refine below_drewN ?_ _ | with_reducible refine Below.drew ?_ | (with_reducible refine Below.setCell ?_ (by first | exact Nat.le_refl _ | exact Nat.le_succ _ | (simp; done) | (simp; omega) | omega) _) | (with_reducible refine Below.alloc ?_ (by first | exact HW.out.size | (simp; done) | (simp; omega) | omega) _)))⟩
end Go.Proofs.Ytolpbbabmcpdkaa
