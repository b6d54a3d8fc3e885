/-
  The walk of WeighFar: it returns true, whatever it is given.
-/
import Derived.Test.YtolpbbabmcpdkaaKeptLaw
import Derived.Test.YtolpbbabmcpdkaaWGain
import Derived.Test.YtolpbbabmcpdkaaWDearest
import Derived.Test.YtolpbbabmcpdkaaWApart
import Derived.Test.YtolpbbabmcpdkaaClone
import Derived.Test.YtolpbbabmcpdkaaSane
set_option linter.unusedVariables false
set_option linter.unusedSimpArgs false
namespace Go.Proofs.Ytolpbbabmcpdkaa
open Go.RowKit Go.Shelf

theorem heap_alloc_atF {w : World} {x : Obj} {g : Nat} (h : g = w.heap.size) : (w.alloc x).heap[g]? = some x := by subst h; exact heap_alloc_new w x
theorem tg_max {ns ss : List Int} {p q : Int} {cs : List Int} (h : cutB ns.length cs = true) : tgV ns ss p q cs ≤ tgV ns ss p q (deL ns ss p q) := by
  rw [cut_of h, deL, tg_mS, tg_mS]
  refine sum_mono _ _ _ (fun i _ => ?_)
  by_cases h1 : 0 < gnV ns ss p q i
  · rw [decide_eq_true h1, if_pos rfl]; split <;> omega
  · rw [decide_eq_false h1]; simp only [Bool.false_eq_true, if_false]; split <;> omega
theorem low_nl {a b s : Int} (hs : 0 < s) : (lowN a s * lowD b s < lowN b s * lowD a s) ↔ a < b := by
  rw [low_cross hs hs]
  exact ⟨fun h => Int.lt_of_mul_lt_mul_right h (by omega), fun h => Int.mul_lt_mul_of_pos_right h hs⟩
theorem low_two {x y : Int} : lowN (2 * x) (2 * y) = lowN x y ∧ lowD (2 * x) (2 * y) = lowD x y := by
  have h : (Int.gcd (2 * x) (2 * y) : Int) = 2 * (Int.gcd x y : Int) := by
    rw [Int.gcd_mul_left]; rfl
  unfold lowN lowD
  rw [h]
  exact ⟨Int.mul_ediv_mul_of_pos _ _ (by omega), Int.mul_ediv_mul_of_pos _ _ (by omega)⟩
theorem low_abs {k s : Int} (hs : 0 < s) (h : -1000000000 ≤ k ∧ k ≤ 1000000000) : -1000000000 ≤ lowN k s ∧ lowN k s ≤ 1000000000 := by
  have hg := gcd_pos (n := k) hs
  obtain ⟨e, _⟩ := low_mul (k := k) hs
  generalize (Int.gcd k s : Int) = g at *
  generalize lowN k s = q at *
  by_cases hq : 0 ≤ q
  · have : q * 1 ≤ q * g := Int.mul_le_mul_of_nonneg_left (by omega) hq
    omega
  · have : q * g ≤ q * 1 := Int.mul_le_mul_of_nonpos_left (by omega) (by omega)
    omega
theorem tg_one (ns ss cs : List Int) : tgV ns ss 1 1 cs = keptL ss cs * ns.sum - keptL ns cs * ss.sum := by
  induction cs with
  | nil => simp [tgV, keptL]
  | cons a t ih =>
    have e1 : tgV ns ss 1 1 (a :: t) = gnV ns ss 1 1 a.toNat + tgV ns ss 1 1 t := by simp [tgV]
    have e2 : keptL ss (a :: t) = ss.getD a.toNat 0 + keptL ss t := by simp [keptL]
    have e3 : keptL ns (a :: t) = ns.getD a.toNat 0 + keptL ns t := by simp [keptL]
    rw [e1, e2, e3, ih]
    unfold gnV
    grind
/-- The differences of the first outcomes, added up. -/
def twK (ns ss : List Int) (k : Nat) : Int := (((prL ns ss).take k).map fun p => twSum.absW (gnI ns.sum ss.sum p)).sum
theorem twK_succ {ns ss : List Int} {k : Nat} (h : k < ns.length) : twK ns ss (k + 1) = twK ns ss k + twSum.absW (ss.getD k 0 * ns.sum - ns.getD k 0 * ss.sum) := by
  unfold twK
  rw [take_snoc (z := (ns.getD k 0, ss.getD k 0)) (by unfold prL; rw [List.getElem?_map, List.getElem?_range h]; rfl)]
  simp [gnI]
theorem twK_all {ns ss : List Int} (h : ns.length = ss.length) : twK ns ss ns.length = 2 * apV ns ss := by
  unfold twK
  rw [List.take_of_length_le (by simp [prL]), ap_sum h, ← tw_ap]
  unfold twSum
  rw [prL_s1, prL_s2 h]
theorem twK_bd {ns ss : List Int} (ho : Od ns ss) : ∀ k, k ≤ ns.length → 0 ≤ twK ns ss k ∧ twK ns ss k ≤ 20000000 * k := by
  intro k
  induction k with
  | zero => intro _; simp [twK]
  | succ k ih =>
    intro hk
    have i := ih (by omega)
    have b1 := getD_bd (C := 1000) (by omega) ho.nb k
    have b2 := getD_bd (C := 1000) (by omega) ho.sb k
    have h0 := ho.np; have h1 := ho.nm; have h2 := ho.sp; have h3 := ho.sm
    obtain ⟨m0, m1⟩ := mul_bd (a := ss.getD k 0) (b := ns.sum) (A := 1000) (B := 10000) b2.1 b2.2 (by omega) h1
    obtain ⟨m2, m3⟩ := mul_bd (a := ns.getD k 0) (b := ss.sum) (A := 1000) (B := 10000) b1.1 b1.2 (by omega) h3
    rw [twK_succ (by omega)]
    unfold twSum.absW
    omega
set_option maxRecDepth 100000 in
set_option maxHeartbeats 4000000 in
theorem wf_long (A : Option Addr) (c : Nat) (ns : List Int) (B : Option Addr) (d : Nat) (ss : List Int) (cs : List Int) (C : Option Addr) (e1 : Nat) (w : World)
    (hA : Ints w A ns) (hB : Ints w B ss) (hC : Ints w C cs) (hl : (decide (60 < ns.length) || decide (60 < ss.length)) = true) :
    Calls Try.prog 11 #[.agg #[.slice A ns.length c, .slice B ss.length d], .slice C cs.length e1] w fun e w' => e = .returned (.bool true) ∧ Below w.heap.size w w' := by
  have HA := Lib.hid hA
  have HB := Lib.hid hB
  have HC := Lib.hid hC
  clear hA hB hC
  obtain ⟨W0, hW0, HW, H0, z0⟩ := one_new w #[.slice A ns.length c, .slice B ss.length d] 24
  have HL := Lib.hid hl
  clear hl
  go_enter Try.func11, Try.ntmps11
  go_wp2_with (first
    | (go_at_call 15; with_reducible refine (long_any ns ss _ _ _ _ _).mono ?_; rintro e v1 ⟨rfl, hB1⟩; rw [← hW0] at hB1; have H0 := Lib.hid ((hB1.block _ z0).trans H0.out); have z0 := Nat.lt_of_lt_of_le z0 hB1.size; have b0 : World.cell? _ ⟨_, 0, none⟩ = some (.slice A ns.length c) := blk_cell H0.out 0 rfl; have b1 : World.cell? _ ⟨_, 1, none⟩ = some (.slice B ss.length d) := blk_cell H0.out 1 rfl; have HW : Hid (Below w.heap.size w _) := Lib.hid (below_step (by first | exact HW.out | exact Below.drew HW.out | exact below_drewN HW.out _) hB1); clear hB1; rw [HL.out])
    | (go_at_call 16; with_reducible refine (awake_any _).mono ?_; rintro e v2 ⟨rfl, hB2⟩; have H0 := Lib.hid ((hB2.block _ z0).trans H0.out); have z0 := Nat.lt_of_lt_of_le z0 hB2.size; have b0 : World.cell? _ ⟨_, 0, none⟩ = some (.slice A ns.length c) := blk_cell H0.out 0 rfl; have b1 : World.cell? _ ⟨_, 1, none⟩ = some (.slice B ss.length d) := blk_cell H0.out 1 rfl; have HW : Hid (Below w.heap.size w _) := Lib.hid (below_step (by first | exact HW.out | exact Below.drew HW.out | exact below_drewN HW.out _) hB2); clear hB2))
  go_ret
  exact ⟨rfl, (by repeat (first | with_reducible exact HW.out | with_reducible exact Below.refl _ _ | with_reducible refine below_drewN ?_ _ | with_reducible refine Below.drew ?_ | (with_reducible refine Below.setCell ?_ (by first | exact Nat.le_refl _ | exact Nat.le_succ _ | (simp; done) | (simp; omega) | omega) _) | (with_reducible refine Below.alloc ?_ (by first | exact HW.out.size | (simp; done) | (simp; omega) | omega) _)))⟩
set_option maxRecDepth 100000 in
set_option maxHeartbeats 4000000 in
theorem wf_l3 (A : Option Addr) (c : Nat) (ns : List Int) (B : Option Addr) (d : Nat) (ss : List Int) (cs : List Int) (C : Option Addr) (e1 : Nat) (w : World)
    (hA : Ints w A ns) (hB : Ints w B ss) (hC : Ints w C cs) (hl : (decide (60 < ns.length) || decide (60 < ss.length)) = false) (h3 : 60 < cs.length) :
    Calls Try.prog 11 #[.agg #[.slice A ns.length c, .slice B ss.length d], .slice C cs.length e1] w fun e w' => e = .returned (.bool true) ∧ Below w.heap.size w w' := by
  have HA := Lib.hid hA
  have HB := Lib.hid hB
  have HC := Lib.hid hC
  clear hA hB hC
  obtain ⟨W0, hW0, HW, H0, z0⟩ := one_new w #[.slice A ns.length c, .slice B ss.length d] 24
  have HL := Lib.hid hl
  clear hl
  have t3 : decide ((60 : Int) < (cs.length : Int)) = true := decide_eq_true (by omega)
  go_enter Try.func11, Try.ntmps11
  go_wp2_with (first
    | (go_at_call 15; with_reducible refine (long_any ns ss _ _ _ _ _).mono ?_; rintro e v1 ⟨rfl, hB1⟩; rw [← hW0] at hB1; have H0 := Lib.hid ((hB1.block _ z0).trans H0.out); have z0 := Nat.lt_of_lt_of_le z0 hB1.size; have b0 : World.cell? _ ⟨_, 0, none⟩ = some (.slice A ns.length c) := blk_cell H0.out 0 rfl; have b1 : World.cell? _ ⟨_, 1, none⟩ = some (.slice B ss.length d) := blk_cell H0.out 1 rfl; have HW : Hid (Below w.heap.size w _) := Lib.hid (below_step (by first | exact HW.out | exact Below.drew HW.out | exact below_drewN HW.out _) hB1); clear hB1; rw [HL.out])
    | (go_at_call 16; with_reducible refine (awake_any _).mono ?_; rintro e v2 ⟨rfl, hB2⟩; have H0 := Lib.hid ((hB2.block _ z0).trans H0.out); have z0 := Nat.lt_of_lt_of_le z0 hB2.size; have b0 : World.cell? _ ⟨_, 0, none⟩ = some (.slice A ns.length c) := blk_cell H0.out 0 rfl; have b1 : World.cell? _ ⟨_, 1, none⟩ = some (.slice B ss.length d) := blk_cell H0.out 1 rfl; have HW : Hid (Below w.heap.size w _) := Lib.hid (below_step (by first | exact HW.out | exact Below.drew HW.out | exact below_drewN HW.out _) hB2); clear hB2))
  go_ret
  exact ⟨rfl, (by repeat (first | with_reducible exact HW.out | with_reducible exact Below.refl _ _ | with_reducible refine below_drewN ?_ _ | with_reducible refine Below.drew ?_ | (with_reducible refine Below.setCell ?_ (by first | exact Nat.le_refl _ | exact Nat.le_succ _ | (simp; done) | (simp; omega) | omega) _) | (with_reducible refine Below.alloc ?_ (by first | exact HW.out.size | (simp; done) | (simp; omega) | omega) _)))⟩
set_option maxRecDepth 100000 in
set_option maxHeartbeats 4000000 in
theorem wf_v (A : Option Addr) (c : Nat) (ns : List Int) (B : Option Addr) (d : Nat) (ss : List Int) (cs : List Int) (C : Option Addr) (e1 : Nat) (w : World)
    (hA : Ints w A ns) (hB : Ints w B ss) (hC : Ints w C cs) (hl : (decide (60 < ns.length) || decide (60 < ss.length)) = false) (h3 : ¬ 60 < cs.length) (hl1 : ns.length ≤ 1000) (hl2 : ss.length ≤ 1000) (hv : odB ns ss = false) :
    Calls Try.prog 11 #[.agg #[.slice A ns.length c, .slice B ss.length d], .slice C cs.length e1] w fun e w' => e = .returned (.bool true) ∧ Below w.heap.size w w' := by
  have HA := Lib.hid hA
  have HB := Lib.hid hB
  have HC := Lib.hid hC
  clear hA hB hC
  obtain ⟨W0, hW0, HW, H0, z0⟩ := one_new w #[.slice A ns.length c, .slice B ss.length d] 24
  have HL := Lib.hid hl
  clear hl
  have t3 : decide ((60 : Int) < (cs.length : Int)) = false := decide_eq_false (by omega)
  have HV := Lib.hid hv
  clear hv
  go_enter Try.func11, Try.ntmps11
  go_wp2_with (first
    | (go_at_call 15; with_reducible refine (long_any ns ss _ _ _ _ _).mono ?_; rintro e v1 ⟨rfl, hB1⟩; rw [← hW0] at hB1; have H0 := Lib.hid ((hB1.block _ z0).trans H0.out); have z0 := Nat.lt_of_lt_of_le z0 hB1.size; have b0 : World.cell? _ ⟨_, 0, none⟩ = some (.slice A ns.length c) := blk_cell H0.out 0 rfl; have b1 : World.cell? _ ⟨_, 1, none⟩ = some (.slice B ss.length d) := blk_cell H0.out 1 rfl; have HW : Hid (Below w.heap.size w _) := Lib.hid (below_step (by first | exact HW.out | exact Below.drew HW.out | exact below_drewN HW.out _) hB1); clear hB1; rw [HL.out])
    | (go_at_call 22; with_reducible refine (refValid_any ns ss _ _ _ _ _ (HA.out.below HW.out) (HB.out.below HW.out) hl1 hl2).mono ?_; rintro e v2 ⟨rfl, hB2⟩; have H0 := Lib.hid ((hB2.block _ z0).trans H0.out); have z0 := Nat.lt_of_lt_of_le z0 hB2.size; have b0 : World.cell? _ ⟨_, 0, none⟩ = some (.slice A ns.length c) := blk_cell H0.out 0 rfl; have b1 : World.cell? _ ⟨_, 1, none⟩ = some (.slice B ss.length d) := blk_cell H0.out 1 rfl; have HW : Hid (Below w.heap.size w _) := Lib.hid (below_step (by first | exact HW.out | exact Below.drew HW.out | exact below_drewN HW.out _) hB2); clear hB2; rw [HV.out])
    | (go_at_call 16; with_reducible refine (awake_any _).mono ?_; rintro e v3 ⟨rfl, hB3⟩; have H0 := Lib.hid ((hB3.block _ z0).trans H0.out); have z0 := Nat.lt_of_lt_of_le z0 hB3.size; have b0 : World.cell? _ ⟨_, 0, none⟩ = some (.slice A ns.length c) := blk_cell H0.out 0 rfl; have b1 : World.cell? _ ⟨_, 1, none⟩ = some (.slice B ss.length d) := blk_cell H0.out 1 rfl; have HW : Hid (Below w.heap.size w _) := Lib.hid (below_step (by first | exact HW.out | exact Below.drew HW.out | exact below_drewN HW.out _) hB3); clear hB3))
  go_ret
  exact ⟨rfl, (by repeat (first | with_reducible exact HW.out | with_reducible exact Below.refl _ _ | with_reducible refine below_drewN ?_ _ | with_reducible refine Below.drew ?_ | (with_reducible refine Below.setCell ?_ (by first | exact Nat.le_refl _ | exact Nat.le_succ _ | (simp; done) | (simp; omega) | omega) _) | (with_reducible refine Below.alloc ?_ (by first | exact HW.out.size | (simp; done) | (simp; omega) | omega) _)))⟩
set_option maxRecDepth 100000 in
set_option maxHeartbeats 4000000 in
theorem wf_no (A : Option Addr) (c : Nat) (ns : List Int) (B : Option Addr) (d : Nat) (ss : List Int) (cs : List Int) (C : Option Addr) (e1 : Nat) (w : World)
    (hA : Ints w A ns) (hB : Ints w B ss) (hC : Ints w C cs) (hl : (decide (60 < ns.length) || decide (60 < ss.length)) = false) (h3 : ¬ 60 < cs.length) (hl1 : ns.length ≤ 1000) (hl2 : ss.length ≤ 1000) (hv : odB ns ss = true) (hq : cutB ns.length cs = false) :
    Calls Try.prog 11 #[.agg #[.slice A ns.length c, .slice B ss.length d], .slice C cs.length e1] w fun e w' => e = .returned (.bool true) ∧ Below w.heap.size w w' := by
  have HA := Lib.hid hA
  have HB := Lib.hid hB
  have HC := Lib.hid hC
  clear hA hB hC
  obtain ⟨W0, hW0, HW, H0, z0⟩ := one_new w #[.slice A ns.length c, .slice B ss.length d] 24
  have HL := Lib.hid hl
  clear hl
  have t3 : decide ((60 : Int) < (cs.length : Int)) = false := decide_eq_false (by omega)
  have hl3 : cs.length ≤ 1000 := by omega
  have ho := od_of hv
  have hpp := okP_of one_ok
  have hvs : odB ss ns = true := by rw [odB_swap]; exact hv
  obtain ⟨a0, a1, a2, a3⟩ := ap_bds ho
  have HDC : Hid (cutB ns.length (deL ns ss 1 1) = true) := Lib.hid (ofM_cut _ _)
  have hsw := ap_swap' ho.len
  have hun := un_one ns ss
  have hmc : ns.sum * ss.sum = unV ns ss 1 := by rw [hun, Int.mul_comm]
  have HTW := Lib.hid (twK_all (ns := ns) (ss := ss) ho.len)
  have hS1 := sm_low a0 a1 a2 (by omega)
  obtain ⟨P, hP⟩ : ∃ x, lowN (apV ns ss) (unV ns ss 1) = x := ⟨_, rfl⟩
  obtain ⟨Q, hQ⟩ : ∃ x, lowD (apV ns ss) (unV ns ss 1) = x := ⟨_, rfl⟩
  have HP := Lib.hid hP
  have HQ0 := Lib.hid hQ
  have HG : Hid (lowN (tgV ns ss 1 1 (deL ns ss 1 1)) (unV ns ss 1) = P ∧ lowD (tgV ns ss 1 1 (deL ns ss 1 1)) (unV ns ss 1) = Q) := Lib.hid ⟨hP, hQ⟩
  have HSW : Hid (lowN (apV ss ns) (unV ss ns 1) = P ∧ lowD (apV ss ns) (unV ss ns 1) = Q) := Lib.hid (by rw [hsw.1, hsw.2]; exact ⟨hP, hQ⟩)
  have HLT : Hid (lowN (2 * apV ns ss) (2 * (ns.sum * ss.sum)) = P ∧ lowD (2 * apV ns ss) (2 * (ns.sum * ss.sum)) = Q) := Lib.hid (by rw [hmc, low_two.1, low_two.2]; exact ⟨hP, hQ⟩)
  rw [hP, hQ] at hS1
  have S1 := Lib.hid hS1
  have bP := sm_of hS1
  have HV := Lib.hid hv
  have HVS := Lib.hid hvs
  have ha0 : 0 ≤ apV ns ss := a0
  have ha1 : apV ns ss ≤ 100000000 := by omega
  have hm0 : 0 < ns.sum * ss.sum := by omega
  have hm1 : ns.sum * ss.sum ≤ 100000000 := by omega
  have hw2 : IntKind.i64.wrap (2 * (ns.sum * ss.sum)) = 2 * (ns.sum * ss.sum) := IntWalk.i64_in _ (by omega)
  have HQ := Lib.hid hq
  clear hv hvs hq a0 a1 a2 a3 hsw hun hmc hS1 hP hQ bP
  go_enter Try.func11, Try.ntmps11
  go_wp2_with (first
    | (go_at_call 15; with_reducible refine (long_any ns ss _ _ _ _ _).mono ?_; rintro e v1 ⟨rfl, hB1⟩; rw [← hW0] at hB1; have H0 := Lib.hid ((hB1.block _ z0).trans H0.out); have z0 := Nat.lt_of_lt_of_le z0 hB1.size; have b0 : World.cell? _ ⟨_, 0, none⟩ = some (.slice A ns.length c) := blk_cell H0.out 0 rfl; have b1 : World.cell? _ ⟨_, 1, none⟩ = some (.slice B ss.length d) := blk_cell H0.out 1 rfl; have HW : Hid (Below w.heap.size w _) := Lib.hid (below_step (by first | exact HW.out | exact Below.drew HW.out | exact below_drewN HW.out _) hB1); clear hB1; rw [HL.out])
    | (go_at_call 22; with_reducible refine (refValid_any ns ss _ _ _ _ _ (HA.out.below HW.out) (HB.out.below HW.out) hl1 hl2).mono ?_; rintro e v2 ⟨rfl, hB2⟩; have H0 := Lib.hid ((hB2.block _ z0).trans H0.out); have z0 := Nat.lt_of_lt_of_le z0 hB2.size; have b0 : World.cell? _ ⟨_, 0, none⟩ = some (.slice A ns.length c) := blk_cell H0.out 0 rfl; have b1 : World.cell? _ ⟨_, 1, none⟩ = some (.slice B ss.length d) := blk_cell H0.out 1 rfl; have HW : Hid (Below w.heap.size w _) := Lib.hid (below_step (by first | exact HW.out | exact Below.drew HW.out | exact below_drewN HW.out _) hB2); clear hB2; rw [HV.out])
    | (go_at_call 44; with_reducible refine (wApart_yes ns ss _ _ _ _ _ (HA.out.below (by repeat (first | with_reducible exact HW.out | with_reducible exact Below.refl _ _ | with_reducible refine below_drewN ?_ _ | with_reducible refine Below.drew ?_ | (with_reducible refine Below.setCell ?_ (by first | exact Nat.le_refl _ | exact Nat.le_succ _ | (simp; done) | (simp; omega) | omega) _) | (with_reducible refine Below.alloc ?_ (by first | exact HW.out.size | (simp; done) | (simp; omega) | omega) _)))) (HB.out.below (by repeat (first | with_reducible exact HW.out | with_reducible exact Below.refl _ _ | with_reducible refine below_drewN ?_ _ | with_reducible refine Below.drew ?_ | (with_reducible refine Below.setCell ?_ (by first | exact Nat.le_refl _ | exact Nat.le_succ _ | (simp; done) | (simp; omega) | omega) _) | (with_reducible refine Below.alloc ?_ (by first | exact HW.out.size | (simp; done) | (simp; omega) | omega) _)))) HV.out).mono ?_; rintro e v3 ⟨rfl, hB3⟩; have hZ : v2.heap.size < (v2.alloc (.cells #[.int .i64 1, .int .i64 1] 28)).heap.size := (by simp); have H0 := Lib.hid ((Below.heap_alloc v2 (.cells #[.int .i64 1, .int .i64 1] 28) _ z0).trans H0.out); have z0 := Nat.lt_trans z0 hZ; have KI := Lib.hid (heap_alloc_atF (w := v2) (x := (.cells #[.int .i64 1, .int .i64 1] 28)) (g := v2.heap.size) (by first | rfl | simp)); have yI := (Array.getElem?_eq_some_iff.1 KI.out).1; have HW : Hid (Below w.heap.size w _) := Lib.hid (Below.alloc HW.out HW.out.size (.cells #[.int .i64 1, .int .i64 1] 28)); clear hZ; have b0 : World.cell? _ ⟨_, 0, none⟩ = some (.slice A ns.length c) := blk_cell H0.out 0 rfl; have b1 : World.cell? _ ⟨_, 1, none⟩ = some (.slice B ss.length d) := blk_cell H0.out 1 rfl; have I0 : World.cell? _ ⟨_, 0, none⟩ = some (.int .i64 1) := blk_cell KI.out 0 rfl; have I1 : World.cell? _ ⟨_, 1, none⟩ = some (.int .i64 1) := blk_cell KI.out 1 rfl; have H0 := Lib.hid ((hB3.block _ z0).trans H0.out); have z0 := Nat.lt_of_lt_of_le z0 hB3.size; have b0 : World.cell? _ ⟨_, 0, none⟩ = some (.slice A ns.length c) := blk_cell H0.out 0 rfl; have b1 : World.cell? _ ⟨_, 1, none⟩ = some (.slice B ss.length d) := blk_cell H0.out 1 rfl; have KI := Lib.hid ((hB3.block _ yI).trans KI.out); have yI := Nat.lt_of_lt_of_le yI hB3.size; have I0 : World.cell? _ ⟨_, 0, none⟩ = some (.int .i64 1) := blk_cell KI.out 0 rfl; have I1 : World.cell? _ ⟨_, 1, none⟩ = some (.int .i64 1) := blk_cell KI.out 1 rfl; have HW : Hid (Below w.heap.size w _) := Lib.hid (below_step (by first | exact HW.out | exact Below.drew HW.out | exact below_drewN HW.out _) hB3); clear hB3; rw [HP.out, HQ0.out])
    | (go_at_call 34; with_reducible refine (wDearest_yes ns ss _ _ _ _ 1 1 _ (HA.out.below (by repeat (first | with_reducible exact HW.out | with_reducible exact Below.refl _ _ | with_reducible refine below_drewN ?_ _ | with_reducible refine Below.drew ?_ | (with_reducible refine Below.setCell ?_ (by first | exact Nat.le_refl _ | exact Nat.le_succ _ | (simp; done) | (simp; omega) | omega) _) | (with_reducible refine Below.alloc ?_ (by first | exact HW.out.size | (simp; done) | (simp; omega) | omega) _)))) (HB.out.below (by repeat (first | with_reducible exact HW.out | with_reducible exact Below.refl _ _ | with_reducible refine below_drewN ?_ _ | with_reducible refine Below.drew ?_ | (with_reducible refine Below.setCell ?_ (by first | exact Nat.le_refl _ | exact Nat.le_succ _ | (simp; done) | (simp; omega) | omega) _) | (with_reducible refine Below.alloc ?_ (by first | exact HW.out.size | (simp; done) | (simp; omega) | omega) _)))) HV.out one_ok).mono ?_; rintro e v4 ⟨D', e', rfl, hO4, hB4⟩; have hZ : v3.heap.size < (v3.alloc (.cells #[.int .i64 P, .int .i64 Q] 28)).heap.size := (by simp); have H0 := Lib.hid ((Below.heap_alloc v3 (.cells #[.int .i64 P, .int .i64 Q] 28) _ z0).trans H0.out); have z0 := Nat.lt_trans z0 hZ; have KI := Lib.hid ((Below.heap_alloc v3 (.cells #[.int .i64 P, .int .i64 Q] 28) _ yI).trans KI.out); have yI := Nat.lt_trans yI hZ; have KP := Lib.hid (heap_alloc_atF (w := v3) (x := (.cells #[.int .i64 P, .int .i64 Q] 28)) (g := v3.heap.size) (by first | rfl | simp)); have yP := (Array.getElem?_eq_some_iff.1 KP.out).1; have HW : Hid (Below w.heap.size w _) := Lib.hid (Below.alloc HW.out HW.out.size (.cells #[.int .i64 P, .int .i64 Q] 28)); clear hZ; have b0 : World.cell? _ ⟨_, 0, none⟩ = some (.slice A ns.length c) := blk_cell H0.out 0 rfl; have b1 : World.cell? _ ⟨_, 1, none⟩ = some (.slice B ss.length d) := blk_cell H0.out 1 rfl; have I0 : World.cell? _ ⟨_, 0, none⟩ = some (.int .i64 1) := blk_cell KI.out 0 rfl; have I1 : World.cell? _ ⟨_, 1, none⟩ = some (.int .i64 1) := blk_cell KI.out 1 rfl; have P0 : World.cell? _ ⟨_, 0, none⟩ = some (.int .i64 P) := blk_cell KP.out 0 rfl; have P1 : World.cell? _ ⟨_, 1, none⟩ = some (.int .i64 Q) := blk_cell KP.out 1 rfl; have H0 := Lib.hid ((hB4.block _ z0).trans H0.out); have z0 := Nat.lt_of_lt_of_le z0 hB4.size; have b0 : World.cell? _ ⟨_, 0, none⟩ = some (.slice A ns.length c) := blk_cell H0.out 0 rfl; have b1 : World.cell? _ ⟨_, 1, none⟩ = some (.slice B ss.length d) := blk_cell H0.out 1 rfl; have KI := Lib.hid ((hB4.block _ yI).trans KI.out); have yI := Nat.lt_of_lt_of_le yI hB4.size; have I0 : World.cell? _ ⟨_, 0, none⟩ = some (.int .i64 1) := blk_cell KI.out 0 rfl; have I1 : World.cell? _ ⟨_, 1, none⟩ = some (.int .i64 1) := blk_cell KI.out 1 rfl; have KP := Lib.hid ((hB4.block _ yP).trans KP.out); have yP := Nat.lt_of_lt_of_le yP hB4.size; have P0 : World.cell? _ ⟨_, 0, none⟩ = some (.int .i64 P) := blk_cell KP.out 0 rfl; have P1 : World.cell? _ ⟨_, 1, none⟩ = some (.int .i64 Q) := blk_cell KP.out 1 rfl; have HW : Hid (Below w.heap.size w _) := Lib.hid (below_step (by first | exact HW.out | exact Below.drew HW.out | exact below_drewN HW.out _) hB4); have HWD : Hid (Below v4.heap.size v4 v4) := Lib.hid (Below.refl _ _); clear hB4; have HO4 := Lib.hid hO4.ints; clear hO4)
    | (go_at_call 49; with_reducible refine (wSwapped_yes ns ss _ _ _ _ _ (HA.out.below HW.out) (HB.out.below HW.out) HV.out).mono ?_; rintro e v5 ⟨S', s', N', n', rfl, hS, hN, hB5⟩; have H0 := Lib.hid ((hB5.block _ z0).trans H0.out); have z0 := Nat.lt_of_lt_of_le z0 hB5.size; have b0 : World.cell? _ ⟨_, 0, none⟩ = some (.slice A ns.length c) := blk_cell H0.out 0 rfl; have b1 : World.cell? _ ⟨_, 1, none⟩ = some (.slice B ss.length d) := blk_cell H0.out 1 rfl; have KI := Lib.hid ((hB5.block _ yI).trans KI.out); have yI := Nat.lt_of_lt_of_le yI hB5.size; have I0 : World.cell? _ ⟨_, 0, none⟩ = some (.int .i64 1) := blk_cell KI.out 0 rfl; have I1 : World.cell? _ ⟨_, 1, none⟩ = some (.int .i64 1) := blk_cell KI.out 1 rfl; have KP := Lib.hid ((hB5.block _ yP).trans KP.out); have yP := Nat.lt_of_lt_of_le yP hB5.size; have P0 : World.cell? _ ⟨_, 0, none⟩ = some (.int .i64 P) := blk_cell KP.out 0 rfl; have P1 : World.cell? _ ⟨_, 1, none⟩ = some (.int .i64 Q) := blk_cell KP.out 1 rfl; have HW : Hid (Below w.heap.size w _) := Lib.hid (below_step (by first | exact HW.out | exact Below.drew HW.out | exact below_drewN HW.out _) hB5); have HWD : Hid (Below v4.heap.size v4 _) := Lib.hid (below_step (by first | exact HWD.out | exact Below.drew HWD.out | exact below_drewN HWD.out _) hB5); have HWS : Hid (Below v5.heap.size v5 v5) := Lib.hid (Below.refl _ _); clear hB5; have HSS := Lib.hid hS.ints; have HNN := Lib.hid hN.ints; clear hS hN)
    | (go_at_call 57; with_reducible refine (small_any P Q _).mono ?_; rintro e v6 ⟨rfl, hB6⟩; have hZ : v5.heap.size < (v5.alloc (.cells #[(.slice S' ss.length s'), (.slice N' ns.length n')] 24)).heap.size := (by simp); have H0 := Lib.hid ((Below.heap_alloc v5 (.cells #[(.slice S' ss.length s'), (.slice N' ns.length n')] 24) _ z0).trans H0.out); have z0 := Nat.lt_trans z0 hZ; have KI := Lib.hid ((Below.heap_alloc v5 (.cells #[(.slice S' ss.length s'), (.slice N' ns.length n')] 24) _ yI).trans KI.out); have yI := Nat.lt_trans yI hZ; have KP := Lib.hid ((Below.heap_alloc v5 (.cells #[(.slice S' ss.length s'), (.slice N' ns.length n')] 24) _ yP).trans KP.out); have yP := Nat.lt_trans yP hZ; have KO := Lib.hid (heap_alloc_atF (w := v5) (x := (.cells #[(.slice S' ss.length s'), (.slice N' ns.length n')] 24)) (g := v5.heap.size) (by first | rfl | simp)); have yO := (Array.getElem?_eq_some_iff.1 KO.out).1; have HW : Hid (Below w.heap.size w _) := Lib.hid (Below.alloc HW.out HW.out.size (.cells #[(.slice S' ss.length s'), (.slice N' ns.length n')] 24)); have HWD : Hid (Below v4.heap.size v4 _) := Lib.hid (Below.alloc HWD.out HWD.out.size (.cells #[(.slice S' ss.length s'), (.slice N' ns.length n')] 24)); have HWS : Hid (Below v5.heap.size v5 _) := Lib.hid (Below.alloc HWS.out HWS.out.size (.cells #[(.slice S' ss.length s'), (.slice N' ns.length n')] 24)); clear hZ; have b0 : World.cell? _ ⟨_, 0, none⟩ = some (.slice A ns.length c) := blk_cell H0.out 0 rfl; have b1 : World.cell? _ ⟨_, 1, none⟩ = some (.slice B ss.length d) := blk_cell H0.out 1 rfl; have I0 : World.cell? _ ⟨_, 0, none⟩ = some (.int .i64 1) := blk_cell KI.out 0 rfl; have I1 : World.cell? _ ⟨_, 1, none⟩ = some (.int .i64 1) := blk_cell KI.out 1 rfl; have P0 : World.cell? _ ⟨_, 0, none⟩ = some (.int .i64 P) := blk_cell KP.out 0 rfl; have P1 : World.cell? _ ⟨_, 1, none⟩ = some (.int .i64 Q) := blk_cell KP.out 1 rfl; have O0 : World.cell? _ ⟨_, 0, none⟩ = some ((.slice S' ss.length s')) := blk_cell KO.out 0 rfl; have O1 : World.cell? _ ⟨_, 1, none⟩ = some ((.slice N' ns.length n')) := blk_cell KO.out 1 rfl; have H0 := Lib.hid ((hB6.block _ z0).trans H0.out); have z0 := Nat.lt_of_lt_of_le z0 hB6.size; have b0 : World.cell? _ ⟨_, 0, none⟩ = some (.slice A ns.length c) := blk_cell H0.out 0 rfl; have b1 : World.cell? _ ⟨_, 1, none⟩ = some (.slice B ss.length d) := blk_cell H0.out 1 rfl; have KI := Lib.hid ((hB6.block _ yI).trans KI.out); have yI := Nat.lt_of_lt_of_le yI hB6.size; have I0 : World.cell? _ ⟨_, 0, none⟩ = some (.int .i64 1) := blk_cell KI.out 0 rfl; have I1 : World.cell? _ ⟨_, 1, none⟩ = some (.int .i64 1) := blk_cell KI.out 1 rfl; have KP := Lib.hid ((hB6.block _ yP).trans KP.out); have yP := Nat.lt_of_lt_of_le yP hB6.size; have P0 : World.cell? _ ⟨_, 0, none⟩ = some (.int .i64 P) := blk_cell KP.out 0 rfl; have P1 : World.cell? _ ⟨_, 1, none⟩ = some (.int .i64 Q) := blk_cell KP.out 1 rfl; have KO := Lib.hid ((hB6.block _ yO).trans KO.out); have yO := Nat.lt_of_lt_of_le yO hB6.size; have O0 : World.cell? _ ⟨_, 0, none⟩ = some ((.slice S' ss.length s')) := blk_cell KO.out 0 rfl; have O1 : World.cell? _ ⟨_, 1, none⟩ = some ((.slice N' ns.length n')) := blk_cell KO.out 1 rfl; have HW : Hid (Below w.heap.size w _) := Lib.hid (below_step (by first | exact HW.out | exact Below.drew HW.out | exact below_drewN HW.out _) hB6); have HWD : Hid (Below v4.heap.size v4 _) := Lib.hid (below_step (by first | exact HWD.out | exact Below.drew HWD.out | exact below_drewN HWD.out _) hB6); have HWS : Hid (Below v5.heap.size v5 _) := Lib.hid (below_step (by first | exact HWS.out | exact Below.drew HWS.out | exact below_drewN HWS.out _) hB6); clear hB6; rw [S1.out])
    | (go_at_call 32; with_reducible refine (wGain_yes ns ss (deL ns ss 1 1) A B D' c d e' 1 1 _ (HA.out.below HW.out) (HB.out.below HW.out) (HO4.out.below HWD.out) HV.out one_ok HDC.out).mono ?_; rintro e v7 ⟨rfl, hB7⟩; have H0 := Lib.hid ((hB7.block _ z0).trans H0.out); have z0 := Nat.lt_of_lt_of_le z0 hB7.size; have b0 : World.cell? _ ⟨_, 0, none⟩ = some (.slice A ns.length c) := blk_cell H0.out 0 rfl; have b1 : World.cell? _ ⟨_, 1, none⟩ = some (.slice B ss.length d) := blk_cell H0.out 1 rfl; have KI := Lib.hid ((hB7.block _ yI).trans KI.out); have yI := Nat.lt_of_lt_of_le yI hB7.size; have I0 : World.cell? _ ⟨_, 0, none⟩ = some (.int .i64 1) := blk_cell KI.out 0 rfl; have I1 : World.cell? _ ⟨_, 1, none⟩ = some (.int .i64 1) := blk_cell KI.out 1 rfl; have KP := Lib.hid ((hB7.block _ yP).trans KP.out); have yP := Nat.lt_of_lt_of_le yP hB7.size; have P0 : World.cell? _ ⟨_, 0, none⟩ = some (.int .i64 P) := blk_cell KP.out 0 rfl; have P1 : World.cell? _ ⟨_, 1, none⟩ = some (.int .i64 Q) := blk_cell KP.out 1 rfl; have KO := Lib.hid ((hB7.block _ yO).trans KO.out); have yO := Nat.lt_of_lt_of_le yO hB7.size; have O0 : World.cell? _ ⟨_, 0, none⟩ = some ((.slice S' ss.length s')) := blk_cell KO.out 0 rfl; have O1 : World.cell? _ ⟨_, 1, none⟩ = some ((.slice N' ns.length n')) := blk_cell KO.out 1 rfl; have HW : Hid (Below w.heap.size w _) := Lib.hid (below_step (by first | exact HW.out | exact Below.drew HW.out | exact below_drewN HW.out _) hB7); have HWD : Hid (Below v4.heap.size v4 _) := Lib.hid (below_step (by first | exact HWD.out | exact Below.drew HWD.out | exact below_drewN HWD.out _) hB7); have HWS : Hid (Below v5.heap.size v5 _) := Lib.hid (below_step (by first | exact HWS.out | exact Below.drew HWS.out | exact below_drewN HWS.out _) hB7); clear hB7; rw [HG.out.1, HG.out.2])
    | (go_at_call 44; with_reducible refine (wApart_yes ss ns S' N' s' n' _ (HSS.out.below (by refine Below.alloc HWS.out HWS.out.size _)) (HNN.out.below (by refine Below.alloc HWS.out HWS.out.size _)) HVS.out).mono ?_; rintro e v8 ⟨rfl, hB8⟩; have hZ : v7.heap.size < (v7.alloc (.cells #[.int .i64 P, .int .i64 Q] 28)).heap.size := (by simp); have H0 := Lib.hid ((Below.heap_alloc v7 (.cells #[.int .i64 P, .int .i64 Q] 28) _ z0).trans H0.out); have z0 := Nat.lt_trans z0 hZ; have KI := Lib.hid ((Below.heap_alloc v7 (.cells #[.int .i64 P, .int .i64 Q] 28) _ yI).trans KI.out); have yI := Nat.lt_trans yI hZ; have KP := Lib.hid ((Below.heap_alloc v7 (.cells #[.int .i64 P, .int .i64 Q] 28) _ yP).trans KP.out); have yP := Nat.lt_trans yP hZ; have KO := Lib.hid ((Below.heap_alloc v7 (.cells #[.int .i64 P, .int .i64 Q] 28) _ yO).trans KO.out); have yO := Nat.lt_trans yO hZ; have KG := Lib.hid (heap_alloc_atF (w := v7) (x := (.cells #[.int .i64 P, .int .i64 Q] 28)) (g := v7.heap.size) (by first | rfl | simp)); have yG := (Array.getElem?_eq_some_iff.1 KG.out).1; have HW : Hid (Below w.heap.size w _) := Lib.hid (Below.alloc HW.out HW.out.size (.cells #[.int .i64 P, .int .i64 Q] 28)); have HWD : Hid (Below v4.heap.size v4 _) := Lib.hid (Below.alloc HWD.out HWD.out.size (.cells #[.int .i64 P, .int .i64 Q] 28)); have HWS : Hid (Below v5.heap.size v5 _) := Lib.hid (Below.alloc HWS.out HWS.out.size (.cells #[.int .i64 P, .int .i64 Q] 28)); clear hZ; have b0 : World.cell? _ ⟨_, 0, none⟩ = some (.slice A ns.length c) := blk_cell H0.out 0 rfl; have b1 : World.cell? _ ⟨_, 1, none⟩ = some (.slice B ss.length d) := blk_cell H0.out 1 rfl; have I0 : World.cell? _ ⟨_, 0, none⟩ = some (.int .i64 1) := blk_cell KI.out 0 rfl; have I1 : World.cell? _ ⟨_, 1, none⟩ = some (.int .i64 1) := blk_cell KI.out 1 rfl; have P0 : World.cell? _ ⟨_, 0, none⟩ = some (.int .i64 P) := blk_cell KP.out 0 rfl; have P1 : World.cell? _ ⟨_, 1, none⟩ = some (.int .i64 Q) := blk_cell KP.out 1 rfl; have O0 : World.cell? _ ⟨_, 0, none⟩ = some ((.slice S' ss.length s')) := blk_cell KO.out 0 rfl; have O1 : World.cell? _ ⟨_, 1, none⟩ = some ((.slice N' ns.length n')) := blk_cell KO.out 1 rfl; have G0 : World.cell? _ ⟨_, 0, none⟩ = some (.int .i64 P) := blk_cell KG.out 0 rfl; have G1 : World.cell? _ ⟨_, 1, none⟩ = some (.int .i64 Q) := blk_cell KG.out 1 rfl; have H0 := Lib.hid ((hB8.block _ z0).trans H0.out); have z0 := Nat.lt_of_lt_of_le z0 hB8.size; have b0 : World.cell? _ ⟨_, 0, none⟩ = some (.slice A ns.length c) := blk_cell H0.out 0 rfl; have b1 : World.cell? _ ⟨_, 1, none⟩ = some (.slice B ss.length d) := blk_cell H0.out 1 rfl; have KI := Lib.hid ((hB8.block _ yI).trans KI.out); have yI := Nat.lt_of_lt_of_le yI hB8.size; have I0 : World.cell? _ ⟨_, 0, none⟩ = some (.int .i64 1) := blk_cell KI.out 0 rfl; have I1 : World.cell? _ ⟨_, 1, none⟩ = some (.int .i64 1) := blk_cell KI.out 1 rfl; have KP := Lib.hid ((hB8.block _ yP).trans KP.out); have yP := Nat.lt_of_lt_of_le yP hB8.size; have P0 : World.cell? _ ⟨_, 0, none⟩ = some (.int .i64 P) := blk_cell KP.out 0 rfl; have P1 : World.cell? _ ⟨_, 1, none⟩ = some (.int .i64 Q) := blk_cell KP.out 1 rfl; have KO := Lib.hid ((hB8.block _ yO).trans KO.out); have yO := Nat.lt_of_lt_of_le yO hB8.size; have O0 : World.cell? _ ⟨_, 0, none⟩ = some ((.slice S' ss.length s')) := blk_cell KO.out 0 rfl; have O1 : World.cell? _ ⟨_, 1, none⟩ = some ((.slice N' ns.length n')) := blk_cell KO.out 1 rfl; have KG := Lib.hid ((hB8.block _ yG).trans KG.out); have yG := Nat.lt_of_lt_of_le yG hB8.size; have G0 : World.cell? _ ⟨_, 0, none⟩ = some (.int .i64 P) := blk_cell KG.out 0 rfl; have G1 : World.cell? _ ⟨_, 1, none⟩ = some (.int .i64 Q) := blk_cell KG.out 1 rfl; have HW : Hid (Below w.heap.size w _) := Lib.hid (below_step (by first | exact HW.out | exact Below.drew HW.out | exact below_drewN HW.out _) hB8); have HWD : Hid (Below v4.heap.size v4 _) := Lib.hid (below_step (by first | exact HWD.out | exact Below.drew HWD.out | exact below_drewN HWD.out _) hB8); have HWS : Hid (Below v5.heap.size v5 _) := Lib.hid (below_step (by first | exact HWS.out | exact Below.drew HWS.out | exact below_drewN HWS.out _) hB8); clear hB8; rw [HSW.out.1, HSW.out.2]))
  have hZ : v8.heap.size < (v8.alloc (.cells #[.int .i64 P, .int .i64 Q] 28)).heap.size := (by simp)
  have H0 := Lib.hid ((Below.heap_alloc v8 (.cells #[.int .i64 P, .int .i64 Q] 28) _ z0).trans H0.out)
  have z0 := Nat.lt_trans z0 hZ
  have KI := Lib.hid ((Below.heap_alloc v8 (.cells #[.int .i64 P, .int .i64 Q] 28) _ yI).trans KI.out)
  have yI := Nat.lt_trans yI hZ
  have KP := Lib.hid ((Below.heap_alloc v8 (.cells #[.int .i64 P, .int .i64 Q] 28) _ yP).trans KP.out)
  have yP := Nat.lt_trans yP hZ
  have KO := Lib.hid ((Below.heap_alloc v8 (.cells #[.int .i64 P, .int .i64 Q] 28) _ yO).trans KO.out)
  have yO := Nat.lt_trans yO hZ
  have KG := Lib.hid ((Below.heap_alloc v8 (.cells #[.int .i64 P, .int .i64 Q] 28) _ yG).trans KG.out)
  have yG := Nat.lt_trans yG hZ
  have KT := Lib.hid (heap_alloc_atF (w := v8) (x := (.cells #[.int .i64 P, .int .i64 Q] 28)) (g := v8.heap.size) (by first | rfl | simp))
  have yT := (Array.getElem?_eq_some_iff.1 KT.out).1
  have HW : Hid (Below w.heap.size w _) := Lib.hid (Below.alloc HW.out HW.out.size (.cells #[.int .i64 P, .int .i64 Q] 28))
  have HWD : Hid (Below v4.heap.size v4 _) := Lib.hid (Below.alloc HWD.out HWD.out.size (.cells #[.int .i64 P, .int .i64 Q] 28))
  have HWS : Hid (Below v5.heap.size v5 _) := Lib.hid (Below.alloc HWS.out HWS.out.size (.cells #[.int .i64 P, .int .i64 Q] 28))
  clear hZ
  have b0 : World.cell? _ ⟨_, 0, none⟩ = some (.slice A ns.length c) := blk_cell H0.out 0 rfl
  have b1 : World.cell? _ ⟨_, 1, none⟩ = some (.slice B ss.length d) := blk_cell H0.out 1 rfl
  have I0 : World.cell? _ ⟨_, 0, none⟩ = some (.int .i64 1) := blk_cell KI.out 0 rfl
  have I1 : World.cell? _ ⟨_, 1, none⟩ = some (.int .i64 1) := blk_cell KI.out 1 rfl
  have P0 : World.cell? _ ⟨_, 0, none⟩ = some (.int .i64 P) := blk_cell KP.out 0 rfl
  have P1 : World.cell? _ ⟨_, 1, none⟩ = some (.int .i64 Q) := blk_cell KP.out 1 rfl
  have O0 : World.cell? _ ⟨_, 0, none⟩ = some ((.slice S' ss.length s')) := blk_cell KO.out 0 rfl
  have O1 : World.cell? _ ⟨_, 1, none⟩ = some ((.slice N' ns.length n')) := blk_cell KO.out 1 rfl
  have G0 : World.cell? _ ⟨_, 0, none⟩ = some (.int .i64 P) := blk_cell KG.out 0 rfl
  have G1 : World.cell? _ ⟨_, 1, none⟩ = some (.int .i64 Q) := blk_cell KG.out 1 rfl
  have T0 : World.cell? _ ⟨_, 0, none⟩ = some (.int .i64 P) := blk_cell KT.out 0 rfl
  have T1 : World.cell? _ ⟨_, 1, none⟩ = some (.int .i64 Q) := blk_cell KT.out 1 rfl
  generalize hY : (v8.alloc (.cells #[.int .i64 P, .int .i64 Q] 28)) = Y at *
  clear hY
  have HTN : Hid (∀ m : Nat, Calls Try.prog 58 #[.slice A ns.length c] (Y.drewN m) fun e w' => e = .returned (.int .i64 ns.sum) ∧ w' = Y.drewN m) := Lib.hid (fun m => (total_any ns A c _ (HA.out.below (below_drewN HW.out m)) hl1 ho.nb9).mono fun e w' h => ⟨h.1, h.2.symm⟩)
  have HTS : Hid (∀ m : Nat, Calls Try.prog 58 #[.slice B ss.length d] (Y.drewN m) fun e w' => e = .returned (.int .i64 ss.sum) ∧ w' = Y.drewN m) := Lib.hid (fun m => (total_any ss B d _ (HB.out.below (below_drewN HW.out m)) hl2 ho.sb9).mono fun e w' h => ⟨h.1, h.2.symm⟩)
  go_quiet ((first | (go_at_call 58; with_reducible exact Calls.quiet_of_same (HTN.out _)) | (go_at_call 58; with_reducible exact Calls.quiet_of_same (HTS.out _))))
  go_wp2
  go_loopw [14, 103] (fun v i wr => ∃ k m : Nat, k ≤ ns.length ∧ v = .int .i64 (twK ns ss k) ∧ i = .int .i64 k ∧ wr = Y.drewN m) (fun _ i _ => ns.length - (intOf i).toNat)
  case atStart => exact ⟨0, _, Nat.zero_le _, rfl, rfl, rfl⟩
  case round =>
    obtain ⟨k, m, hk, rfl, rfl, hwr⟩ := hrel
    by_cases hlt : k < ns.length
    · have HWr : Hid (Below w.heap.size w wr) := Lib.hid (by rw [hwr]; exact below_drewN HW.out m)
      have b0 : wr.cell? ⟨w.heap.size, 0, none⟩ = some (.slice A ns.length c) := by rw [hwr]; exact b0
      have b1 : wr.cell? ⟨w.heap.size, 1, none⟩ = some (.slice B ss.length d) := by rw [hwr]; exact b1
      have HWR := Lib.hid hwr
      clear hwr
      have hn2 := ho.le
      obtain ⟨ad, bd, x, y, rfl, rfl, c1, c2, f1, f2, x0, x1, y0, y1⟩ := ho.at_ (HA.out.below HWr.out) (HB.out.below HWr.out) hlt
      have HT2N : Hid (∀ j : Nat, Calls Try.prog 58 #[.slice (some ad) ns.length c] (wr.drewN j) fun e w' => e = .returned (.int .i64 ns.sum) ∧ w' = wr.drewN j) := Lib.hid (fun j => (total_any ns (some ad) c _ (HA.out.below (below_drewN HWr.out j)) hl1 ho.nb9).mono fun e w' h => ⟨h.1, h.2.symm⟩)
      have HT2S : Hid (∀ j : Nat, Calls Try.prog 58 #[.slice (some bd) ss.length d] (wr.drewN j) fun e w' => e = .returned (.int .i64 ss.sum) ∧ w' = wr.drewN j) := Lib.hid (fun j => (total_any ss (some bd) d _ (HB.out.below (below_drewN HWr.out j)) hl2 ho.sb9).mono fun e w' h => ⟨h.1, h.2.symm⟩)
      have HT := Lib.hid (twK_succ (ns := ns) (ss := ss) hlt)
      rw [f1.out, f2.out] at HT
      have hb := twK_bd ho k hk
      generalize twK ns ss k = t at *
      have h0 := ho.np
      have h1 := ho.nm
      have h2 := ho.sp
      have h3' := ho.sm
      have hlen := ho.len
      have hlt2 : k < ss.length := by omega
      obtain ⟨m0, m1⟩ := mul_bd (a := y) (b := ns.sum) (A := 1000) (B := 10000) y0 y1 (by omega) (by omega)
      obtain ⟨m2, m3⟩ := mul_bd (a := x) (b := ss.sum) (A := 1000) (B := 10000) x0 x1 (by omega) (by omega)
      have tb0 : 0 ≤ t := hb.1
      have tb1 : t ≤ 200000000 := by omega
      clear hb hlen
      by_cases hneg : y * ns.sum - x * ss.sum < -(y * ns.sum - x * ss.sum)
      · have hmx : (if y * ns.sum - x * ss.sum < -(y * ns.sum - x * ss.sum) then -(y * ns.sum - x * ss.sum) else y * ns.sum - x * ss.sum) = -(y * ns.sum - x * ss.sum) := if_pos hneg
        have HM : Hid (twSum.absW (y * ns.sum - x * ss.sum) = -(y * ns.sum - x * ss.sum)) := Lib.hid (by unfold twSum.absW; omega)
        go_wp2
        go_quiet ((first | (go_at_call 58; with_reducible exact Calls.quiet_of_same (HT2N.out _)) | (go_at_call 58; with_reducible exact Calls.quiet_of_same (HT2S.out _)) | (go_at_call 58; with_reducible exact Calls.quiet_of_same (HTN.out _)) | (go_at_call 58; with_reducible exact Calls.quiet_of_same (HTS.out _))))
        go_wp2
        all_goals
          go_roundw
          case rel => exact ⟨k + 1, _, by omega, by rw [HT.out, HM.out], by go_num, (by rw [HWR.out]; first | rfl | exact World.drewN_drewN _ _ _)⟩
          case measure => simp [intOf]; omega
      · have hmx : (if y * ns.sum - x * ss.sum < -(y * ns.sum - x * ss.sum) then -(y * ns.sum - x * ss.sum) else y * ns.sum - x * ss.sum) = y * ns.sum - x * ss.sum := if_neg hneg
        have HM : Hid (twSum.absW (y * ns.sum - x * ss.sum) = y * ns.sum - x * ss.sum) := Lib.hid (by unfold twSum.absW; omega)
        go_wp2
        go_quiet ((first | (go_at_call 58; with_reducible exact Calls.quiet_of_same (HT2N.out _)) | (go_at_call 58; with_reducible exact Calls.quiet_of_same (HT2S.out _)) | (go_at_call 58; with_reducible exact Calls.quiet_of_same (HTN.out _)) | (go_at_call 58; with_reducible exact Calls.quiet_of_same (HTS.out _))))
        go_wp2
        all_goals
          go_roundw
          case rel => exact ⟨k + 1, _, by omega, by rw [HT.out, HM.out], by go_num, (by rw [HWR.out]; first | rfl | exact World.drewN_drewN _ _ _)⟩
          case measure => simp [intOf]; omega
    · obtain rfl : k = ns.length := by omega
      rw [HTW.out]
      subst hwr
      generalize hZ : Y.drewN m = Z
      have HWZ : Hid (Below Y.heap.size Y Z) := Lib.hid (by rw [← hZ]; exact below_drewN (Below.refl _ _) m)
      have H0 := Lib.hid ((HWZ.out.block _ z0).trans H0.out); have z0 := Nat.lt_of_lt_of_le z0 HWZ.out.size
      have b0 : World.cell? _ ⟨_, 0, none⟩ = some (.slice A ns.length c) := blk_cell H0.out 0 rfl
      have b1 : World.cell? _ ⟨_, 1, none⟩ = some (.slice B ss.length d) := blk_cell H0.out 1 rfl
      have KI := Lib.hid ((HWZ.out.block _ yI).trans KI.out); have yI := Nat.lt_of_lt_of_le yI HWZ.out.size
      have I0 : World.cell? _ ⟨_, 0, none⟩ = some (.int .i64 1) := blk_cell KI.out 0 rfl
      have I1 : World.cell? _ ⟨_, 1, none⟩ = some (.int .i64 1) := blk_cell KI.out 1 rfl
      have KP := Lib.hid ((HWZ.out.block _ yP).trans KP.out); have yP := Nat.lt_of_lt_of_le yP HWZ.out.size
      have P0 : World.cell? _ ⟨_, 0, none⟩ = some (.int .i64 P) := blk_cell KP.out 0 rfl
      have P1 : World.cell? _ ⟨_, 1, none⟩ = some (.int .i64 Q) := blk_cell KP.out 1 rfl
      have KO := Lib.hid ((HWZ.out.block _ yO).trans KO.out); have yO := Nat.lt_of_lt_of_le yO HWZ.out.size
      have O0 : World.cell? _ ⟨_, 0, none⟩ = some ((.slice S' ss.length s')) := blk_cell KO.out 0 rfl
      have O1 : World.cell? _ ⟨_, 1, none⟩ = some ((.slice N' ns.length n')) := blk_cell KO.out 1 rfl
      have KG := Lib.hid ((HWZ.out.block _ yG).trans KG.out); have yG := Nat.lt_of_lt_of_le yG HWZ.out.size
      have G0 : World.cell? _ ⟨_, 0, none⟩ = some (.int .i64 P) := blk_cell KG.out 0 rfl
      have G1 : World.cell? _ ⟨_, 1, none⟩ = some (.int .i64 Q) := blk_cell KG.out 1 rfl
      have KT := Lib.hid ((HWZ.out.block _ yT).trans KT.out); have yT := Nat.lt_of_lt_of_le yT HWZ.out.size
      have T0 : World.cell? _ ⟨_, 0, none⟩ = some (.int .i64 P) := blk_cell KT.out 0 rfl
      have T1 : World.cell? _ ⟨_, 1, none⟩ = some (.int .i64 Q) := blk_cell KT.out 1 rfl
      have HW : Hid (Below w.heap.size w _) := Lib.hid (below_step HW.out HWZ.out)
      have HWD : Hid (Below v4.heap.size v4 _) := Lib.hid (below_step HWD.out HWZ.out)
      have HWS : Hid (Below v5.heap.size v5 _) := Lib.hid (below_step HWS.out HWZ.out)
      clear hZ HWZ
      go_wp2
      go_region_held3 (fun W => W.cell? ⟨v3.heap.size, 0, none⟩ = some (.int .i64 P) ∧ W.cell? ⟨v3.heap.size, 1, none⟩ = some (.int .i64 Q))
        ((first | with_reducible exact ⟨P0, P1⟩ | exact ⟨P0, P1⟩))
        ((go_at_call 59; with_reducible refine (refRatio_any (2 * apV ns ss) (2 * (ns.sum * ss.sum)) _ (by omega) (by omega) (by omega) (by omega)).mono ?_; rintro e v21 ⟨rfl, hB21⟩; have H0 := Lib.hid ((hB21.block _ z0).trans H0.out); have z0 := Nat.lt_of_lt_of_le z0 hB21.size; have b0 : World.cell? _ ⟨_, 0, none⟩ = some (.slice A ns.length c) := blk_cell H0.out 0 rfl; have b1 : World.cell? _ ⟨_, 1, none⟩ = some (.slice B ss.length d) := blk_cell H0.out 1 rfl; have KI := Lib.hid ((hB21.block _ yI).trans KI.out); have yI := Nat.lt_of_lt_of_le yI hB21.size; have I0 : World.cell? _ ⟨_, 0, none⟩ = some (.int .i64 1) := blk_cell KI.out 0 rfl; have I1 : World.cell? _ ⟨_, 1, none⟩ = some (.int .i64 1) := blk_cell KI.out 1 rfl; have KP := Lib.hid ((hB21.block _ yP).trans KP.out); have yP := Nat.lt_of_lt_of_le yP hB21.size; have P0 : World.cell? _ ⟨_, 0, none⟩ = some (.int .i64 P) := blk_cell KP.out 0 rfl; have P1 : World.cell? _ ⟨_, 1, none⟩ = some (.int .i64 Q) := blk_cell KP.out 1 rfl; have KO := Lib.hid ((hB21.block _ yO).trans KO.out); have yO := Nat.lt_of_lt_of_le yO hB21.size; have O0 : World.cell? _ ⟨_, 0, none⟩ = some ((.slice S' ss.length s')) := blk_cell KO.out 0 rfl; have O1 : World.cell? _ ⟨_, 1, none⟩ = some ((.slice N' ns.length n')) := blk_cell KO.out 1 rfl; have KG := Lib.hid ((hB21.block _ yG).trans KG.out); have yG := Nat.lt_of_lt_of_le yG hB21.size; have G0 : World.cell? _ ⟨_, 0, none⟩ = some (.int .i64 P) := blk_cell KG.out 0 rfl; have G1 : World.cell? _ ⟨_, 1, none⟩ = some (.int .i64 Q) := blk_cell KG.out 1 rfl; have KT := Lib.hid ((hB21.block _ yT).trans KT.out); have yT := Nat.lt_of_lt_of_le yT hB21.size; have T0 : World.cell? _ ⟨_, 0, none⟩ = some (.int .i64 P) := blk_cell KT.out 0 rfl; have T1 : World.cell? _ ⟨_, 1, none⟩ = some (.int .i64 Q) := blk_cell KT.out 1 rfl; have HW : Hid (Below w.heap.size w _) := Lib.hid (below_step (by first | exact HW.out | exact Below.drew HW.out | exact below_drewN HW.out _) hB21); have HWD : Hid (Below v4.heap.size v4 _) := Lib.hid (below_step (by first | exact HWD.out | exact Below.drew HWD.out | exact below_drewN HWD.out _) hB21); have HWS : Hid (Below v5.heap.size v5 _) := Lib.hid (below_step (by first | exact HWS.out | exact Below.drew HWS.out | exact below_drewN HWS.out _) hB21); clear hB21; rw [HLT.out.1, HLT.out.2]))
      go_wp2_with (first
        | (go_at_call 55; with_reducible refine (isCut_any ns ss cs _ _ _ _ _ _ _ (HC.out.below (by first | exact HW.out | exact Below.drew HW.out | exact below_drewN HW.out _)) hl3).mono ?_; rintro e v22 ⟨rfl, hB22⟩; have H0 := Lib.hid ((hB22.block _ z0).trans H0.out); have z0 := Nat.lt_of_lt_of_le z0 hB22.size; have b0 : World.cell? _ ⟨_, 0, none⟩ = some (.slice A ns.length c) := blk_cell H0.out 0 rfl; have b1 : World.cell? _ ⟨_, 1, none⟩ = some (.slice B ss.length d) := blk_cell H0.out 1 rfl; have KI := Lib.hid ((hB22.block _ yI).trans KI.out); have yI := Nat.lt_of_lt_of_le yI hB22.size; have I0 : World.cell? _ ⟨_, 0, none⟩ = some (.int .i64 1) := blk_cell KI.out 0 rfl; have I1 : World.cell? _ ⟨_, 1, none⟩ = some (.int .i64 1) := blk_cell KI.out 1 rfl; have KP := Lib.hid ((hB22.block _ yP).trans KP.out); have yP := Nat.lt_of_lt_of_le yP hB22.size; have P0 : World.cell? _ ⟨_, 0, none⟩ = some (.int .i64 P) := blk_cell KP.out 0 rfl; have P1 : World.cell? _ ⟨_, 1, none⟩ = some (.int .i64 Q) := blk_cell KP.out 1 rfl; have KO := Lib.hid ((hB22.block _ yO).trans KO.out); have yO := Nat.lt_of_lt_of_le yO hB22.size; have O0 : World.cell? _ ⟨_, 0, none⟩ = some ((.slice S' ss.length s')) := blk_cell KO.out 0 rfl; have O1 : World.cell? _ ⟨_, 1, none⟩ = some ((.slice N' ns.length n')) := blk_cell KO.out 1 rfl; have KG := Lib.hid ((hB22.block _ yG).trans KG.out); have yG := Nat.lt_of_lt_of_le yG hB22.size; have G0 : World.cell? _ ⟨_, 0, none⟩ = some (.int .i64 P) := blk_cell KG.out 0 rfl; have G1 : World.cell? _ ⟨_, 1, none⟩ = some (.int .i64 Q) := blk_cell KG.out 1 rfl; have KT := Lib.hid ((hB22.block _ yT).trans KT.out); have yT := Nat.lt_of_lt_of_le yT hB22.size; have T0 : World.cell? _ ⟨_, 0, none⟩ = some (.int .i64 P) := blk_cell KT.out 0 rfl; have T1 : World.cell? _ ⟨_, 1, none⟩ = some (.int .i64 Q) := blk_cell KT.out 1 rfl; have HW : Hid (Below w.heap.size w _) := Lib.hid (below_step (by first | exact HW.out | exact Below.drew HW.out | exact below_drewN HW.out _) hB22); have HWD : Hid (Below v4.heap.size v4 _) := Lib.hid (below_step (by first | exact HWD.out | exact Below.drew HWD.out | exact below_drewN HWD.out _) hB22); have HWS : Hid (Below v5.heap.size v5 _) := Lib.hid (below_step (by first | exact HWS.out | exact Below.drew HWS.out | exact below_drewN HWS.out _) hB22); clear hB22; rw [HQ.out])
        | (go_at_call 16; with_reducible refine (awake_any _).mono ?_; rintro e v23 ⟨rfl, hB23⟩; have H0 := Lib.hid ((hB23.block _ z0).trans H0.out); have z0 := Nat.lt_of_lt_of_le z0 hB23.size; have b0 : World.cell? _ ⟨_, 0, none⟩ = some (.slice A ns.length c) := blk_cell H0.out 0 rfl; have b1 : World.cell? _ ⟨_, 1, none⟩ = some (.slice B ss.length d) := blk_cell H0.out 1 rfl; have KI := Lib.hid ((hB23.block _ yI).trans KI.out); have yI := Nat.lt_of_lt_of_le yI hB23.size; have I0 : World.cell? _ ⟨_, 0, none⟩ = some (.int .i64 1) := blk_cell KI.out 0 rfl; have I1 : World.cell? _ ⟨_, 1, none⟩ = some (.int .i64 1) := blk_cell KI.out 1 rfl; have KP := Lib.hid ((hB23.block _ yP).trans KP.out); have yP := Nat.lt_of_lt_of_le yP hB23.size; have P0 : World.cell? _ ⟨_, 0, none⟩ = some (.int .i64 P) := blk_cell KP.out 0 rfl; have P1 : World.cell? _ ⟨_, 1, none⟩ = some (.int .i64 Q) := blk_cell KP.out 1 rfl; have KO := Lib.hid ((hB23.block _ yO).trans KO.out); have yO := Nat.lt_of_lt_of_le yO hB23.size; have O0 : World.cell? _ ⟨_, 0, none⟩ = some ((.slice S' ss.length s')) := blk_cell KO.out 0 rfl; have O1 : World.cell? _ ⟨_, 1, none⟩ = some ((.slice N' ns.length n')) := blk_cell KO.out 1 rfl; have KG := Lib.hid ((hB23.block _ yG).trans KG.out); have yG := Nat.lt_of_lt_of_le yG hB23.size; have G0 : World.cell? _ ⟨_, 0, none⟩ = some (.int .i64 P) := blk_cell KG.out 0 rfl; have G1 : World.cell? _ ⟨_, 1, none⟩ = some (.int .i64 Q) := blk_cell KG.out 1 rfl; have KT := Lib.hid ((hB23.block _ yT).trans KT.out); have yT := Nat.lt_of_lt_of_le yT hB23.size; have T0 : World.cell? _ ⟨_, 0, none⟩ = some (.int .i64 P) := blk_cell KT.out 0 rfl; have T1 : World.cell? _ ⟨_, 1, none⟩ = some (.int .i64 Q) := blk_cell KT.out 1 rfl; have HW : Hid (Below w.heap.size w _) := Lib.hid (below_step (by first | exact HW.out | exact Below.drew HW.out | exact below_drewN HW.out _) hB23); have HWD : Hid (Below v4.heap.size v4 _) := Lib.hid (below_step (by first | exact HWD.out | exact Below.drew HWD.out | exact below_drewN HWD.out _) hB23); have HWS : Hid (Below v5.heap.size v5 _) := Lib.hid (below_step (by first | exact HWS.out | exact Below.drew HWS.out | exact below_drewN HWS.out _) hB23); clear hB23))
      go_ret
      exact ⟨rfl, (by repeat (first | with_reducible exact HW.out | with_reducible exact Below.refl _ _ | with_reducible refine below_drewN ?_ _ | with_reducible refine Below.drew ?_ | (with_reducible refine Below.setCell ?_ (by first | exact Nat.le_refl _ | exact Nat.le_succ _ | (simp; done) | (simp; omega) | omega) _) | (with_reducible refine Below.alloc ?_ (by first | exact HW.out.size | (simp; done) | (simp; omega) | omega) _)))⟩
set_option maxRecDepth 100000 in
set_option maxHeartbeats 4000000 in
theorem wf_yes (A : Option Addr) (c : Nat) (ns : List Int) (B : Option Addr) (d : Nat) (ss : List Int) (cs : List Int) (C : Option Addr) (e1 : Nat) (w : World)
    (hA : Ints w A ns) (hB : Ints w B ss) (hC : Ints w C cs) (hl : (decide (60 < ns.length) || decide (60 < ss.length)) = false) (h3 : ¬ 60 < cs.length) (hl1 : ns.length ≤ 1000) (hl2 : ss.length ≤ 1000) (hv : odB ns ss = true) (hq : cutB ns.length cs = true) :
    Calls Try.prog 11 #[.agg #[.slice A ns.length c, .slice B ss.length d], .slice C cs.length e1] w fun e w' => e = .returned (.bool true) ∧ Below w.heap.size w w' := by
  have HA := Lib.hid hA
  have HB := Lib.hid hB
  have HC := Lib.hid hC
  clear hA hB hC
  obtain ⟨W0, hW0, HW, H0, z0⟩ := one_new w #[.slice A ns.length c, .slice B ss.length d] 24
  have HL := Lib.hid hl
  clear hl
  have t3 : decide ((60 : Int) < (cs.length : Int)) = false := decide_eq_false (by omega)
  have hl3 : cs.length ≤ 1000 := by omega
  have ho := od_of hv
  have hpp := okP_of one_ok
  have hvs : odB ss ns = true := by rw [odB_swap]; exact hv
  obtain ⟨a0, a1, a2, a3⟩ := ap_bds ho
  have HDC : Hid (cutB ns.length (deL ns ss 1 1) = true) := Lib.hid (ofM_cut _ _)
  have hsw := ap_swap' ho.len
  have hun := un_one ns ss
  have hmc : ns.sum * ss.sum = unV ns ss 1 := by rw [hun, Int.mul_comm]
  have HTW := Lib.hid (twK_all (ns := ns) (ss := ss) ho.len)
  have hS1 := sm_low a0 a1 a2 (by omega)
  have hmax := tg_max (ns := ns) (ss := ss) (p := 1) (q := 1) hq
  have hk := ho.kb hq
  have htg : -100000000 ≤ tgV ns ss 1 1 cs := by
    have e : tgV ns ss 1 1 cs = keptL ss cs * ns.sum - keptL ns cs * ss.sum := tg_one ns ss cs
    have h0 := ho.np
    have h1 := ho.nm
    have h2 := ho.sp
    have h3' := ho.sm
    obtain ⟨m0, m1⟩ := mul_bd (a := keptL ss cs) (b := ns.sum) (A := 10000) (B := 10000) hk.2.1 (by omega) (by omega) (by omega)
    obtain ⟨m2, m3⟩ := mul_bd (a := keptL ns cs) (b := ss.sum) (A := 10000) (B := 10000) hk.1.1 (by omega) (by omega) (by omega)
    omega
  have hle : tgV ns ss 1 1 cs ≤ apV ns ss := hmax
  have hls := low_le (k := tgV ns ss 1 1 cs) (s := unV ns ss 1) (by omega) a2
  have hld := lowD_bd (n := tgV ns ss 1 1 cs) a2
  have hab := low_abs (k := tgV ns ss 1 1 cs) a2 (by omega)
  have hnl : ¬ (lowN (apV ns ss) (unV ns ss 1) * lowD (tgV ns ss 1 1 cs) (unV ns ss 1) < lowN (tgV ns ss 1 1 cs) (unV ns ss 1) * lowD (apV ns ss) (unV ns ss 1)) := by rw [low_nl a2]; omega
  obtain ⟨P, hP⟩ : ∃ x, lowN (apV ns ss) (unV ns ss 1) = x := ⟨_, rfl⟩
  obtain ⟨Q, hQ⟩ : ∃ x, lowD (apV ns ss) (unV ns ss 1) = x := ⟨_, rfl⟩
  have HP := Lib.hid hP
  have HQ0 := Lib.hid hQ
  have HG : Hid (lowN (tgV ns ss 1 1 (deL ns ss 1 1)) (unV ns ss 1) = P ∧ lowD (tgV ns ss 1 1 (deL ns ss 1 1)) (unV ns ss 1) = Q) := Lib.hid ⟨hP, hQ⟩
  have HSW : Hid (lowN (apV ss ns) (unV ss ns 1) = P ∧ lowD (apV ss ns) (unV ss ns 1) = Q) := Lib.hid (by rw [hsw.1, hsw.2]; exact ⟨hP, hQ⟩)
  have HLT : Hid (lowN (2 * apV ns ss) (2 * (ns.sum * ss.sum)) = P ∧ lowD (2 * apV ns ss) (2 * (ns.sum * ss.sum)) = Q) := Lib.hid (by rw [hmc, low_two.1, low_two.2]; exact ⟨hP, hQ⟩)
  rw [hP, hQ] at hS1
  have S1 := Lib.hid hS1
  have bP := sm_of hS1
  have HV := Lib.hid hv
  have HVS := Lib.hid hvs
  have ha0 : 0 ≤ apV ns ss := a0
  have ha1 : apV ns ss ≤ 100000000 := by omega
  have hm0 : 0 < ns.sum * ss.sum := by omega
  have hm1 : ns.sum * ss.sum ≤ 100000000 := by omega
  have hw2 : IntKind.i64.wrap (2 * (ns.sum * ss.sum)) = 2 * (ns.sum * ss.sum) := IntWalk.i64_in _ (by omega)
  obtain ⟨p, hp⟩ : ∃ x, lowN (tgV ns ss 1 1 cs) (unV ns ss 1) = x := ⟨_, rfl⟩
  obtain ⟨q, hq0⟩ : ∃ x, lowD (tgV ns ss 1 1 cs) (unV ns ss 1) = x := ⟨_, rfl⟩
  rw [hP, hQ, hp, hq0] at hnl
  rw [hp, hq0] at hls
  rw [hq0] at hld
  rw [hp] at hab
  have HGC : Hid (lowN (tgV ns ss 1 1 cs) (unV ns ss 1) = p ∧ lowD (tgV ns ss 1 1 cs) (unV ns ss 1) = q) := Lib.hid ⟨hp, hq0⟩
  have HLS : Hid (decide (P * q < p * Q) = false) := Lib.hid (decide_eq_false hnl)
  have hb1 : -2000000000 ≤ P ∧ P ≤ 2000000000 := by omega
  have hb2 : 0 ≤ Q ∧ Q ≤ 2000000000 := by omega
  have hb3 : -2000000000 ≤ p ∧ p ≤ 2000000000 := by omega
  have hb4 : 0 ≤ q ∧ q ≤ 2000000000 := by omega
  have d1 : decide (1 ≤ q) = true := decide_eq_true (by omega)
  have d2 : decide (q ≤ 200000000) = true := decide_eq_true (by omega)
  have d3 : decide (p ≤ q) = true := decide_eq_true hls
  have HQ := Lib.hid hq
  clear hv hvs hq a0 a1 a2 a3 hsw hun hmc hS1 hP hQ bP hmax hk htg hle hls hld hab hnl hp hq0
  go_enter Try.func11, Try.ntmps11
  go_wp2_with (first
    | (go_at_call 15; with_reducible refine (long_any ns ss _ _ _ _ _).mono ?_; rintro e v1 ⟨rfl, hB1⟩; rw [← hW0] at hB1; have H0 := Lib.hid ((hB1.block _ z0).trans H0.out); have z0 := Nat.lt_of_lt_of_le z0 hB1.size; have b0 : World.cell? _ ⟨_, 0, none⟩ = some (.slice A ns.length c) := blk_cell H0.out 0 rfl; have b1 : World.cell? _ ⟨_, 1, none⟩ = some (.slice B ss.length d) := blk_cell H0.out 1 rfl; have HW : Hid (Below w.heap.size w _) := Lib.hid (below_step (by first | exact HW.out | exact Below.drew HW.out | exact below_drewN HW.out _) hB1); clear hB1; rw [HL.out])
    | (go_at_call 22; with_reducible refine (refValid_any ns ss _ _ _ _ _ (HA.out.below HW.out) (HB.out.below HW.out) hl1 hl2).mono ?_; rintro e v2 ⟨rfl, hB2⟩; have H0 := Lib.hid ((hB2.block _ z0).trans H0.out); have z0 := Nat.lt_of_lt_of_le z0 hB2.size; have b0 : World.cell? _ ⟨_, 0, none⟩ = some (.slice A ns.length c) := blk_cell H0.out 0 rfl; have b1 : World.cell? _ ⟨_, 1, none⟩ = some (.slice B ss.length d) := blk_cell H0.out 1 rfl; have HW : Hid (Below w.heap.size w _) := Lib.hid (below_step (by first | exact HW.out | exact Below.drew HW.out | exact below_drewN HW.out _) hB2); clear hB2; rw [HV.out])
    | (go_at_call 44; with_reducible refine (wApart_yes ns ss _ _ _ _ _ (HA.out.below (by repeat (first | with_reducible exact HW.out | with_reducible exact Below.refl _ _ | with_reducible refine below_drewN ?_ _ | with_reducible refine Below.drew ?_ | (with_reducible refine Below.setCell ?_ (by first | exact Nat.le_refl _ | exact Nat.le_succ _ | (simp; done) | (simp; omega) | omega) _) | (with_reducible refine Below.alloc ?_ (by first | exact HW.out.size | (simp; done) | (simp; omega) | omega) _)))) (HB.out.below (by repeat (first | with_reducible exact HW.out | with_reducible exact Below.refl _ _ | with_reducible refine below_drewN ?_ _ | with_reducible refine Below.drew ?_ | (with_reducible refine Below.setCell ?_ (by first | exact Nat.le_refl _ | exact Nat.le_succ _ | (simp; done) | (simp; omega) | omega) _) | (with_reducible refine Below.alloc ?_ (by first | exact HW.out.size | (simp; done) | (simp; omega) | omega) _)))) HV.out).mono ?_; rintro e v3 ⟨rfl, hB3⟩; have hZ : v2.heap.size < (v2.alloc (.cells #[.int .i64 1, .int .i64 1] 28)).heap.size := (by simp); have H0 := Lib.hid ((Below.heap_alloc v2 (.cells #[.int .i64 1, .int .i64 1] 28) _ z0).trans H0.out); have z0 := Nat.lt_trans z0 hZ; have KI := Lib.hid (heap_alloc_atF (w := v2) (x := (.cells #[.int .i64 1, .int .i64 1] 28)) (g := v2.heap.size) (by first | rfl | simp)); have yI := (Array.getElem?_eq_some_iff.1 KI.out).1; have HW : Hid (Below w.heap.size w _) := Lib.hid (Below.alloc HW.out HW.out.size (.cells #[.int .i64 1, .int .i64 1] 28)); clear hZ; have b0 : World.cell? _ ⟨_, 0, none⟩ = some (.slice A ns.length c) := blk_cell H0.out 0 rfl; have b1 : World.cell? _ ⟨_, 1, none⟩ = some (.slice B ss.length d) := blk_cell H0.out 1 rfl; have I0 : World.cell? _ ⟨_, 0, none⟩ = some (.int .i64 1) := blk_cell KI.out 0 rfl; have I1 : World.cell? _ ⟨_, 1, none⟩ = some (.int .i64 1) := blk_cell KI.out 1 rfl; have H0 := Lib.hid ((hB3.block _ z0).trans H0.out); have z0 := Nat.lt_of_lt_of_le z0 hB3.size; have b0 : World.cell? _ ⟨_, 0, none⟩ = some (.slice A ns.length c) := blk_cell H0.out 0 rfl; have b1 : World.cell? _ ⟨_, 1, none⟩ = some (.slice B ss.length d) := blk_cell H0.out 1 rfl; have KI := Lib.hid ((hB3.block _ yI).trans KI.out); have yI := Nat.lt_of_lt_of_le yI hB3.size; have I0 : World.cell? _ ⟨_, 0, none⟩ = some (.int .i64 1) := blk_cell KI.out 0 rfl; have I1 : World.cell? _ ⟨_, 1, none⟩ = some (.int .i64 1) := blk_cell KI.out 1 rfl; have HW : Hid (Below w.heap.size w _) := Lib.hid (below_step (by first | exact HW.out | exact Below.drew HW.out | exact below_drewN HW.out _) hB3); clear hB3; rw [HP.out, HQ0.out])
    | (go_at_call 34; with_reducible refine (wDearest_yes ns ss _ _ _ _ 1 1 _ (HA.out.below (by repeat (first | with_reducible exact HW.out | with_reducible exact Below.refl _ _ | with_reducible refine below_drewN ?_ _ | with_reducible refine Below.drew ?_ | (with_reducible refine Below.setCell ?_ (by first | exact Nat.le_refl _ | exact Nat.le_succ _ | (simp; done) | (simp; omega) | omega) _) | (with_reducible refine Below.alloc ?_ (by first | exact HW.out.size | (simp; done) | (simp; omega) | omega) _)))) (HB.out.below (by repeat (first | with_reducible exact HW.out | with_reducible exact Below.refl _ _ | with_reducible refine below_drewN ?_ _ | with_reducible refine Below.drew ?_ | (with_reducible refine Below.setCell ?_ (by first | exact Nat.le_refl _ | exact Nat.le_succ _ | (simp; done) | (simp; omega) | omega) _) | (with_reducible refine Below.alloc ?_ (by first | exact HW.out.size | (simp; done) | (simp; omega) | omega) _)))) HV.out one_ok).mono ?_; rintro e v4 ⟨D', e', rfl, hO4, hB4⟩; have hZ : v3.heap.size < (v3.alloc (.cells #[.int .i64 P, .int .i64 Q] 28)).heap.size := (by simp); have H0 := Lib.hid ((Below.heap_alloc v3 (.cells #[.int .i64 P, .int .i64 Q] 28) _ z0).trans H0.out); have z0 := Nat.lt_trans z0 hZ; have KI := Lib.hid ((Below.heap_alloc v3 (.cells #[.int .i64 P, .int .i64 Q] 28) _ yI).trans KI.out); have yI := Nat.lt_trans yI hZ; have KP := Lib.hid (heap_alloc_atF (w := v3) (x := (.cells #[.int .i64 P, .int .i64 Q] 28)) (g := v3.heap.size) (by first | rfl | simp)); have yP := (Array.getElem?_eq_some_iff.1 KP.out).1; have HW : Hid (Below w.heap.size w _) := Lib.hid (Below.alloc HW.out HW.out.size (.cells #[.int .i64 P, .int .i64 Q] 28)); clear hZ; have b0 : World.cell? _ ⟨_, 0, none⟩ = some (.slice A ns.length c) := blk_cell H0.out 0 rfl; have b1 : World.cell? _ ⟨_, 1, none⟩ = some (.slice B ss.length d) := blk_cell H0.out 1 rfl; have I0 : World.cell? _ ⟨_, 0, none⟩ = some (.int .i64 1) := blk_cell KI.out 0 rfl; have I1 : World.cell? _ ⟨_, 1, none⟩ = some (.int .i64 1) := blk_cell KI.out 1 rfl; have P0 : World.cell? _ ⟨_, 0, none⟩ = some (.int .i64 P) := blk_cell KP.out 0 rfl; have P1 : World.cell? _ ⟨_, 1, none⟩ = some (.int .i64 Q) := blk_cell KP.out 1 rfl; have H0 := Lib.hid ((hB4.block _ z0).trans H0.out); have z0 := Nat.lt_of_lt_of_le z0 hB4.size; have b0 : World.cell? _ ⟨_, 0, none⟩ = some (.slice A ns.length c) := blk_cell H0.out 0 rfl; have b1 : World.cell? _ ⟨_, 1, none⟩ = some (.slice B ss.length d) := blk_cell H0.out 1 rfl; have KI := Lib.hid ((hB4.block _ yI).trans KI.out); have yI := Nat.lt_of_lt_of_le yI hB4.size; have I0 : World.cell? _ ⟨_, 0, none⟩ = some (.int .i64 1) := blk_cell KI.out 0 rfl; have I1 : World.cell? _ ⟨_, 1, none⟩ = some (.int .i64 1) := blk_cell KI.out 1 rfl; have KP := Lib.hid ((hB4.block _ yP).trans KP.out); have yP := Nat.lt_of_lt_of_le yP hB4.size; have P0 : World.cell? _ ⟨_, 0, none⟩ = some (.int .i64 P) := blk_cell KP.out 0 rfl; have P1 : World.cell? _ ⟨_, 1, none⟩ = some (.int .i64 Q) := blk_cell KP.out 1 rfl; have HW : Hid (Below w.heap.size w _) := Lib.hid (below_step (by first | exact HW.out | exact Below.drew HW.out | exact below_drewN HW.out _) hB4); have HWD : Hid (Below v4.heap.size v4 v4) := Lib.hid (Below.refl _ _); clear hB4; have HO4 := Lib.hid hO4.ints; clear hO4)
    | (go_at_call 49; with_reducible refine (wSwapped_yes ns ss _ _ _ _ _ (HA.out.below HW.out) (HB.out.below HW.out) HV.out).mono ?_; rintro e v5 ⟨S', s', N', n', rfl, hS, hN, hB5⟩; have H0 := Lib.hid ((hB5.block _ z0).trans H0.out); have z0 := Nat.lt_of_lt_of_le z0 hB5.size; have b0 : World.cell? _ ⟨_, 0, none⟩ = some (.slice A ns.length c) := blk_cell H0.out 0 rfl; have b1 : World.cell? _ ⟨_, 1, none⟩ = some (.slice B ss.length d) := blk_cell H0.out 1 rfl; have KI := Lib.hid ((hB5.block _ yI).trans KI.out); have yI := Nat.lt_of_lt_of_le yI hB5.size; have I0 : World.cell? _ ⟨_, 0, none⟩ = some (.int .i64 1) := blk_cell KI.out 0 rfl; have I1 : World.cell? _ ⟨_, 1, none⟩ = some (.int .i64 1) := blk_cell KI.out 1 rfl; have KP := Lib.hid ((hB5.block _ yP).trans KP.out); have yP := Nat.lt_of_lt_of_le yP hB5.size; have P0 : World.cell? _ ⟨_, 0, none⟩ = some (.int .i64 P) := blk_cell KP.out 0 rfl; have P1 : World.cell? _ ⟨_, 1, none⟩ = some (.int .i64 Q) := blk_cell KP.out 1 rfl; have HW : Hid (Below w.heap.size w _) := Lib.hid (below_step (by first | exact HW.out | exact Below.drew HW.out | exact below_drewN HW.out _) hB5); have HWD : Hid (Below v4.heap.size v4 _) := Lib.hid (below_step (by first | exact HWD.out | exact Below.drew HWD.out | exact below_drewN HWD.out _) hB5); have HWS : Hid (Below v5.heap.size v5 v5) := Lib.hid (Below.refl _ _); clear hB5; have HSS := Lib.hid hS.ints; have HNN := Lib.hid hN.ints; clear hS hN)
    | (go_at_call 57; with_reducible refine (small_any P Q _).mono ?_; rintro e v6 ⟨rfl, hB6⟩; have hZ : v5.heap.size < (v5.alloc (.cells #[(.slice S' ss.length s'), (.slice N' ns.length n')] 24)).heap.size := (by simp); have H0 := Lib.hid ((Below.heap_alloc v5 (.cells #[(.slice S' ss.length s'), (.slice N' ns.length n')] 24) _ z0).trans H0.out); have z0 := Nat.lt_trans z0 hZ; have KI := Lib.hid ((Below.heap_alloc v5 (.cells #[(.slice S' ss.length s'), (.slice N' ns.length n')] 24) _ yI).trans KI.out); have yI := Nat.lt_trans yI hZ; have KP := Lib.hid ((Below.heap_alloc v5 (.cells #[(.slice S' ss.length s'), (.slice N' ns.length n')] 24) _ yP).trans KP.out); have yP := Nat.lt_trans yP hZ; have KO := Lib.hid (heap_alloc_atF (w := v5) (x := (.cells #[(.slice S' ss.length s'), (.slice N' ns.length n')] 24)) (g := v5.heap.size) (by first | rfl | simp)); have yO := (Array.getElem?_eq_some_iff.1 KO.out).1; have HW : Hid (Below w.heap.size w _) := Lib.hid (Below.alloc HW.out HW.out.size (.cells #[(.slice S' ss.length s'), (.slice N' ns.length n')] 24)); have HWD : Hid (Below v4.heap.size v4 _) := Lib.hid (Below.alloc HWD.out HWD.out.size (.cells #[(.slice S' ss.length s'), (.slice N' ns.length n')] 24)); have HWS : Hid (Below v5.heap.size v5 _) := Lib.hid (Below.alloc HWS.out HWS.out.size (.cells #[(.slice S' ss.length s'), (.slice N' ns.length n')] 24)); clear hZ; have b0 : World.cell? _ ⟨_, 0, none⟩ = some (.slice A ns.length c) := blk_cell H0.out 0 rfl; have b1 : World.cell? _ ⟨_, 1, none⟩ = some (.slice B ss.length d) := blk_cell H0.out 1 rfl; have I0 : World.cell? _ ⟨_, 0, none⟩ = some (.int .i64 1) := blk_cell KI.out 0 rfl; have I1 : World.cell? _ ⟨_, 1, none⟩ = some (.int .i64 1) := blk_cell KI.out 1 rfl; have P0 : World.cell? _ ⟨_, 0, none⟩ = some (.int .i64 P) := blk_cell KP.out 0 rfl; have P1 : World.cell? _ ⟨_, 1, none⟩ = some (.int .i64 Q) := blk_cell KP.out 1 rfl; have O0 : World.cell? _ ⟨_, 0, none⟩ = some ((.slice S' ss.length s')) := blk_cell KO.out 0 rfl; have O1 : World.cell? _ ⟨_, 1, none⟩ = some ((.slice N' ns.length n')) := blk_cell KO.out 1 rfl; have H0 := Lib.hid ((hB6.block _ z0).trans H0.out); have z0 := Nat.lt_of_lt_of_le z0 hB6.size; have b0 : World.cell? _ ⟨_, 0, none⟩ = some (.slice A ns.length c) := blk_cell H0.out 0 rfl; have b1 : World.cell? _ ⟨_, 1, none⟩ = some (.slice B ss.length d) := blk_cell H0.out 1 rfl; have KI := Lib.hid ((hB6.block _ yI).trans KI.out); have yI := Nat.lt_of_lt_of_le yI hB6.size; have I0 : World.cell? _ ⟨_, 0, none⟩ = some (.int .i64 1) := blk_cell KI.out 0 rfl; have I1 : World.cell? _ ⟨_, 1, none⟩ = some (.int .i64 1) := blk_cell KI.out 1 rfl; have KP := Lib.hid ((hB6.block _ yP).trans KP.out); have yP := Nat.lt_of_lt_of_le yP hB6.size; have P0 : World.cell? _ ⟨_, 0, none⟩ = some (.int .i64 P) := blk_cell KP.out 0 rfl; have P1 : World.cell? _ ⟨_, 1, none⟩ = some (.int .i64 Q) := blk_cell KP.out 1 rfl; have KO := Lib.hid ((hB6.block _ yO).trans KO.out); have yO := Nat.lt_of_lt_of_le yO hB6.size; have O0 : World.cell? _ ⟨_, 0, none⟩ = some ((.slice S' ss.length s')) := blk_cell KO.out 0 rfl; have O1 : World.cell? _ ⟨_, 1, none⟩ = some ((.slice N' ns.length n')) := blk_cell KO.out 1 rfl; have HW : Hid (Below w.heap.size w _) := Lib.hid (below_step (by first | exact HW.out | exact Below.drew HW.out | exact below_drewN HW.out _) hB6); have HWD : Hid (Below v4.heap.size v4 _) := Lib.hid (below_step (by first | exact HWD.out | exact Below.drew HWD.out | exact below_drewN HWD.out _) hB6); have HWS : Hid (Below v5.heap.size v5 _) := Lib.hid (below_step (by first | exact HWS.out | exact Below.drew HWS.out | exact below_drewN HWS.out _) hB6); clear hB6; rw [S1.out])
    | (go_at_call 32; with_reducible refine (wGain_yes ns ss (deL ns ss 1 1) A B D' c d e' 1 1 _ (HA.out.below HW.out) (HB.out.below HW.out) (HO4.out.below HWD.out) HV.out one_ok HDC.out).mono ?_; rintro e v7 ⟨rfl, hB7⟩; have H0 := Lib.hid ((hB7.block _ z0).trans H0.out); have z0 := Nat.lt_of_lt_of_le z0 hB7.size; have b0 : World.cell? _ ⟨_, 0, none⟩ = some (.slice A ns.length c) := blk_cell H0.out 0 rfl; have b1 : World.cell? _ ⟨_, 1, none⟩ = some (.slice B ss.length d) := blk_cell H0.out 1 rfl; have KI := Lib.hid ((hB7.block _ yI).trans KI.out); have yI := Nat.lt_of_lt_of_le yI hB7.size; have I0 : World.cell? _ ⟨_, 0, none⟩ = some (.int .i64 1) := blk_cell KI.out 0 rfl; have I1 : World.cell? _ ⟨_, 1, none⟩ = some (.int .i64 1) := blk_cell KI.out 1 rfl; have KP := Lib.hid ((hB7.block _ yP).trans KP.out); have yP := Nat.lt_of_lt_of_le yP hB7.size; have P0 : World.cell? _ ⟨_, 0, none⟩ = some (.int .i64 P) := blk_cell KP.out 0 rfl; have P1 : World.cell? _ ⟨_, 1, none⟩ = some (.int .i64 Q) := blk_cell KP.out 1 rfl; have KO := Lib.hid ((hB7.block _ yO).trans KO.out); have yO := Nat.lt_of_lt_of_le yO hB7.size; have O0 : World.cell? _ ⟨_, 0, none⟩ = some ((.slice S' ss.length s')) := blk_cell KO.out 0 rfl; have O1 : World.cell? _ ⟨_, 1, none⟩ = some ((.slice N' ns.length n')) := blk_cell KO.out 1 rfl; have HW : Hid (Below w.heap.size w _) := Lib.hid (below_step (by first | exact HW.out | exact Below.drew HW.out | exact below_drewN HW.out _) hB7); have HWD : Hid (Below v4.heap.size v4 _) := Lib.hid (below_step (by first | exact HWD.out | exact Below.drew HWD.out | exact below_drewN HWD.out _) hB7); have HWS : Hid (Below v5.heap.size v5 _) := Lib.hid (below_step (by first | exact HWS.out | exact Below.drew HWS.out | exact below_drewN HWS.out _) hB7); clear hB7; rw [HG.out.1, HG.out.2])
    | (go_at_call 44; with_reducible refine (wApart_yes ss ns S' N' s' n' _ (HSS.out.below (by refine Below.alloc HWS.out HWS.out.size _)) (HNN.out.below (by refine Below.alloc HWS.out HWS.out.size _)) HVS.out).mono ?_; rintro e v8 ⟨rfl, hB8⟩; have hZ : v7.heap.size < (v7.alloc (.cells #[.int .i64 P, .int .i64 Q] 28)).heap.size := (by simp); have H0 := Lib.hid ((Below.heap_alloc v7 (.cells #[.int .i64 P, .int .i64 Q] 28) _ z0).trans H0.out); have z0 := Nat.lt_trans z0 hZ; have KI := Lib.hid ((Below.heap_alloc v7 (.cells #[.int .i64 P, .int .i64 Q] 28) _ yI).trans KI.out); have yI := Nat.lt_trans yI hZ; have KP := Lib.hid ((Below.heap_alloc v7 (.cells #[.int .i64 P, .int .i64 Q] 28) _ yP).trans KP.out); have yP := Nat.lt_trans yP hZ; have KO := Lib.hid ((Below.heap_alloc v7 (.cells #[.int .i64 P, .int .i64 Q] 28) _ yO).trans KO.out); have yO := Nat.lt_trans yO hZ; have KG := Lib.hid (heap_alloc_atF (w := v7) (x := (.cells #[.int .i64 P, .int .i64 Q] 28)) (g := v7.heap.size) (by first | rfl | simp)); have yG := (Array.getElem?_eq_some_iff.1 KG.out).1; have HW : Hid (Below w.heap.size w _) := Lib.hid (Below.alloc HW.out HW.out.size (.cells #[.int .i64 P, .int .i64 Q] 28)); have HWD : Hid (Below v4.heap.size v4 _) := Lib.hid (Below.alloc HWD.out HWD.out.size (.cells #[.int .i64 P, .int .i64 Q] 28)); have HWS : Hid (Below v5.heap.size v5 _) := Lib.hid (Below.alloc HWS.out HWS.out.size (.cells #[.int .i64 P, .int .i64 Q] 28)); clear hZ; have b0 : World.cell? _ ⟨_, 0, none⟩ = some (.slice A ns.length c) := blk_cell H0.out 0 rfl; have b1 : World.cell? _ ⟨_, 1, none⟩ = some (.slice B ss.length d) := blk_cell H0.out 1 rfl; have I0 : World.cell? _ ⟨_, 0, none⟩ = some (.int .i64 1) := blk_cell KI.out 0 rfl; have I1 : World.cell? _ ⟨_, 1, none⟩ = some (.int .i64 1) := blk_cell KI.out 1 rfl; have P0 : World.cell? _ ⟨_, 0, none⟩ = some (.int .i64 P) := blk_cell KP.out 0 rfl; have P1 : World.cell? _ ⟨_, 1, none⟩ = some (.int .i64 Q) := blk_cell KP.out 1 rfl; have O0 : World.cell? _ ⟨_, 0, none⟩ = some ((.slice S' ss.length s')) := blk_cell KO.out 0 rfl; have O1 : World.cell? _ ⟨_, 1, none⟩ = some ((.slice N' ns.length n')) := blk_cell KO.out 1 rfl; have G0 : World.cell? _ ⟨_, 0, none⟩ = some (.int .i64 P) := blk_cell KG.out 0 rfl; have G1 : World.cell? _ ⟨_, 1, none⟩ = some (.int .i64 Q) := blk_cell KG.out 1 rfl; have H0 := Lib.hid ((hB8.block _ z0).trans H0.out); have z0 := Nat.lt_of_lt_of_le z0 hB8.size; have b0 : World.cell? _ ⟨_, 0, none⟩ = some (.slice A ns.length c) := blk_cell H0.out 0 rfl; have b1 : World.cell? _ ⟨_, 1, none⟩ = some (.slice B ss.length d) := blk_cell H0.out 1 rfl; have KI := Lib.hid ((hB8.block _ yI).trans KI.out); have yI := Nat.lt_of_lt_of_le yI hB8.size; have I0 : World.cell? _ ⟨_, 0, none⟩ = some (.int .i64 1) := blk_cell KI.out 0 rfl; have I1 : World.cell? _ ⟨_, 1, none⟩ = some (.int .i64 1) := blk_cell KI.out 1 rfl; have KP := Lib.hid ((hB8.block _ yP).trans KP.out); have yP := Nat.lt_of_lt_of_le yP hB8.size; have P0 : World.cell? _ ⟨_, 0, none⟩ = some (.int .i64 P) := blk_cell KP.out 0 rfl; have P1 : World.cell? _ ⟨_, 1, none⟩ = some (.int .i64 Q) := blk_cell KP.out 1 rfl; have KO := Lib.hid ((hB8.block _ yO).trans KO.out); have yO := Nat.lt_of_lt_of_le yO hB8.size; have O0 : World.cell? _ ⟨_, 0, none⟩ = some ((.slice S' ss.length s')) := blk_cell KO.out 0 rfl; have O1 : World.cell? _ ⟨_, 1, none⟩ = some ((.slice N' ns.length n')) := blk_cell KO.out 1 rfl; have KG := Lib.hid ((hB8.block _ yG).trans KG.out); have yG := Nat.lt_of_lt_of_le yG hB8.size; have G0 : World.cell? _ ⟨_, 0, none⟩ = some (.int .i64 P) := blk_cell KG.out 0 rfl; have G1 : World.cell? _ ⟨_, 1, none⟩ = some (.int .i64 Q) := blk_cell KG.out 1 rfl; have HW : Hid (Below w.heap.size w _) := Lib.hid (below_step (by first | exact HW.out | exact Below.drew HW.out | exact below_drewN HW.out _) hB8); have HWD : Hid (Below v4.heap.size v4 _) := Lib.hid (below_step (by first | exact HWD.out | exact Below.drew HWD.out | exact below_drewN HWD.out _) hB8); have HWS : Hid (Below v5.heap.size v5 _) := Lib.hid (below_step (by first | exact HWS.out | exact Below.drew HWS.out | exact below_drewN HWS.out _) hB8); clear hB8; rw [HSW.out.1, HSW.out.2]))
  have hZ : v8.heap.size < (v8.alloc (.cells #[.int .i64 P, .int .i64 Q] 28)).heap.size := (by simp)
  have H0 := Lib.hid ((Below.heap_alloc v8 (.cells #[.int .i64 P, .int .i64 Q] 28) _ z0).trans H0.out)
  have z0 := Nat.lt_trans z0 hZ
  have KI := Lib.hid ((Below.heap_alloc v8 (.cells #[.int .i64 P, .int .i64 Q] 28) _ yI).trans KI.out)
  have yI := Nat.lt_trans yI hZ
  have KP := Lib.hid ((Below.heap_alloc v8 (.cells #[.int .i64 P, .int .i64 Q] 28) _ yP).trans KP.out)
  have yP := Nat.lt_trans yP hZ
  have KO := Lib.hid ((Below.heap_alloc v8 (.cells #[.int .i64 P, .int .i64 Q] 28) _ yO).trans KO.out)
  have yO := Nat.lt_trans yO hZ
  have KG := Lib.hid ((Below.heap_alloc v8 (.cells #[.int .i64 P, .int .i64 Q] 28) _ yG).trans KG.out)
  have yG := Nat.lt_trans yG hZ
  have KT := Lib.hid (heap_alloc_atF (w := v8) (x := (.cells #[.int .i64 P, .int .i64 Q] 28)) (g := v8.heap.size) (by first | rfl | simp))
  have yT := (Array.getElem?_eq_some_iff.1 KT.out).1
  have HW : Hid (Below w.heap.size w _) := Lib.hid (Below.alloc HW.out HW.out.size (.cells #[.int .i64 P, .int .i64 Q] 28))
  have HWD : Hid (Below v4.heap.size v4 _) := Lib.hid (Below.alloc HWD.out HWD.out.size (.cells #[.int .i64 P, .int .i64 Q] 28))
  have HWS : Hid (Below v5.heap.size v5 _) := Lib.hid (Below.alloc HWS.out HWS.out.size (.cells #[.int .i64 P, .int .i64 Q] 28))
  clear hZ
  have b0 : World.cell? _ ⟨_, 0, none⟩ = some (.slice A ns.length c) := blk_cell H0.out 0 rfl
  have b1 : World.cell? _ ⟨_, 1, none⟩ = some (.slice B ss.length d) := blk_cell H0.out 1 rfl
  have I0 : World.cell? _ ⟨_, 0, none⟩ = some (.int .i64 1) := blk_cell KI.out 0 rfl
  have I1 : World.cell? _ ⟨_, 1, none⟩ = some (.int .i64 1) := blk_cell KI.out 1 rfl
  have P0 : World.cell? _ ⟨_, 0, none⟩ = some (.int .i64 P) := blk_cell KP.out 0 rfl
  have P1 : World.cell? _ ⟨_, 1, none⟩ = some (.int .i64 Q) := blk_cell KP.out 1 rfl
  have O0 : World.cell? _ ⟨_, 0, none⟩ = some ((.slice S' ss.length s')) := blk_cell KO.out 0 rfl
  have O1 : World.cell? _ ⟨_, 1, none⟩ = some ((.slice N' ns.length n')) := blk_cell KO.out 1 rfl
  have G0 : World.cell? _ ⟨_, 0, none⟩ = some (.int .i64 P) := blk_cell KG.out 0 rfl
  have G1 : World.cell? _ ⟨_, 1, none⟩ = some (.int .i64 Q) := blk_cell KG.out 1 rfl
  have T0 : World.cell? _ ⟨_, 0, none⟩ = some (.int .i64 P) := blk_cell KT.out 0 rfl
  have T1 : World.cell? _ ⟨_, 1, none⟩ = some (.int .i64 Q) := blk_cell KT.out 1 rfl
  generalize hY : (v8.alloc (.cells #[.int .i64 P, .int .i64 Q] 28)) = Y at *
  clear hY
  have HTN : Hid (∀ m : Nat, Calls Try.prog 58 #[.slice A ns.length c] (Y.drewN m) fun e w' => e = .returned (.int .i64 ns.sum) ∧ w' = Y.drewN m) := Lib.hid (fun m => (total_any ns A c _ (HA.out.below (below_drewN HW.out m)) hl1 ho.nb9).mono fun e w' h => ⟨h.1, h.2.symm⟩)
  have HTS : Hid (∀ m : Nat, Calls Try.prog 58 #[.slice B ss.length d] (Y.drewN m) fun e w' => e = .returned (.int .i64 ss.sum) ∧ w' = Y.drewN m) := Lib.hid (fun m => (total_any ss B d _ (HB.out.below (below_drewN HW.out m)) hl2 ho.sb9).mono fun e w' h => ⟨h.1, h.2.symm⟩)
  go_quiet ((first | (go_at_call 58; with_reducible exact Calls.quiet_of_same (HTN.out _)) | (go_at_call 58; with_reducible exact Calls.quiet_of_same (HTS.out _))))
  go_wp2
  go_loopw [14, 103] (fun v i wr => ∃ k m : Nat, k ≤ ns.length ∧ v = .int .i64 (twK ns ss k) ∧ i = .int .i64 k ∧ wr = Y.drewN m) (fun _ i _ => ns.length - (intOf i).toNat)
  case atStart => exact ⟨0, _, Nat.zero_le _, rfl, rfl, rfl⟩
  case round =>
    obtain ⟨k, m, hk, rfl, rfl, hwr⟩ := hrel
    by_cases hlt : k < ns.length
    · have HWr : Hid (Below w.heap.size w wr) := Lib.hid (by rw [hwr]; exact below_drewN HW.out m)
      have b0 : wr.cell? ⟨w.heap.size, 0, none⟩ = some (.slice A ns.length c) := by rw [hwr]; exact b0
      have b1 : wr.cell? ⟨w.heap.size, 1, none⟩ = some (.slice B ss.length d) := by rw [hwr]; exact b1
      have HWR := Lib.hid hwr
      clear hwr
      have hn2 := ho.le
      obtain ⟨ad, bd, x, y, rfl, rfl, c1, c2, f1, f2, x0, x1, y0, y1⟩ := ho.at_ (HA.out.below HWr.out) (HB.out.below HWr.out) hlt
      have HT2N : Hid (∀ j : Nat, Calls Try.prog 58 #[.slice (some ad) ns.length c] (wr.drewN j) fun e w' => e = .returned (.int .i64 ns.sum) ∧ w' = wr.drewN j) := Lib.hid (fun j => (total_any ns (some ad) c _ (HA.out.below (below_drewN HWr.out j)) hl1 ho.nb9).mono fun e w' h => ⟨h.1, h.2.symm⟩)
      have HT2S : Hid (∀ j : Nat, Calls Try.prog 58 #[.slice (some bd) ss.length d] (wr.drewN j) fun e w' => e = .returned (.int .i64 ss.sum) ∧ w' = wr.drewN j) := Lib.hid (fun j => (total_any ss (some bd) d _ (HB.out.below (below_drewN HWr.out j)) hl2 ho.sb9).mono fun e w' h => ⟨h.1, h.2.symm⟩)
      have HT := Lib.hid (twK_succ (ns := ns) (ss := ss) hlt)
      rw [f1.out, f2.out] at HT
      have hb := twK_bd ho k hk
      generalize twK ns ss k = t at *
      have h0 := ho.np
      have h1 := ho.nm
      have h2 := ho.sp
      have h3' := ho.sm
      have hlen := ho.len
      have hlt2 : k < ss.length := by omega
      obtain ⟨m0, m1⟩ := mul_bd (a := y) (b := ns.sum) (A := 1000) (B := 10000) y0 y1 (by omega) (by omega)
      obtain ⟨m2, m3⟩ := mul_bd (a := x) (b := ss.sum) (A := 1000) (B := 10000) x0 x1 (by omega) (by omega)
      have tb0 : 0 ≤ t := hb.1
      have tb1 : t ≤ 200000000 := by omega
      clear hb hlen
      by_cases hneg : y * ns.sum - x * ss.sum < -(y * ns.sum - x * ss.sum)
      · have hmx : (if y * ns.sum - x * ss.sum < -(y * ns.sum - x * ss.sum) then -(y * ns.sum - x * ss.sum) else y * ns.sum - x * ss.sum) = -(y * ns.sum - x * ss.sum) := if_pos hneg
        have HM : Hid (twSum.absW (y * ns.sum - x * ss.sum) = -(y * ns.sum - x * ss.sum)) := Lib.hid (by unfold twSum.absW; omega)
        go_wp2
        go_quiet ((first | (go_at_call 58; with_reducible exact Calls.quiet_of_same (HT2N.out _)) | (go_at_call 58; with_reducible exact Calls.quiet_of_same (HT2S.out _)) | (go_at_call 58; with_reducible exact Calls.quiet_of_same (HTN.out _)) | (go_at_call 58; with_reducible exact Calls.quiet_of_same (HTS.out _))))
        go_wp2
        all_goals
          go_roundw
          case rel => exact ⟨k + 1, _, by omega, by rw [HT.out, HM.out], by go_num, (by rw [HWR.out]; first | rfl | exact World.drewN_drewN _ _ _)⟩
          case measure => simp [intOf]; omega
      · have hmx : (if y * ns.sum - x * ss.sum < -(y * ns.sum - x * ss.sum) then -(y * ns.sum - x * ss.sum) else y * ns.sum - x * ss.sum) = y * ns.sum - x * ss.sum := if_neg hneg
        have HM : Hid (twSum.absW (y * ns.sum - x * ss.sum) = y * ns.sum - x * ss.sum) := Lib.hid (by unfold twSum.absW; omega)
        go_wp2
        go_quiet ((first | (go_at_call 58; with_reducible exact Calls.quiet_of_same (HT2N.out _)) | (go_at_call 58; with_reducible exact Calls.quiet_of_same (HT2S.out _)) | (go_at_call 58; with_reducible exact Calls.quiet_of_same (HTN.out _)) | (go_at_call 58; with_reducible exact Calls.quiet_of_same (HTS.out _))))
        go_wp2
        all_goals
          go_roundw
          case rel => exact ⟨k + 1, _, by omega, by rw [HT.out, HM.out], by go_num, (by rw [HWR.out]; first | rfl | exact World.drewN_drewN _ _ _)⟩
          case measure => simp [intOf]; omega
    · obtain rfl : k = ns.length := by omega
      rw [HTW.out]
      subst hwr
      generalize hZ : Y.drewN m = Z
      have HWZ : Hid (Below Y.heap.size Y Z) := Lib.hid (by rw [← hZ]; exact below_drewN (Below.refl _ _) m)
      have H0 := Lib.hid ((HWZ.out.block _ z0).trans H0.out); have z0 := Nat.lt_of_lt_of_le z0 HWZ.out.size
      have b0 : World.cell? _ ⟨_, 0, none⟩ = some (.slice A ns.length c) := blk_cell H0.out 0 rfl
      have b1 : World.cell? _ ⟨_, 1, none⟩ = some (.slice B ss.length d) := blk_cell H0.out 1 rfl
      have KI := Lib.hid ((HWZ.out.block _ yI).trans KI.out); have yI := Nat.lt_of_lt_of_le yI HWZ.out.size
      have I0 : World.cell? _ ⟨_, 0, none⟩ = some (.int .i64 1) := blk_cell KI.out 0 rfl
      have I1 : World.cell? _ ⟨_, 1, none⟩ = some (.int .i64 1) := blk_cell KI.out 1 rfl
      have KP := Lib.hid ((HWZ.out.block _ yP).trans KP.out); have yP := Nat.lt_of_lt_of_le yP HWZ.out.size
      have P0 : World.cell? _ ⟨_, 0, none⟩ = some (.int .i64 P) := blk_cell KP.out 0 rfl
      have P1 : World.cell? _ ⟨_, 1, none⟩ = some (.int .i64 Q) := blk_cell KP.out 1 rfl
      have KO := Lib.hid ((HWZ.out.block _ yO).trans KO.out); have yO := Nat.lt_of_lt_of_le yO HWZ.out.size
      have O0 : World.cell? _ ⟨_, 0, none⟩ = some ((.slice S' ss.length s')) := blk_cell KO.out 0 rfl
      have O1 : World.cell? _ ⟨_, 1, none⟩ = some ((.slice N' ns.length n')) := blk_cell KO.out 1 rfl
      have KG := Lib.hid ((HWZ.out.block _ yG).trans KG.out); have yG := Nat.lt_of_lt_of_le yG HWZ.out.size
      have G0 : World.cell? _ ⟨_, 0, none⟩ = some (.int .i64 P) := blk_cell KG.out 0 rfl
      have G1 : World.cell? _ ⟨_, 1, none⟩ = some (.int .i64 Q) := blk_cell KG.out 1 rfl
      have KT := Lib.hid ((HWZ.out.block _ yT).trans KT.out); have yT := Nat.lt_of_lt_of_le yT HWZ.out.size
      have T0 : World.cell? _ ⟨_, 0, none⟩ = some (.int .i64 P) := blk_cell KT.out 0 rfl
      have T1 : World.cell? _ ⟨_, 1, none⟩ = some (.int .i64 Q) := blk_cell KT.out 1 rfl
      have HW : Hid (Below w.heap.size w _) := Lib.hid (below_step HW.out HWZ.out)
      have HWD : Hid (Below v4.heap.size v4 _) := Lib.hid (below_step HWD.out HWZ.out)
      have HWS : Hid (Below v5.heap.size v5 _) := Lib.hid (below_step HWS.out HWZ.out)
      clear hZ HWZ
      go_wp2
      go_region_held3 (fun W => W.cell? ⟨v3.heap.size, 0, none⟩ = some (.int .i64 P) ∧ W.cell? ⟨v3.heap.size, 1, none⟩ = some (.int .i64 Q))
        ((first | with_reducible exact ⟨P0, P1⟩ | exact ⟨P0, P1⟩))
        ((go_at_call 59; with_reducible refine (refRatio_any (2 * apV ns ss) (2 * (ns.sum * ss.sum)) _ (by omega) (by omega) (by omega) (by omega)).mono ?_; rintro e v21 ⟨rfl, hB21⟩; have H0 := Lib.hid ((hB21.block _ z0).trans H0.out); have z0 := Nat.lt_of_lt_of_le z0 hB21.size; have b0 : World.cell? _ ⟨_, 0, none⟩ = some (.slice A ns.length c) := blk_cell H0.out 0 rfl; have b1 : World.cell? _ ⟨_, 1, none⟩ = some (.slice B ss.length d) := blk_cell H0.out 1 rfl; have KI := Lib.hid ((hB21.block _ yI).trans KI.out); have yI := Nat.lt_of_lt_of_le yI hB21.size; have I0 : World.cell? _ ⟨_, 0, none⟩ = some (.int .i64 1) := blk_cell KI.out 0 rfl; have I1 : World.cell? _ ⟨_, 1, none⟩ = some (.int .i64 1) := blk_cell KI.out 1 rfl; have KP := Lib.hid ((hB21.block _ yP).trans KP.out); have yP := Nat.lt_of_lt_of_le yP hB21.size; have P0 : World.cell? _ ⟨_, 0, none⟩ = some (.int .i64 P) := blk_cell KP.out 0 rfl; have P1 : World.cell? _ ⟨_, 1, none⟩ = some (.int .i64 Q) := blk_cell KP.out 1 rfl; have KO := Lib.hid ((hB21.block _ yO).trans KO.out); have yO := Nat.lt_of_lt_of_le yO hB21.size; have O0 : World.cell? _ ⟨_, 0, none⟩ = some ((.slice S' ss.length s')) := blk_cell KO.out 0 rfl; have O1 : World.cell? _ ⟨_, 1, none⟩ = some ((.slice N' ns.length n')) := blk_cell KO.out 1 rfl; have KG := Lib.hid ((hB21.block _ yG).trans KG.out); have yG := Nat.lt_of_lt_of_le yG hB21.size; have G0 : World.cell? _ ⟨_, 0, none⟩ = some (.int .i64 P) := blk_cell KG.out 0 rfl; have G1 : World.cell? _ ⟨_, 1, none⟩ = some (.int .i64 Q) := blk_cell KG.out 1 rfl; have KT := Lib.hid ((hB21.block _ yT).trans KT.out); have yT := Nat.lt_of_lt_of_le yT hB21.size; have T0 : World.cell? _ ⟨_, 0, none⟩ = some (.int .i64 P) := blk_cell KT.out 0 rfl; have T1 : World.cell? _ ⟨_, 1, none⟩ = some (.int .i64 Q) := blk_cell KT.out 1 rfl; have HW : Hid (Below w.heap.size w _) := Lib.hid (below_step (by first | exact HW.out | exact Below.drew HW.out | exact below_drewN HW.out _) hB21); have HWD : Hid (Below v4.heap.size v4 _) := Lib.hid (below_step (by first | exact HWD.out | exact Below.drew HWD.out | exact below_drewN HWD.out _) hB21); have HWS : Hid (Below v5.heap.size v5 _) := Lib.hid (below_step (by first | exact HWS.out | exact Below.drew HWS.out | exact below_drewN HWS.out _) hB21); clear hB21; rw [HLT.out.1, HLT.out.2]))
      go_wp2_with (first
        | (go_at_call 55; with_reducible refine (isCut_any ns ss cs _ _ _ _ _ _ _ (HC.out.below (by first | exact HW.out | exact Below.drew HW.out | exact below_drewN HW.out _)) hl3).mono ?_; rintro e v22 ⟨rfl, hB22⟩; have H0 := Lib.hid ((hB22.block _ z0).trans H0.out); have z0 := Nat.lt_of_lt_of_le z0 hB22.size; have b0 : World.cell? _ ⟨_, 0, none⟩ = some (.slice A ns.length c) := blk_cell H0.out 0 rfl; have b1 : World.cell? _ ⟨_, 1, none⟩ = some (.slice B ss.length d) := blk_cell H0.out 1 rfl; have KI := Lib.hid ((hB22.block _ yI).trans KI.out); have yI := Nat.lt_of_lt_of_le yI hB22.size; have I0 : World.cell? _ ⟨_, 0, none⟩ = some (.int .i64 1) := blk_cell KI.out 0 rfl; have I1 : World.cell? _ ⟨_, 1, none⟩ = some (.int .i64 1) := blk_cell KI.out 1 rfl; have KP := Lib.hid ((hB22.block _ yP).trans KP.out); have yP := Nat.lt_of_lt_of_le yP hB22.size; have P0 : World.cell? _ ⟨_, 0, none⟩ = some (.int .i64 P) := blk_cell KP.out 0 rfl; have P1 : World.cell? _ ⟨_, 1, none⟩ = some (.int .i64 Q) := blk_cell KP.out 1 rfl; have KO := Lib.hid ((hB22.block _ yO).trans KO.out); have yO := Nat.lt_of_lt_of_le yO hB22.size; have O0 : World.cell? _ ⟨_, 0, none⟩ = some ((.slice S' ss.length s')) := blk_cell KO.out 0 rfl; have O1 : World.cell? _ ⟨_, 1, none⟩ = some ((.slice N' ns.length n')) := blk_cell KO.out 1 rfl; have KG := Lib.hid ((hB22.block _ yG).trans KG.out); have yG := Nat.lt_of_lt_of_le yG hB22.size; have G0 : World.cell? _ ⟨_, 0, none⟩ = some (.int .i64 P) := blk_cell KG.out 0 rfl; have G1 : World.cell? _ ⟨_, 1, none⟩ = some (.int .i64 Q) := blk_cell KG.out 1 rfl; have KT := Lib.hid ((hB22.block _ yT).trans KT.out); have yT := Nat.lt_of_lt_of_le yT hB22.size; have T0 : World.cell? _ ⟨_, 0, none⟩ = some (.int .i64 P) := blk_cell KT.out 0 rfl; have T1 : World.cell? _ ⟨_, 1, none⟩ = some (.int .i64 Q) := blk_cell KT.out 1 rfl; have HW : Hid (Below w.heap.size w _) := Lib.hid (below_step (by first | exact HW.out | exact Below.drew HW.out | exact below_drewN HW.out _) hB22); have HWD : Hid (Below v4.heap.size v4 _) := Lib.hid (below_step (by first | exact HWD.out | exact Below.drew HWD.out | exact below_drewN HWD.out _) hB22); have HWS : Hid (Below v5.heap.size v5 _) := Lib.hid (below_step (by first | exact HWS.out | exact Below.drew HWS.out | exact below_drewN HWS.out _) hB22); clear hB22; rw [HQ.out])
        | (go_at_call 32; with_reducible refine (wGain_yes ns ss cs A B C c d e1 1 1 _ (HA.out.below HW.out) (HB.out.below HW.out) (HC.out.below HW.out) HV.out one_ok HQ.out).mono ?_; rintro e v23 ⟨rfl, hB23⟩; have H0 := Lib.hid ((hB23.block _ z0).trans H0.out); have z0 := Nat.lt_of_lt_of_le z0 hB23.size; have b0 : World.cell? _ ⟨_, 0, none⟩ = some (.slice A ns.length c) := blk_cell H0.out 0 rfl; have b1 : World.cell? _ ⟨_, 1, none⟩ = some (.slice B ss.length d) := blk_cell H0.out 1 rfl; have KI := Lib.hid ((hB23.block _ yI).trans KI.out); have yI := Nat.lt_of_lt_of_le yI hB23.size; have I0 : World.cell? _ ⟨_, 0, none⟩ = some (.int .i64 1) := blk_cell KI.out 0 rfl; have I1 : World.cell? _ ⟨_, 1, none⟩ = some (.int .i64 1) := blk_cell KI.out 1 rfl; have KP := Lib.hid ((hB23.block _ yP).trans KP.out); have yP := Nat.lt_of_lt_of_le yP hB23.size; have P0 : World.cell? _ ⟨_, 0, none⟩ = some (.int .i64 P) := blk_cell KP.out 0 rfl; have P1 : World.cell? _ ⟨_, 1, none⟩ = some (.int .i64 Q) := blk_cell KP.out 1 rfl; have KO := Lib.hid ((hB23.block _ yO).trans KO.out); have yO := Nat.lt_of_lt_of_le yO hB23.size; have O0 : World.cell? _ ⟨_, 0, none⟩ = some ((.slice S' ss.length s')) := blk_cell KO.out 0 rfl; have O1 : World.cell? _ ⟨_, 1, none⟩ = some ((.slice N' ns.length n')) := blk_cell KO.out 1 rfl; have KG := Lib.hid ((hB23.block _ yG).trans KG.out); have yG := Nat.lt_of_lt_of_le yG hB23.size; have G0 : World.cell? _ ⟨_, 0, none⟩ = some (.int .i64 P) := blk_cell KG.out 0 rfl; have G1 : World.cell? _ ⟨_, 1, none⟩ = some (.int .i64 Q) := blk_cell KG.out 1 rfl; have KT := Lib.hid ((hB23.block _ yT).trans KT.out); have yT := Nat.lt_of_lt_of_le yT hB23.size; have T0 : World.cell? _ ⟨_, 0, none⟩ = some (.int .i64 P) := blk_cell KT.out 0 rfl; have T1 : World.cell? _ ⟨_, 1, none⟩ = some (.int .i64 Q) := blk_cell KT.out 1 rfl; have HW : Hid (Below w.heap.size w _) := Lib.hid (below_step (by first | exact HW.out | exact Below.drew HW.out | exact below_drewN HW.out _) hB23); have HWD : Hid (Below v4.heap.size v4 _) := Lib.hid (below_step (by first | exact HWD.out | exact Below.drew HWD.out | exact below_drewN HWD.out _) hB23); have HWS : Hid (Below v5.heap.size v5 _) := Lib.hid (below_step (by first | exact HWS.out | exact Below.drew HWS.out | exact below_drewN HWS.out _) hB23); clear hB23; rw [HGC.out.1, HGC.out.2])
        | (go_at_call 54; with_reducible refine (lessR_any P Q p q _ hb1 hb2 hb3 hb4).mono ?_; rintro e v24 ⟨rfl, hB24⟩; have hZ : v23.heap.size < (v23.alloc (.cells #[.int .i64 p, .int .i64 q] 28)).heap.size := (by simp); have H0 := Lib.hid ((Below.heap_alloc v23 (.cells #[.int .i64 p, .int .i64 q] 28) _ z0).trans H0.out); have z0 := Nat.lt_trans z0 hZ; have KI := Lib.hid ((Below.heap_alloc v23 (.cells #[.int .i64 p, .int .i64 q] 28) _ yI).trans KI.out); have yI := Nat.lt_trans yI hZ; have KP := Lib.hid ((Below.heap_alloc v23 (.cells #[.int .i64 p, .int .i64 q] 28) _ yP).trans KP.out); have yP := Nat.lt_trans yP hZ; have KO := Lib.hid ((Below.heap_alloc v23 (.cells #[.int .i64 p, .int .i64 q] 28) _ yO).trans KO.out); have yO := Nat.lt_trans yO hZ; have KG := Lib.hid ((Below.heap_alloc v23 (.cells #[.int .i64 p, .int .i64 q] 28) _ yG).trans KG.out); have yG := Nat.lt_trans yG hZ; have KT := Lib.hid ((Below.heap_alloc v23 (.cells #[.int .i64 p, .int .i64 q] 28) _ yT).trans KT.out); have yT := Nat.lt_trans yT hZ; have KM := Lib.hid (heap_alloc_atF (w := v23) (x := (.cells #[.int .i64 p, .int .i64 q] 28)) (g := v23.heap.size) (by first | rfl | simp)); have yM := (Array.getElem?_eq_some_iff.1 KM.out).1; have HW : Hid (Below w.heap.size w _) := Lib.hid (Below.alloc HW.out HW.out.size (.cells #[.int .i64 p, .int .i64 q] 28)); have HWD : Hid (Below v4.heap.size v4 _) := Lib.hid (Below.alloc HWD.out HWD.out.size (.cells #[.int .i64 p, .int .i64 q] 28)); have HWS : Hid (Below v5.heap.size v5 _) := Lib.hid (Below.alloc HWS.out HWS.out.size (.cells #[.int .i64 p, .int .i64 q] 28)); clear hZ; have b0 : World.cell? _ ⟨_, 0, none⟩ = some (.slice A ns.length c) := blk_cell H0.out 0 rfl; have b1 : World.cell? _ ⟨_, 1, none⟩ = some (.slice B ss.length d) := blk_cell H0.out 1 rfl; have I0 : World.cell? _ ⟨_, 0, none⟩ = some (.int .i64 1) := blk_cell KI.out 0 rfl; have I1 : World.cell? _ ⟨_, 1, none⟩ = some (.int .i64 1) := blk_cell KI.out 1 rfl; have P0 : World.cell? _ ⟨_, 0, none⟩ = some (.int .i64 P) := blk_cell KP.out 0 rfl; have P1 : World.cell? _ ⟨_, 1, none⟩ = some (.int .i64 Q) := blk_cell KP.out 1 rfl; have O0 : World.cell? _ ⟨_, 0, none⟩ = some ((.slice S' ss.length s')) := blk_cell KO.out 0 rfl; have O1 : World.cell? _ ⟨_, 1, none⟩ = some ((.slice N' ns.length n')) := blk_cell KO.out 1 rfl; have G0 : World.cell? _ ⟨_, 0, none⟩ = some (.int .i64 P) := blk_cell KG.out 0 rfl; have G1 : World.cell? _ ⟨_, 1, none⟩ = some (.int .i64 Q) := blk_cell KG.out 1 rfl; have T0 : World.cell? _ ⟨_, 0, none⟩ = some (.int .i64 P) := blk_cell KT.out 0 rfl; have T1 : World.cell? _ ⟨_, 1, none⟩ = some (.int .i64 Q) := blk_cell KT.out 1 rfl; have M0 : World.cell? _ ⟨_, 0, none⟩ = some (.int .i64 p) := blk_cell KM.out 0 rfl; have M1 : World.cell? _ ⟨_, 1, none⟩ = some (.int .i64 q) := blk_cell KM.out 1 rfl; have H0 := Lib.hid ((hB24.block _ z0).trans H0.out); have z0 := Nat.lt_of_lt_of_le z0 hB24.size; have b0 : World.cell? _ ⟨_, 0, none⟩ = some (.slice A ns.length c) := blk_cell H0.out 0 rfl; have b1 : World.cell? _ ⟨_, 1, none⟩ = some (.slice B ss.length d) := blk_cell H0.out 1 rfl; have KI := Lib.hid ((hB24.block _ yI).trans KI.out); have yI := Nat.lt_of_lt_of_le yI hB24.size; have I0 : World.cell? _ ⟨_, 0, none⟩ = some (.int .i64 1) := blk_cell KI.out 0 rfl; have I1 : World.cell? _ ⟨_, 1, none⟩ = some (.int .i64 1) := blk_cell KI.out 1 rfl; have KP := Lib.hid ((hB24.block _ yP).trans KP.out); have yP := Nat.lt_of_lt_of_le yP hB24.size; have P0 : World.cell? _ ⟨_, 0, none⟩ = some (.int .i64 P) := blk_cell KP.out 0 rfl; have P1 : World.cell? _ ⟨_, 1, none⟩ = some (.int .i64 Q) := blk_cell KP.out 1 rfl; have KO := Lib.hid ((hB24.block _ yO).trans KO.out); have yO := Nat.lt_of_lt_of_le yO hB24.size; have O0 : World.cell? _ ⟨_, 0, none⟩ = some ((.slice S' ss.length s')) := blk_cell KO.out 0 rfl; have O1 : World.cell? _ ⟨_, 1, none⟩ = some ((.slice N' ns.length n')) := blk_cell KO.out 1 rfl; have KG := Lib.hid ((hB24.block _ yG).trans KG.out); have yG := Nat.lt_of_lt_of_le yG hB24.size; have G0 : World.cell? _ ⟨_, 0, none⟩ = some (.int .i64 P) := blk_cell KG.out 0 rfl; have G1 : World.cell? _ ⟨_, 1, none⟩ = some (.int .i64 Q) := blk_cell KG.out 1 rfl; have KT := Lib.hid ((hB24.block _ yT).trans KT.out); have yT := Nat.lt_of_lt_of_le yT hB24.size; have T0 : World.cell? _ ⟨_, 0, none⟩ = some (.int .i64 P) := blk_cell KT.out 0 rfl; have T1 : World.cell? _ ⟨_, 1, none⟩ = some (.int .i64 Q) := blk_cell KT.out 1 rfl; have KM := Lib.hid ((hB24.block _ yM).trans KM.out); have yM := Nat.lt_of_lt_of_le yM hB24.size; have M0 : World.cell? _ ⟨_, 0, none⟩ = some (.int .i64 p) := blk_cell KM.out 0 rfl; have M1 : World.cell? _ ⟨_, 1, none⟩ = some (.int .i64 q) := blk_cell KM.out 1 rfl; have HW : Hid (Below w.heap.size w _) := Lib.hid (below_step (by first | exact HW.out | exact Below.drew HW.out | exact below_drewN HW.out _) hB24); have HWD : Hid (Below v4.heap.size v4 _) := Lib.hid (below_step (by first | exact HWD.out | exact Below.drew HWD.out | exact below_drewN HWD.out _) hB24); have HWS : Hid (Below v5.heap.size v5 _) := Lib.hid (below_step (by first | exact HWS.out | exact Below.drew HWS.out | exact below_drewN HWS.out _) hB24); clear hB24; rw [HLS.out])
        | (go_at_call 16; with_reducible refine (awake_any _).mono ?_; rintro e v25 ⟨rfl, hB25⟩; have H0 := Lib.hid ((hB25.block _ z0).trans H0.out); have z0 := Nat.lt_of_lt_of_le z0 hB25.size; have b0 : World.cell? _ ⟨_, 0, none⟩ = some (.slice A ns.length c) := blk_cell H0.out 0 rfl; have b1 : World.cell? _ ⟨_, 1, none⟩ = some (.slice B ss.length d) := blk_cell H0.out 1 rfl; have KI := Lib.hid ((hB25.block _ yI).trans KI.out); have yI := Nat.lt_of_lt_of_le yI hB25.size; have I0 : World.cell? _ ⟨_, 0, none⟩ = some (.int .i64 1) := blk_cell KI.out 0 rfl; have I1 : World.cell? _ ⟨_, 1, none⟩ = some (.int .i64 1) := blk_cell KI.out 1 rfl; have KP := Lib.hid ((hB25.block _ yP).trans KP.out); have yP := Nat.lt_of_lt_of_le yP hB25.size; have P0 : World.cell? _ ⟨_, 0, none⟩ = some (.int .i64 P) := blk_cell KP.out 0 rfl; have P1 : World.cell? _ ⟨_, 1, none⟩ = some (.int .i64 Q) := blk_cell KP.out 1 rfl; have KO := Lib.hid ((hB25.block _ yO).trans KO.out); have yO := Nat.lt_of_lt_of_le yO hB25.size; have O0 : World.cell? _ ⟨_, 0, none⟩ = some ((.slice S' ss.length s')) := blk_cell KO.out 0 rfl; have O1 : World.cell? _ ⟨_, 1, none⟩ = some ((.slice N' ns.length n')) := blk_cell KO.out 1 rfl; have KG := Lib.hid ((hB25.block _ yG).trans KG.out); have yG := Nat.lt_of_lt_of_le yG hB25.size; have G0 : World.cell? _ ⟨_, 0, none⟩ = some (.int .i64 P) := blk_cell KG.out 0 rfl; have G1 : World.cell? _ ⟨_, 1, none⟩ = some (.int .i64 Q) := blk_cell KG.out 1 rfl; have KT := Lib.hid ((hB25.block _ yT).trans KT.out); have yT := Nat.lt_of_lt_of_le yT hB25.size; have T0 : World.cell? _ ⟨_, 0, none⟩ = some (.int .i64 P) := blk_cell KT.out 0 rfl; have T1 : World.cell? _ ⟨_, 1, none⟩ = some (.int .i64 Q) := blk_cell KT.out 1 rfl; have KM := Lib.hid ((hB25.block _ yM).trans KM.out); have yM := Nat.lt_of_lt_of_le yM hB25.size; have M0 : World.cell? _ ⟨_, 0, none⟩ = some (.int .i64 p) := blk_cell KM.out 0 rfl; have M1 : World.cell? _ ⟨_, 1, none⟩ = some (.int .i64 q) := blk_cell KM.out 1 rfl; have HW : Hid (Below w.heap.size w _) := Lib.hid (below_step (by first | exact HW.out | exact Below.drew HW.out | exact below_drewN HW.out _) hB25); have HWD : Hid (Below v4.heap.size v4 _) := Lib.hid (below_step (by first | exact HWD.out | exact Below.drew HWD.out | exact below_drewN HWD.out _) hB25); have HWS : Hid (Below v5.heap.size v5 _) := Lib.hid (below_step (by first | exact HWS.out | exact Below.drew HWS.out | exact below_drewN HWS.out _) hB25); clear hB25))
      go_ret
      exact ⟨rfl, (by repeat (first | with_reducible exact HW.out | with_reducible exact Below.refl _ _ | with_reducible refine below_drewN ?_ _ | with_reducible refine Below.drew ?_ | (with_reducible refine Below.setCell ?_ (by first | exact Nat.le_refl _ | exact Nat.le_succ _ | (simp; done) | (simp; omega) | omega) _) | (with_reducible refine Below.alloc ?_ (by first | exact HW.out.size | (simp; done) | (simp; omega) | omega) _)))⟩

theorem weighFar_walk (A : Option Addr) (c : Nat) (ns : List Int) (B : Option Addr) (d : Nat) (ss : List Int) (cs : List Int) (C : Option Addr) (e1 : Nat) (w : World)
    (hA : Ints w A ns) (_ : ns.length ≤ c) (_ : c ≤ maxLen) (hB : Ints w B ss) (_ : ss.length ≤ d) (_ : d ≤ maxLen) (hC : Ints w C cs) (_ : cs.length ≤ e1) (_ : e1 ≤ maxLen) :
    Calls Try.prog 11 #[.agg #[.slice A ns.length c, .slice B ss.length d], .slice C cs.length e1] w fun e w' => e = .returned (.bool true) ∧ Below w.heap.size w w' := by
  cases hl : (decide (60 < ns.length) || decide (60 < ss.length))
  · have hl1 : ns.length ≤ 1000 := by simp at hl; omega
    have hl2 : ss.length ≤ 1000 := by simp at hl; omega
    by_cases h3 : 60 < cs.length
    · exact wf_l3 A c ns B d ss cs C e1 w hA hB hC hl h3
    · cases hv : odB ns ss
      · exact wf_v A c ns B d ss cs C e1 w hA hB hC hl h3 hl1 hl2 hv
      · cases hq : cutB ns.length cs
        · exact wf_no A c ns B d ss cs C e1 w hA hB hC hl h3 hl1 hl2 hv hq
        · exact wf_yes A c ns B d ss cs C e1 w hA hB hC hl h3 hl1 hl2 hv hq
  · exact wf_long A c ns B d ss cs C e1 w hA hB hC hl
end Go.Proofs.Ytolpbbabmcpdkaa
