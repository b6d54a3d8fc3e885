/-
  Contracts: Row, Cut (weigh).
-/
import Derived.Test.YtolpbbabmcpdkaaRow
import Derived.Test.YtolpbbabmcpdkaaJoined
set_option linter.unusedVariables false
set_option linter.unusedSimpArgs false
namespace Go.Proofs.Ytolpbbabmcpdkaa
open Go.RowKit Go.Shelf

theorem own_mono {w : World} {base base' : Nat} {e : TypeId} {size : Nat} {v : Value} {n : Nat} {xs : List Value} (h : w.ownsRow base e size v n xs) (hb : base' ≤ base) : w.ownsRow base' e size v n xs :=
  ⟨h.1, h.2.imp id fun ⟨g, cap, cur, h1, h2, h3⟩ => ⟨g, cap, cur, h1, Nat.le_trans hb h2, h3⟩⟩
theorem own_take {w : World} {base g n cap k : Nat} {e : TypeId} {xs : List Value} (h : w.ownsRow base e 1 (.slice (some ⟨g, 0, none⟩) n cap) n xs) (hk : k ≤ n) : w.ownsRow base e 1 (.slice (some ⟨g, 0, none⟩) k cap) k (xs.take k) := by
  refine ⟨by rw [List.length_take, h.1]; omega, ?_⟩
  rcases h.2 with ⟨h0, _⟩ | ⟨g', cap', cur, h1, h2, h3, h4, h5, h6, h7⟩
  · cases h0
  · cases h1
    refine .inr ⟨g, cap, cur, rfl, h2, h3, by omega, h5, h6, ?_⟩
    rw [← h7, List.take_take]
    congr 1; omega
/-- The cut of k. -/
def ctL (ns ss : List Int) (k : Nat) : List Int := ((rowL ns ss).take k).mergeSort (fun a b => decide (a ≤ b))
theorem ct_perm (ns ss : List Int) (k : Nat) : (ctL ns ss k).Perm ((rowL ns ss).take k) := List.mergeSort_perm _ _
theorem ct_len {ns ss : List Int} {k : Nat} (hk : k ≤ ns.length) : (ctL ns ss k).length = k := by
  rw [(ct_perm ns ss k).length_eq, List.length_take, rowL_len]; omega
theorem row_nodup (ns ss : List Int) : (rowL ns ss).Nodup := by
  unfold rowL
  rw [List.nodup_iff_pairwise_ne, List.pairwise_map]
  have h : (rowN ns ss).Nodup := (row_perm ns ss).nodup_iff.2 List.nodup_range
  exact (List.nodup_iff_pairwise_ne.1 h).imp (fun hne he => hne (by injection he))
/-- A list that was sorted, of different numbers, is the cut. -/
theorem sorted_cut {ns ss : List Int} {k : Nat} {ys : List Int} (hp : ys.Perm ((rowL ns ss).take k)) (hs : Srt idI ys ys.length) : ys = ctL ns ss k := by
  have hnd : ((rowL ns ss).take k).Nodup := (row_nodup ns ss).sublist (List.take_sublist _ _)
  have asc : ∀ zs : List Int, zs.Perm ((rowL ns ss).take k) → zs.Pairwise (· ≤ ·) → zs.Pairwise (· < ·) := by
    intro zs hz hle
    have hn : zs.Nodup := hz.nodup_iff.2 hnd
    exact (List.pairwise_and_iff.2 ⟨hle, List.nodup_iff_pairwise_ne.1 hn⟩).imp (fun h => by have h1 := h.1; have h2 := h.2; omega)
  refine asc_ext (asc _ hp ?_) (asc _ (ct_perm ns ss k) ?_) (fun a => by rw [hp.mem_iff, (ct_perm ns ss k).mem_iff])
  · rw [List.pairwise_iff_getElem]
    intro i j hi hj hij
    have h := hs i j hij hj
    rw [List.getD_eq_getElem?_getD, List.getD_eq_getElem?_getD, List.getElem?_eq_getElem hi, List.getElem?_eq_getElem hj] at h
    exact h
  · have h := List.pairwise_mergeSort (le := fun a b : Int => decide (a ≤ b)) (by intro a b c h1 h2; simp only [decide_eq_true_eq] at *; omega) (by intro a b; simp only [Bool.or_eq_true, decide_eq_true_eq]; omega) ((rowL ns ss).take k)
    exact h.imp (fun h => by simpa using h)
theorem ct_cut {ns ss : List Int} (k : Nat) : cutB ns.length (ctL ns ss k) = true := by
  have hnd : ((rowL ns ss).take k).Nodup := (row_nodup ns ss).sublist (List.take_sublist _ _)
  have h := List.pairwise_mergeSort (le := fun a b : Int => decide (a ≤ b)) (by intro a b c h1 h2; simp only [decide_eq_true_eq] at *; omega) (by intro a b; simp only [Bool.or_eq_true, decide_eq_true_eq]; omega) ((rowL ns ss).take k)
  have hn : (ctL ns ss k).Nodup := (ct_perm ns ss k).nodup_iff.2 hnd
  refine cutB_of ((List.pairwise_and_iff.2 ⟨h, List.nodup_iff_pairwise_ne.1 hn⟩).imp (fun h => by have h1 := of_decide_eq_true h.1; have h2 := h.2; omega)) (fun a ha => ?_)
  have hm := List.mem_of_mem_take ((ct_perm ns ss k).mem_iff.1 ha)
  unfold rowL at hm
  obtain ⟨i, hi, rfl⟩ := List.mem_map.1 hm
  have := row_mem.1 hi
  show (0 : Int) ≤ (i : Int) ∧ (i : Int) < ns.length
  omega

set_option maxRecDepth 100000 in
set_option maxHeartbeats 1000000 in
theorem wRow_no (ns ss : List Int) (A B : Option Addr) (c d : Nat) (w : World) (hA : Ints w A ns) (hB : Ints w B ss) (hl : ns.length ≤ 1000) (hl2 : ss.length ≤ 1000) (hv : odB ns ss = false) :
    Calls Try.prog 23 #[.agg #[.slice A ns.length c, .slice B ss.length d]] w fun e w' => e = .returned (.tuple #[.slice none 0 0, .int .i64 70]) ∧ Below w.heap.size w w' := by
  have HA := Lib.hid hA
  have HB := Lib.hid hB
  have HV := Lib.hid hv
  clear hA hB hv
  obtain ⟨W0, hW0, HW, H0, z0⟩ := one_new w #[.slice A ns.length c, .slice B ss.length d] 24
  go_enter Try.func23, Try.ntmps23
  go_wp2_with (go_at_call 72; with_reducible refine (summed_no ns ss _ _ _ _ _ (HA.out.below (by repeat (first | with_reducible exact Below.refl _ _ | with_reducible assumption | refine below_drewN ?_ _ | with_reducible refine Below.drew ?_ | (refine Below.setCell ?_ (by first | (simp; done) | (simp; omega) | omega) _) | (refine Below.alloc ?_ (by first | (simp; done) | (simp; omega) | omega) _)))) (HB.out.below (by repeat (first | with_reducible exact Below.refl _ _ | with_reducible assumption | refine below_drewN ?_ _ | with_reducible refine Below.drew ?_ | (refine Below.setCell ?_ (by first | (simp; done) | (simp; omega) | omega) _) | (refine Below.alloc ?_ (by first | (simp; done) | (simp; omega) | omega) _)))) hl hl2 HV.out).mono ?_; rintro e w1 ⟨rfl, hB1⟩; rw [← hW0] at hB1; have H0 := Lib.hid ((hB1.block _ z0).trans H0.out); have z0 := Nat.lt_of_lt_of_le z0 hB1.size; have b0 : World.cell? _ ⟨_, 0, none⟩ = some (.slice A ns.length c) := blk_cell H0.out 0 rfl; have b1 : World.cell? _ ⟨_, 1, none⟩ = some (.slice B ss.length d) := blk_cell H0.out 1 rfl; have HW : Hid (Below w.heap.size w _) := Lib.hid (below_step (by first | exact HW.out | exact Below.drew HW.out | exact below_drewN HW.out _) hB1); clear hB1)
  go_ret2
  exact ⟨rfl, (by repeat (first | with_reducible exact HW.out | with_reducible exact Below.refl _ _ | with_reducible refine below_drewN ?_ _ | with_reducible refine Below.drew ?_ | (with_reducible refine Below.setCell ?_ (by first | exact Nat.le_refl _ | exact Nat.le_succ _ | (simp; done) | (simp; omega) | omega) _) | (with_reducible refine Below.alloc ?_ (by first | exact HW.out.size | (simp; done) | (simp; omega) | omega) _)))⟩

set_option maxRecDepth 100000 in
set_option maxHeartbeats 1000000 in
theorem wRow_yes (ns ss : List Int) (A B : Option Addr) (c d : Nat) (w : World) (hA : Ints w A ns) (hB : Ints w B ss) (hv : odB ns ss = true) :
    Calls Try.prog 23 #[.agg #[.slice A ns.length c, .slice B ss.length d]] w fun e w' => ∃ gb : Nat, e = .returned (.tuple #[.slice (some ⟨gb, 0, none⟩) ns.length ns.length, .int .i64 0]) ∧ w'.ownsRow w.heap.size 3 1 (.slice (some ⟨gb, 0, none⟩) ns.length ns.length) ns.length ((rowL ns ss).map (Value.int .i64)) ∧ Below w.heap.size w w' := by
  have ho := od_of hv
  have HA := Lib.hid hA
  have HB := Lib.hid hB
  have HV := Lib.hid hv
  clear hA hB hv
  obtain ⟨W0, hW0, HW, H0, z0⟩ := one_new w #[.slice A ns.length c, .slice B ss.length d] 24
  go_enter Try.func23, Try.ntmps23
  go_wp2_with (first
    | (go_at_call 72; with_reducible refine (summed_yes ns ss _ _ _ _ _ (HA.out.below (by repeat (first | with_reducible exact Below.refl _ _ | with_reducible assumption | refine below_drewN ?_ _ | with_reducible refine Below.drew ?_ | (refine Below.setCell ?_ (by first | (simp; done) | (simp; omega) | omega) _) | (refine Below.alloc ?_ (by first | (simp; done) | (simp; omega) | omega) _)))) (HB.out.below (by repeat (first | with_reducible exact Below.refl _ _ | with_reducible assumption | refine below_drewN ?_ _ | with_reducible refine Below.drew ?_ | (refine Below.setCell ?_ (by first | (simp; done) | (simp; omega) | omega) _) | (refine Below.alloc ?_ (by first | (simp; done) | (simp; omega) | omega) _)))) HV.out).mono ?_; rintro e w1 ⟨rfl, hB1⟩; rw [← hW0] at hB1; have H0 := Lib.hid ((hB1.block _ z0).trans H0.out); have z0 := Nat.lt_of_lt_of_le z0 hB1.size; have b0 : World.cell? _ ⟨_, 0, none⟩ = some (.slice A ns.length c) := blk_cell H0.out 0 rfl; have b1 : World.cell? _ ⟨_, 1, none⟩ = some (.slice B ss.length d) := blk_cell H0.out 1 rfl; have HW : Hid (Below w.heap.size w _) := Lib.hid (below_step (by first | exact HW.out | exact Below.drew HW.out | exact below_drewN HW.out _) hB1); clear hB1)
    | (go_at_call 73; with_reducible refine (row_own ns ss A B c d ho _ (HA.out.below (by repeat (first | with_reducible exact HW.out | with_reducible exact Below.refl _ _ | with_reducible refine below_drewN ?_ _ | with_reducible refine Below.drew ?_ | (with_reducible refine Below.setCell ?_ (by first | exact Nat.le_refl _ | exact Nat.le_succ _ | (simp; done) | (simp; omega) | omega) _) | (with_reducible refine Below.alloc ?_ (by first | exact HW.out.size | (simp; done) | (simp; omega) | omega) _)))) (HB.out.below (by repeat (first | with_reducible exact HW.out | with_reducible exact Below.refl _ _ | with_reducible refine below_drewN ?_ _ | with_reducible refine Below.drew ?_ | (with_reducible refine Below.setCell ?_ (by first | exact Nat.le_refl _ | exact Nat.le_succ _ | (simp; done) | (simp; omega) | omega) _) | (with_reducible refine Below.alloc ?_ (by first | exact HW.out.size | (simp; done) | (simp; omega) | omega) _))))).mono ?_; rintro e w2 ⟨gb, rfl, hown, hB2⟩; have HOW := Lib.hid (own_mono (base' := w.heap.size) hown (by have := HW.out.size; simp; omega)); have HW : Hid (Below w.heap.size w w2) := Lib.hid (below_step (by repeat (first | with_reducible exact HW.out | with_reducible exact Below.refl _ _ | with_reducible refine below_drewN ?_ _ | with_reducible refine Below.drew ?_ | (with_reducible refine Below.setCell ?_ (by first | exact Nat.le_refl _ | exact Nat.le_succ _ | (simp; done) | (simp; omega) | omega) _) | (with_reducible refine Below.alloc ?_ (by first | exact HW.out.size | (simp; done) | (simp; omega) | omega) _))) hB2); clear hown hB2))
  go_ret2
  exact ⟨gb, rfl, HOW.out, HW.out⟩

set_option maxRecDepth 100000 in
set_option maxHeartbeats 1000000 in
theorem wCut_yes (ns ss : List Int) (A B : Option Addr) (c d : Nat) (w : World) (hA : Ints w A ns) (hB : Ints w B ss) (hv : odB ns ss = true) (k : Nat) (hk : k ≤ ns.length) :
    Calls Try.prog 26 #[.agg #[.slice A ns.length c, .slice B ss.length d], .int .i64 k] w fun e w' => ∃ A' c', e = .returned (.tuple #[.slice A' (ctL ns ss k).length c', .int .i64 0]) ∧ Out w' A' c' (ctL ns ss k) ∧ Below w.heap.size w w' := by
  have ho := od_of hv
  have hn2 := ho.le
  have hk1 : (k : Int) ≤ ns.length := by omega
  have t1 : decide ((k : Int) < 0) = false := decide_eq_false (by omega)
  have t2 : decide ((ns.length : Int) < (k : Int)) = false := decide_eq_false (by omega)
  have HCL := Lib.hid (ct_len (ns := ns) (ss := ss) hk)
  have HW0 : Hid (Below w.heap.size w w) := Lib.hid (Below.refl _ _)
  have HA := Lib.hid hA
  have HB := Lib.hid hB
  have HV := Lib.hid hv
  clear hA hB hv
  obtain ⟨W0, hW0, HW, H0, z0⟩ := one_new w #[.slice A ns.length c, .slice B ss.length d] 24
  go_enter Try.func26, Try.ntmps26
  go_wp2_with (first
    | (go_at_call 23; with_reducible refine (wRow_yes ns ss A B c d _ (HA.out.below (by repeat (first | with_reducible exact Below.refl _ _ | with_reducible assumption | refine below_drewN ?_ _ | with_reducible refine Below.drew ?_ | (refine Below.setCell ?_ (by first | (simp; done) | (simp; omega) | omega) _) | (refine Below.alloc ?_ (by first | (simp; done) | (simp; omega) | omega) _)))) (HB.out.below (by repeat (first | with_reducible exact Below.refl _ _ | with_reducible assumption | refine below_drewN ?_ _ | with_reducible refine Below.drew ?_ | (refine Below.setCell ?_ (by first | (simp; done) | (simp; omega) | omega) _) | (refine Below.alloc ?_ (by first | (simp; done) | (simp; omega) | omega) _)))) HV.out).mono ?_; rintro e w1 ⟨gb, rfl, hown, hB1⟩; rw [← hW0] at hB1 hown; have HO1 := Lib.hid (own_take (own_mono hown HW.out.size) hk); have HW := Lib.hid (below_step HW.out hB1); clear hown hB1)
    | (go_at_call 75; with_reducible refine (sort_any ((rowL ns ss).take k) k gb ns.length w w1 (by omega) (by rw [List.length_take, rowL_len]; omega) (by rw [List.map_take]; exact HO1.out) HW.out).mono ?_; rintro e w2 ⟨rfl, ys, hown2, hB2, hP⟩))
  go_ret2
  have hl2 : ys.length = k := by rw [hP.out.1.length_eq, List.length_take, rowL_len]; omega
  have hy := sorted_cut hP.out.1 (by rw [hl2]; exact hP.out.2)
  obtain ⟨A', c', he, hO⟩ := own_ints hown2
  rw [hl2] at he
  subst hy
  refine ⟨some ⟨gb, 0, none⟩, ns.length, by rw [HCL.out]; rfl, ?_, hB2⟩
  cases he
  exact hO
end Go.Proofs.Ytolpbbabmcpdkaa
