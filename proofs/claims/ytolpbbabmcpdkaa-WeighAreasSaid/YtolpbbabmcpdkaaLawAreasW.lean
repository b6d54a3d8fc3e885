/-
  The walk of WeighAreas over all inputs.
-/
import Derived.Test.YtolpbbabmcpdkaaLawAreas
set_option linter.unusedVariables false
set_option linter.unusedSimpArgs false
namespace Go.Proofs.Ytolpbbabmcpdkaa
open Go.RowKit Go.Shelf

set_option maxRecDepth 100000 in
set_option maxHeartbeats 1000000 in
theorem areas_long (ns ss : List Int) (A B : Option Addr) (c d : Nat) (w : World)
    (hL1 : SaysA 15 #[.agg #[.slice A ns.length c, .slice B ss.length d]] w true) :
    Calls Try.prog 10 #[.agg #[.slice A ns.length c, .slice B ss.length d]] w fun e w' => e = .returned (.bool true) ∧ Below w.heap.size w w' := by
  have HL1 := Lib.hid hL1
  clear hL1
  obtain ⟨W0, hW0, HW, HO, z0⟩ := one_new w #[.slice A ns.length c, .slice B ss.length d] 24
  go_enter Try.func10, Try.ntmps10
  go_wp2_with (first
    | (go_at_call 15; with_reducible refine (HL1.out _ (by repeat (first | with_reducible exact Below.refl _ _ | with_reducible assumption | refine below_drewN ?_ _ | with_reducible refine Below.drew ?_ | (refine Below.setCell ?_ (by first | (simp; done) | (simp; omega) | omega) _) | (refine Below.alloc ?_ (by first | (simp; done) | (simp; omega) | omega) _)))).mono ?_; rintro e v1 ⟨rfl, hB1⟩; rw [← hW0] at hB1; have HW : Hid (Below w.heap.size w _) := Lib.hid (below_step HW.out hB1); clear hB1)
    | (go_at_call 16; refine (awake_any _).mono ?_; rintro e v12 ⟨rfl, hB12⟩; have HW : Hid (Below w.heap.size w _) := Lib.hid (below_step HW.out hB12); clear hB12)
    | fail)
  go_ret
  exact ⟨rfl, HW.out⟩
set_option maxRecDepth 100000 in
set_option maxHeartbeats 1000000 in
theorem areas_inv (ns ss : List Int) (A B : Option Addr) (c d : Nat) (w : World)
    (hL1 : SaysA 15 #[.agg #[.slice A ns.length c, .slice B ss.length d]] w false) (hV1 : SaysA 22 #[.agg #[.slice A ns.length c, .slice B ss.length d]] w false) :
    Calls Try.prog 10 #[.agg #[.slice A ns.length c, .slice B ss.length d]] w fun e w' => e = .returned (.bool true) ∧ Below w.heap.size w w' := by
  have HL1 := Lib.hid hL1
  have HV1 := Lib.hid hV1
  clear hL1 hV1
  obtain ⟨W0, hW0, HW, HO, z0⟩ := one_new w #[.slice A ns.length c, .slice B ss.length d] 24
  have HO : Hid (Oy W0 w.heap.size (.slice A ns.length c) (.slice B ss.length d)) := HO
  go_enter Try.func10, Try.ntmps10
  go_wp2_with (first
    | (go_at_call 15; with_reducible refine (HL1.out _ (by repeat (first | with_reducible exact Below.refl _ _ | with_reducible assumption | refine below_drewN ?_ _ | with_reducible refine Below.drew ?_ | (refine Below.setCell ?_ (by first | (simp; done) | (simp; omega) | omega) _) | (refine Below.alloc ?_ (by first | (simp; done) | (simp; omega) | omega) _)))).mono ?_; rintro e v1 ⟨rfl, hB1⟩; rw [← hW0] at hB1; have HO := Lib.hid (Oy.below HO.out hB1); have b0 := HO.out.c0; have b1 := HO.out.c1; have HW : Hid (Below w.heap.size w _) := Lib.hid (below_step HW.out hB1); clear hB1)
    | (go_at_call 22; with_reducible refine (HV1.out _ HW.out).mono ?_; rintro e v2 ⟨rfl, hB2⟩; have HW : Hid (Below w.heap.size w _) := Lib.hid (below_step HW.out hB2); clear hB2)
    | (go_at_call 16; refine (awake_any _).mono ?_; rintro e v12 ⟨rfl, hB12⟩; have HW : Hid (Below w.heap.size w _) := Lib.hid (below_step HW.out hB12); clear hB12)
    | fail)
  go_ret
  exact ⟨rfl, HW.out⟩
theorem cu_le {ns ss : List Int} (ho : Od ns ss) (k : Nat) : (0 ≤ (cvP ns ss k).1 ∧ (cvP ns ss k).1 ≤ ns.sum) ∧ 0 ≤ (cvP ns ss k).2 ∧ (cvP ns ss k).2 ≤ ss.sum := by
  have h := ho.kb (ct_cut (ns := ns) (ss := ss) k)
  rw [(kept_cv k).1, (kept_cv k).2] at h
  exact h
theorem weighAreas_walk (A : Option Addr) (c : Nat) (ns : List Int) (B : Option Addr) (d : Nat) (ss : List Int) (w : World)
    (hA : Ints w A ns) (hcA : ns.length ≤ c) (hmA : c ≤ maxLen) (hB : Ints w B ss) (hcB : ss.length ≤ d) (hmB : d ≤ maxLen) :
    Calls Try.prog 10 #[.agg #[.slice A ns.length c, .slice B ss.length d]] w fun e w' => e = .returned (.bool true) ∧ Below w.heap.size w w' := by
  have L1 : SaysA 15 #[.agg #[.slice A ns.length c, .slice B ss.length d]] w (decide (60 < ns.length) || decide (60 < ss.length)) := fun W _ => long_any ns ss A B c d W
  cases hl : (decide (60 < ns.length) || decide (60 < ss.length)) with
  | true => rw [hl] at L1; exact areas_long ns ss A B c d w L1
  | false =>
    rw [hl] at L1
    simp only [Bool.or_eq_false_iff, decide_eq_false_iff_not] at hl
    have h1 : ns.length ≤ 1000 := by omega
    have h2 : ss.length ≤ 1000 := by omega
    have V1 : SaysA 22 #[.agg #[.slice A ns.length c, .slice B ss.length d]] w (odB ns ss) := fun W hW => refValid_any ns ss A B c d W (hA.below hW) (hB.below hW) h1 h2
    cases hv : odB ns ss with
    | false => rw [hv] at V1; exact areas_inv ns ss A B c d w L1 V1
    | true =>
      rw [hv] at V1
      have ho := od_of hv
      have hvs : odB ss ns = true := by rw [odB_swap]; exact hv
      obtain ⟨d0, d1, d2, d3⟩ := ar_bds ho
      have n0 := ho.np
      have n1 := ho.nm
      have s0 := ho.sp
      have s1 := ho.sm
      refine areas_core ns ss A B c d (arN ns ss) (arD ns ss) w L1 V1 (fun W hW => area_yes ns ss A B c d W (hA.below hW) (hB.below hW) hv) (fun W hW => pairs_yes ns ss A B c d W (hA.below hW) (hB.below hW) hv)
        (fun W hW => wSwapped_yes ns ss A B c d W (hA.below hW) (hB.below hW) hv) (fun W hW => ?_) (fun W S s N' n' hS hN => ?_) (fun W S s N' n' hS hN => wSwapped_yes ss ns S N' s n' W hS.ints hN.ints hvs)
        (fun k hk W hW => wCut_yes ns ss A B c d W (hA.below hW) (hB.below hW) hv k hk) (fun k hk W A' c' hW hO => ?_) ⟨hA, hcA, hmA⟩ ⟨hB, hcB, hmB⟩ ho.le (sm_low d0 d1 d2 d3) (ar_half ho) (fun k hk => ?_) (fun k hk => ?_) (fun k hk => ?_) (cu_first ho) (cu_last ho)
      · have h := wCurve_yes ns ss A B c d W (hA.below hW) (hB.below hW) hv
        rw [cu_len] at h
        exact h
      · have h := area_yes ss ns S N' s n' W hS.ints hN.ints hvs
        rw [(ar_swap ho).1, (ar_swap ho).2] at h
        exact h
      · have hq := ct_cut (ns := ns) (ss := ss) k
        have h := keptLaw_any ns ss (ctL ns ss k) A B A' c d c' W (hA.below hW) (hB.below hW) hO.ints (by rw [ct_len hk]; omega) hv hq
        rw [(kept_cv k).1, (kept_cv k).2] at h
        exact h
      · obtain ⟨⟨a0, a1⟩, b0, b1⟩ := cu_le ho k
        obtain ⟨e1, e2, e3, e4⟩ := sm_of (sm_low a0 a1 n0 (by omega))
        obtain ⟨e5, e6, e7, e8⟩ := sm_of (sm_low b0 b1 s0 (by omega))
        unfold cuQ
        dsimp only
        omega
      · refine decide_eq_false fun h => ?_
        have h' := (low_cross (a := (cvP ns ss k).2) (b := ss.sum) (x := (cvP ns ss k).1) (y := ns.sum) s0 n0).1 h
        have := cv_above ho k
        omega
      · obtain ⟨m1, m2⟩ := cv_mono ho hk
        refine ⟨decide_eq_false fun h => ?_, decide_eq_false fun h => ?_⟩
        · have h' := (low_cross (a := (cvP ns ss (k + 1)).1) (b := ns.sum) (x := (cvP ns ss k).1) (y := ns.sum) n0 n0).1 h
          have := Int.mul_le_mul_of_nonneg_right m1 (Int.le_of_lt n0)
          omega
        · have h' := (low_cross (a := (cvP ns ss (k + 1)).2) (b := ss.sum) (x := (cvP ns ss k).2) (y := ss.sum) s0 s0).1 h
          have := Int.mul_le_mul_of_nonneg_right m2 (Int.le_of_lt s0)
          omega
end Go.Proofs.Ytolpbbabmcpdkaa
