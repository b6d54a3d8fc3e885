/-
  More plain facts on the curve and the area; the curve as ratios. Nothing of the program.
-/
import Derived.Test.YtolpbbabmcpdkaaQuad
import Derived.Test.YtolpbbabmcpdkaaNotMore
set_option linter.unusedVariables false
set_option linter.unusedSimpArgs false
namespace Go.Proofs.Ytolpbbabmcpdkaa
open Go Go.RowKit

theorem s1_cons (p : Int × Int) (t : List (Int × Int)) : s1 (p :: t) = p.1 + s1 t := by simp [s1]
theorem s2_cons (p : Int × Int) (t : List (Int × Int)) : s2 (p :: t) = p.2 + s2 t := by simp [s2]
theorem s1_app (ps qs : List (Int × Int)) : s1 (ps ++ qs) = s1 ps + s1 qs := by simp [s1]
theorem s2_app (ps qs : List (Int × Int)) : s2 (ps ++ qs) = s2 ps + s2 qs := by simp [s2]
theorem cross_one (p : Int × Int) : ∀ qs : List (Int × Int), (∀ q ∈ qs, q.2 * p.1 ≤ p.2 * q.1) → p.1 * s2 qs ≤ p.2 * s1 qs
  | [], _ => by simp [s1, s2]
  | q :: t, h => by
    have i := cross_one p t (fun q hq => h q (List.mem_cons_of_mem _ hq))
    have e := h q (List.mem_cons_self ..)
    rw [s1_cons, s2_cons, Int.mul_add, Int.mul_add, Int.mul_comm p.1 q.2]
    omega
theorem cross_sum : ∀ ps qs : List (Int × Int), (∀ p ∈ ps, ∀ q ∈ qs, q.2 * p.1 ≤ p.2 * q.1) → s1 ps * s2 qs ≤ s2 ps * s1 qs
  | [], qs, _ => by simp [s1, s2]
  | p :: t, qs, h => by
    have i := cross_sum t qs (fun p hp => h p (List.mem_cons_of_mem _ hp))
    have e := cross_one p qs (h p (List.mem_cons_self ..))
    rw [s1_cons, s2_cons, Int.add_mul, Int.add_mul]
    omega
theorem pr_pw {ns ss : List Int} (ho : Od ns ss) : (prR ns ss).Pairwise (fun p q => q.2 * p.1 ≤ p.2 * q.1) := by
  have hn := fun a => (getD_bd (by omega) ho.nb a).1
  have hs := fun a => (getD_bd (by omega) ho.sb a).1
  unfold prR
  rw [List.pairwise_map, List.pairwise_iff_getElem]
  intro i j hi hj hij
  exact bef_le (row_gt hn hs hij (List.getElem?_eq_getElem hi) (List.getElem?_eq_getElem hj))
theorem cv_above {ns ss : List Int} (ho : Od ns ss) (k : Nat) : (cvP ns ss k).1 * ss.sum ≤ (cvP ns ss k).2 * ns.sum := by
  have hp := pr_pw ho
  rw [← List.take_append_drop k (prR ns ss), List.pairwise_append] at hp
  have hc := cross_sum _ _ hp.2.2
  have e1 : s1 ((prR ns ss).take k) + s1 ((prR ns ss).drop k) = ns.sum := by rw [← s1_app, List.take_append_drop, s1_perm (prR_perm ns ss), prL_s1]
  have e2 : s2 ((prR ns ss).take k) + s2 ((prR ns ss).drop k) = ss.sum := by rw [← s2_app, List.take_append_drop, s2_perm (prR_perm ns ss), prL_s2 ho.len]
  unfold cvP
  dsimp only
  rw [← e1, ← e2, Int.mul_add, Int.mul_add, Int.mul_comm (s2 _) (s1 _)]
  omega
theorem cv_mono {ns ss : List Int} (ho : Od ns ss) {k : Nat} (hk : k < ns.length) : (cvP ns ss k).1 ≤ (cvP ns ss (k + 1)).1 ∧ (cvP ns ss k).2 ≤ (cvP ns ss (k + 1)).2 := by
  obtain ⟨⟨n, s⟩, hp⟩ := getElem?_of_lt (zs := prR ns ss) (k := k) (by rw [prR_len]; exact hk)
  have b := ho.pr _ (List.mem_of_getElem? hp)
  rw [cv_succ hp]
  dsimp only at *
  omega
theorem ar_half {ns ss : List Int} (ho : Od ns ss) : arD ns ss ≤ 2 * arN ns ss := by
  have h := dsum_bd (prL ns ss) (prL_nn (fun a => (getD_bd (by omega) ho.nb a).1) (fun a => (getD_bd (by omega) ho.sb a).1))
  rw [prL_s1, prL_s2 ho.len] at h
  obtain ⟨_, _, d2, _⟩ := ar_bds ho
  obtain ⟨e1, e2⟩ := low_mul (k := dSum (prL ns ss)) d2
  have hg := gcd_pos (n := dSum (prL ns ss)) d2
  have hm : 2 * ns.sum * ss.sum = 2 * (ss.sum * ns.sum) := by rw [Int.mul_assoc, Int.mul_comm ns.sum]
  unfold arN arD
  generalize lowN (dSum (prL ns ss)) (2 * ns.sum * ss.sum) = N at *
  generalize lowD (dSum (prL ns ss)) (2 * ns.sum * ss.sum) = D at *
  generalize (Int.gcd (dSum (prL ns ss)) (2 * ns.sum * ss.sum) : Int) = g at *
  refine Int.not_lt.1 fun hlt => ?_
  have h2 : (2 * N) * g < D * g := Int.mul_lt_mul_of_pos_right hlt hg
  rw [Int.mul_assoc, e1, e2] at h2
  omega
theorem ar_swap {ns ss : List Int} (ho : Od ns ss) : arN ss ns = arN ns ss ∧ arD ss ns = arD ns ss := by
  unfold arN arD
  rw [← prL_sw ho.len, dsum_swap, show 2 * ss.sum * ns.sum = 2 * ns.sum * ss.sum by rw [Int.mul_assoc, Int.mul_comm ss.sum, ← Int.mul_assoc]]
  exact ⟨rfl, rfl⟩
theorem low_zero {s : Int} (hs : 0 < s) : lowN 0 s = 0 ∧ lowD 0 s = 1 := by
  have h : (Int.gcd 0 s : Int) = s := by rw [Int.gcd_zero_left]; omega
  unfold lowN lowD
  rw [h]
  exact ⟨Int.zero_ediv _, Int.ediv_self (by omega)⟩
theorem low_self {s : Int} (hs : 0 < s) : lowN s s = 1 ∧ lowD s s = 1 := by
  have h : (Int.gcd s s : Int) = s := by rw [Int.gcd_self]; omega
  unfold lowN lowD
  rw [h]
  exact ⟨Int.ediv_self (by omega), Int.ediv_self (by omega)⟩
theorem cu_get {ns ss : List Int} {m k : Nat} (h : k < m) : (cuL ns ss m)[k]? = some (cuQ ns ss k) := by simp [cuL, List.getElem?_map, List.getElem?_range h]
theorem cu_first {ns ss : List Int} (ho : Od ns ss) : cuQ ns ss 0 = ((0, 1), (0, 1)) := by
  unfold cuQ
  rw [cv_zero]
  have a := low_zero ho.np
  have b := low_zero ho.sp
  dsimp only
  rw [a.1, a.2, b.1, b.2]
theorem cu_last {ns ss : List Int} (ho : Od ns ss) : cuQ ns ss ns.length = ((1, 1), (1, 1)) := by
  unfold cuQ
  rw [cv_all ho.len]
  have a := low_self ho.np
  have b := low_self ho.sp
  dsimp only
  rw [a.1, a.2, b.1, b.2]
end Go.Proofs.Ytolpbbabmcpdkaa
