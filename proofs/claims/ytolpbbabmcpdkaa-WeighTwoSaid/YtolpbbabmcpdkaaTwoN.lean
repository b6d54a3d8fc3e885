/-
  Two observations together: neither the area nor the difference is more than each one's; nothing of the program.
-/
import Derived.Test.YtolpbbabmcpdkaaTwoM
import Derived.Test.YtolpbbabmcpdkaaProd
import Derived.Test.YtolpbbabmcpdkaaNotMore
set_option linter.unusedVariables false
set_option linter.unusedSimpArgs false
namespace Go.Proofs.Ytolpbbabmcpdkaa
open Go Go.RowKit

theorem prL_zip {ns ss : List Int} (h : ns.length = ss.length) : prL ns ss = ns.zip ss := by
  unfold prL
  refine List.ext_getElem (by simp; omega) (fun i h1 h2 => ?_)
  simp only [List.length_map, List.length_range] at h1
  simp only [List.getElem_map, List.getElem_range, List.getElem_zip, List.getD_eq_getElem?_getD, List.getElem?_eq_getElem h1, List.getElem?_eq_getElem (show i < ss.length by omega), Option.getD_some]
theorem zip_pd : ∀ (ns ss ms ts : List Int), ns.length = ss.length → ms.length = ts.length → (pdL ns ms).zip (pdL ss ts) = prdP (ns.zip ss) (ms.zip ts)
  | [], [], _, _, _, _ => rfl
  | x :: xs, y :: ys, ms, ts, h, h2 => by
    have ih := zip_pd xs ys ms ts (by simpa using h) h2
    have e1 : pdL (x :: xs) ms = ms.map (fun z => x * z) ++ pdL xs ms := by unfold pdL; rw [List.flatMap_cons]
    have e2 : pdL (y :: ys) ts = ts.map (fun z => y * z) ++ pdL ys ts := by unfold pdL; rw [List.flatMap_cons]
    rw [e1, e2, List.zip_append (by simp [h2]), ih, List.zip_map]
    unfold prdP
    rw [List.zip_cons_cons, List.flatMap_cons]
    rfl
def scP (g h : Int) (Q : List (Int × Int)) : List (Int × Int) := Q.map fun p => (g * p.1, h * p.2)
theorem pd_qd (xs ys : List Int) : pdL xs ys = (qdL xs ys).map (fun z => gcF (pdL xs ys) * z) := by
  unfold qdL
  rw [List.map_map]
  refine (List.map_id _).symm.trans (List.map_congr_left fun z hz => ?_)
  exact (Int.mul_ediv_cancel' (gcF_mem hz)).symm
theorem qd_pairs {ns ss ms ts : List Int} (h : ns.length = ss.length) (h2 : ms.length = ts.length) :
    prdP (prL ns ss) (prL ms ts) = scP (gcF (pdL ns ms)) (gcF (pdL ss ts)) (prL (qdL ns ms) (qdL ss ts)) := by
  have hl : (qdL ns ms).length = (qdL ss ts).length := by unfold qdL; rw [List.length_map, List.length_map, pd_len, pd_len, h, h2]
  rw [prL_zip h, prL_zip h2, prL_zip hl, ← zip_pd ns ss ms ts h h2]
  conv => lhs; rw [pd_qd ns ms, pd_qd ss ts]
  rw [List.zip_map]
  rfl
theorem s1_sc (g h : Int) (Q : List (Int × Int)) : s1 (scP g h Q) = g * s1 Q := by unfold s1 scP; rw [List.map_map, ← sum_mul]; rfl
theorem s2_sc (g h : Int) (Q : List (Int × Int)) : s2 (scP g h Q) = h * s2 Q := by unfold s2 scP; rw [List.map_map, ← sum_mul]; rfl
theorem max_mul {c x y : Int} (hc : 0 ≤ c) : max (c * x) (c * y) = c * max x y := by
  by_cases h : x ≤ y
  · rw [Int.max_eq_right h, Int.max_eq_right (Int.mul_le_mul_of_nonneg_left h hc)]
  · have h' : y ≤ x := by omega
    rw [Int.max_eq_left h', Int.max_eq_left (Int.mul_le_mul_of_nonneg_left h' hc)]
theorem d_sc {g h : Int} (hg : 0 ≤ g) (hh : 0 ≤ h) (Q : List (Int × Int)) : dSum (scP g h Q) = g * h * dSum Q := by
  unfold dSum scP
  rw [List.map_map, ← sum_mul]
  refine sum_congr _ _ _ (fun p _ => ?_)
  show ((Q.map fun p => (g * p.1, h * p.2)).map fun q => dI (g * p.1, h * p.2) q).sum = _
  rw [List.map_map, ← sum_mul]
  refine sum_congr _ _ _ (fun q _ => ?_)
  show max (h * p.2 * (g * q.1)) (h * q.2 * (g * p.1)) = g * h * max (p.2 * q.1) (q.2 * p.1)
  rw [← max_mul (Int.mul_nonneg hg hh)]
  congr 1 <;> grind
theorem ap_sc {g h : Int} (hg : 0 ≤ g) (hh : 0 ≤ h) (Q : List (Int × Int)) : apSum (scP g h Q) = g * h * apSum Q := by
  unfold apSum
  rw [s1_sc, s2_sc]
  unfold scP
  rw [List.map_map, ← sum_mul]
  refine sum_congr _ _ _ (fun p _ => ?_)
  show poI (gnI (g * s1 Q) (h * s2 Q) (g * p.1, h * p.2)) = _
  rw [← po_mul (Int.mul_nonneg hg hh)]
  congr 1
  unfold gnI; grind
/-- From MT·d <= gh·d' and gN' = NM, hS' = ST: d·(N'S') <= d'·(NS). -/
theorem two_cross {N S M T n s g h d d' : Int} (hNS : 0 ≤ N * S) (hg : 0 < g) (hh : 0 < h) (e1 : g * n = N * M) (e2 : h * s = S * T) (hd : (M * T) * d ≤ g * h * d') : d * (n * s) ≤ d' * (N * S) := by
  have h1 := Int.mul_le_mul_of_nonneg_right hd hNS
  have h2 : (g * h) * (d * (n * s)) = M * T * d * (N * S) := by
    have : (g * h) * (d * (n * s)) = d * ((g * n) * (h * s)) := by grind
    rw [this, e1, e2]; grind
  have h3 : g * h * d' * (N * S) = (g * h) * (d' * (N * S)) := by grind
  rw [← h2, h3] at h1
  exact Int.le_of_mul_le_mul_left h1 (Int.mul_pos hg hh)
theorem two_not {ns ss ms ts : List Int} (ho : Od ns ss) (hp : Od ms ts) (hq : Od (qdL ns ms) (qdL ss ts)) :
    (¬ arN (qdL ns ms) (qdL ss ts) * arD ns ss < arN ns ss * arD (qdL ns ms) (qdL ss ts)) ∧
    (¬ lowN (apV (qdL ns ms) (qdL ss ts)) (unV (qdL ns ms) (qdL ss ts) 1) * lowD (apV ns ss) (unV ns ss 1) < lowN (apV ns ss) (unV ns ss 1) * lowD (apV (qdL ns ms) (qdL ss ts)) (unV (qdL ns ms) (qdL ss ts) 1)) ∧
    (¬ arN (qdL ns ms) (qdL ss ts) * arD ms ts < arN ms ts * arD (qdL ns ms) (qdL ss ts)) ∧
    (¬ lowN (apV (qdL ns ms) (qdL ss ts)) (unV (qdL ns ms) (qdL ss ts) 1) * lowD (apV ms ts) (unV ms ts 1) < lowN (apV ms ts) (unV ms ts 1) * lowD (apV (qdL ns ms) (qdL ss ts)) (unV (qdL ns ms) (qdL ss ts) 1)) := by
  have g0 := pd_gpos ho.nb hp.nb ho.np hp.np
  have h0 := pd_gpos ho.sb hp.sb ho.sp hp.sp
  have E := qd_pairs ho.len hp.len
  have eS1 := s1_sc (gcF (pdL ns ms)) (gcF (pdL ss ts)) (prL (qdL ns ms) (qdL ss ts))
  have eS2 := s2_sc (gcF (pdL ns ms)) (gcF (pdL ss ts)) (prL (qdL ns ms) (qdL ss ts))
  have eD := d_sc (Int.le_of_lt g0) (Int.le_of_lt h0) (prL (qdL ns ms) (qdL ss ts))
  have eA := ap_sc (Int.le_of_lt g0) (Int.le_of_lt h0) (prL (qdL ns ms) (qdL ss ts))
  rw [← E] at eS1 eS2 eD eA
  rw [s1_prd] at eS1
  rw [s2_prd] at eS2
  have d1 := d_prd (prL ns ss) (prL ms ts)
  have d2 := d_prd' (prL ns ss) (prL ms ts)
  have a1 := ap_prd (prL ns ss) (prL ms ts)
  have a2 := ap_prd' (prL ns ss) (prL ms ts)
  rw [eD] at d1 d2
  rw [eA] at a1 a2
  simp only [prL_s1, prL_s2 ho.len, prL_s2 hp.len, prL_s2 hq.len] at eS1 eS2 d1 d2 a1 a2
  have pNS : 0 < ns.sum * ss.sum := Int.mul_pos ho.np ho.sp
  have pMT : 0 < ms.sum * ts.sum := Int.mul_pos hp.np hp.sp
  have pns : 0 < (qdL ns ms).sum * (qdL ss ts).sum := Int.mul_pos hq.np hq.sp
  have a1 := a1 (Int.le_of_lt pMT)
  have a2 := a2 (Int.le_of_lt pNS)
  have c1 := two_cross (Int.le_of_lt pNS) g0 h0 eS1.symm eS2.symm d1
  have c2 := two_cross (N := ms.sum) (S := ts.sum) (M := ns.sum) (T := ss.sum) (Int.le_of_lt pMT) g0 h0 (eS1.symm.trans (Int.mul_comm _ _)) (eS2.symm.trans (Int.mul_comm _ _)) d2
  have c3 := two_cross (Int.le_of_lt pNS) g0 h0 eS1.symm eS2.symm a1
  have c4 := two_cross (N := ms.sum) (S := ts.sum) (M := ns.sum) (T := ss.sum) (Int.le_of_lt pMT) g0 h0 (eS1.symm.trans (Int.mul_comm _ _)) (eS2.symm.trans (Int.mul_comm _ _)) a2
  have A1 := ar_bds ho
  have A2 := ar_bds hp
  have A3 := ar_bds hq
  have B1 := ap_bds ho
  have B2 := ap_bds hp
  have B3 := ap_bds hq
  unfold arN arD
  rw [low_cross A3.2.2.1 A1.2.2.1, low_cross A3.2.2.1 A2.2.2.1, low_cross B3.2.2.1 B1.2.2.1, low_cross B3.2.2.1 B2.2.2.1]
  rw [un_one, un_one, un_one, ap_sum ho.len, ap_sum hp.len, ap_sum hq.len]
  refine ⟨?_, ?_, ?_, ?_⟩ <;> refine Int.not_lt.2 ?_
  · have x1 : 2 * (qdL ns ms).sum * (qdL ss ts).sum = 2 * ((qdL ns ms).sum * (qdL ss ts).sum) := Int.mul_assoc _ _ _
    have x2 : 2 * ns.sum * ss.sum = 2 * (ns.sum * ss.sum) := Int.mul_assoc _ _ _
    rw [x1, x2]; generalize dSum (prL ns ss) = u at *; generalize dSum (prL (qdL ns ms) (qdL ss ts)) = v at *; generalize (qdL ns ms).sum * (qdL ss ts).sum = y at *; generalize ns.sum * ss.sum = z at *
    have y1 : u * (2 * y) = 2 * (u * y) := by grind
    have y2 : v * (2 * z) = 2 * (v * z) := by grind
    omega
  · rw [Int.mul_comm (qdL ss ts).sum, Int.mul_comm ss.sum]; exact c3
  · have x1 : 2 * (qdL ns ms).sum * (qdL ss ts).sum = 2 * ((qdL ns ms).sum * (qdL ss ts).sum) := Int.mul_assoc _ _ _
    have x2 : 2 * ms.sum * ts.sum = 2 * (ms.sum * ts.sum) := Int.mul_assoc _ _ _
    rw [x1, x2]; generalize dSum (prL ms ts) = u at *; generalize dSum (prL (qdL ns ms) (qdL ss ts)) = v at *; generalize (qdL ns ms).sum * (qdL ss ts).sum = y at *; generalize ms.sum * ts.sum = z at *
    have y1 : u * (2 * y) = 2 * (u * y) := by grind
    have y2 : v * (2 * z) = 2 * (v * z) := by grind
    omega
  · rw [Int.mul_comm (qdL ss ts).sum, Int.mul_comm ts.sum]; exact c4
end Go.Proofs.Ytolpbbabmcpdkaa
