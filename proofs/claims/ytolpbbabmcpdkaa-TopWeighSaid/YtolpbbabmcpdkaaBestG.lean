/-
  Plain facts: at the price of its last outcome no cut gains more than the cut of k. Nothing of the program.
-/
import Derived.Test.YtolpbbabmcpdkaaBestM
import Derived.Test.YtolpbbabmcpdkaaPriceW
import Derived.Test.YtolpbbabmcpdkaaWApart
set_option linter.unusedVariables false
set_option linter.unusedSimpArgs false
namespace Go.Proofs.Ytolpbbabmcpdkaa
open Go Go.RowKit

theorem gn_mul {ns ss : List Int} {P Q x y : Int} (a : Nat) (h : P * (ss.sum * x) = y * ns.sum * Q) : gnV ns ss P Q a * x = Q * ns.sum * (ss.getD a 0 * x - ns.getD a 0 * y) := by
  unfold gnV
  generalize ss.getD a 0 = s
  generalize ns.getD a 0 = n
  have e : n * P * ss.sum * x = n * (y * ns.sum * Q) := by
    rw [← h, Int.mul_assoc n P, Int.mul_assoc n, Int.mul_assoc P]
  rw [Int.sub_mul, e]
  grind
theorem gn_sign {ns ss : List Int} {P Q x y : Int} (a : Nat) (hN : 0 < ns.sum) (hx : 0 < x) (hQ : 0 < Q) (h : P * (ss.sum * x) = y * ns.sum * Q) :
    (y * ns.getD a 0 ≤ ss.getD a 0 * x → 0 ≤ gnV ns ss P Q a) ∧ (ss.getD a 0 * x ≤ y * ns.getD a 0 → gnV ns ss P Q a ≤ 0) := by
  have e := gn_mul a h
  have hq : 0 < Q * ns.sum := Int.mul_pos hQ hN
  rw [Int.mul_comm (ns.getD a 0) y] at e
  generalize gnV ns ss P Q a = g at *
  generalize ss.getD a 0 * x = u at *
  generalize y * ns.getD a 0 = v at *
  generalize Q * ns.sum = r at *
  constructor
  · intro huv
    refine Int.not_lt.1 fun hg => ?_
    have h1 : g * x < 0 := Int.mul_neg_of_neg_of_pos hg hx
    have h2 : 0 ≤ r * (u - v) := Int.mul_nonneg (by omega) (by omega)
    omega
  · intro huv
    refine Int.not_lt.1 fun hg => ?_
    have h1 : 0 < g * x := Int.mul_pos hg hx
    have h2 : r * (u - v) ≤ 0 := Int.mul_nonpos_of_nonneg_of_nonpos (by omega) (by omega)
    omega
theorem ct_proves {ns ss : List Int} (ho : Od ns ss) {k : Nat} (h1 : 1 ≤ k) (h2 : k ≤ ns.length) {P Q : Int} (hx : 0 < ns.getD (laN ns ss k) 0) (hQ : 0 < Q) (h : P * (ss.sum * ns.getD (laN ns ss k) 0) = ss.getD (laN ns ss k) 0 * ns.sum * Q) :
    tgV ns ss P Q (ctL ns ss k) = tgV ns ss P Q (deL ns ss P Q) := by
  have hn := fun a => (getD_bd (by omega) ho.nb a).1
  have hs := fun a => (getD_bd (by omega) ho.sb a).1
  obtain ⟨la, hla⟩ := getElem?_of_lt (zs := rowN ns ss) (k := k - 1) (by rw [row_len]; omega)
  have el : laN ns ss k = la := by rw [laN, List.getD_eq_getElem?_getD, hla]; rfl
  rw [el] at hx h
  rw [cut_of (ct_cut (ns := ns) (ss := ss) k), deL, tg_mS, tg_mS]
  congr 1
  refine List.map_congr_left fun i hi => ?_
  have hin : i < ns.length := List.mem_range.1 hi
  obtain ⟨j, hj, hji⟩ := List.mem_iff_getElem.1 (row_mem (ns := ns) (ss := ss) |>.2 hin)
  have hjs : (rowN ns ss)[j]? = some i := by rw [List.getElem?_eq_getElem hj, hji]
  have sg := gn_sign (ns := ns) (ss := ss) i ho.np hx hQ h
  by_cases hjk : j < k
  · have hm : (ctL ns ss k).contains (i : Int) = true := by
      rw [List.contains_iff_mem, (ct_perm ns ss k).mem_iff, rowL, ← List.map_take]
      refine List.mem_map.2 ⟨i, ?_, rfl⟩
      exact List.mem_of_getElem? (by rw [List.getElem?_take, if_pos hjk]; exact hjs)
    have hg : 0 ≤ gnV ns ss P Q i := by
      apply sg.1
      by_cases e : j = k - 1
      · subst e
        rw [hla] at hjs
        cases hjs
        exact Int.le_refl _
      · exact bef_le (row_gt hn hs (by omega) hjs hla)
    rw [hm, if_pos rfl]
    by_cases hp : 0 < gnV ns ss P Q i
    · rw [decide_eq_true hp, if_pos rfl]
    · rw [decide_eq_false hp]; simp only [Bool.false_eq_true, if_false]; omega
  · have hm : (ctL ns ss k).contains (i : Int) = false := by
      rw [Bool.eq_false_iff]
      intro hc
      rw [List.contains_iff_mem, (ct_perm ns ss k).mem_iff, rowL, ← List.map_take] at hc
      obtain ⟨b, hb, hbi⟩ := List.mem_map.1 hc
      have hbi' : b = i := Int.ofNat.inj hbi
      subst hbi'
      obtain ⟨m, hm, hmb⟩ := List.mem_iff_getElem.1 hb
      have hms : (rowN ns ss)[m]? = some b := by
        rw [List.getElem_take] at hmb
        rw [List.length_take] at hm
        rw [List.getElem?_eq_getElem (by omega), hmb]
      rw [List.length_take] at hm
      have r1 := row_rank hn hs hms
      have r2 := row_rank hn hs hjs
      omega
    have hg : gnV ns ss P Q i ≤ 0 := by
      apply sg.2
      exact bef_le (row_gt hn hs (by omega) hla hjs)
    rw [hm, decide_eq_false (by omega)]
end Go.Proofs.Ytolpbbabmcpdkaa
