/-
  Plain facts: the pairs of points with different X, in the order in which they come.
-/
import Derived.Test.YtoilbgngefleiaaThrough
namespace Go.Proofs.Ytoilbgngefleiaa
open Go.RowKit Go.Shelf

/-- The pairs whose second point is b, of some points ahead of it. -/
def pairK (b : Int × Int) (l : List (Int × Int)) : List ((Int × Int) × (Int × Int)) := (l.filter fun a => decide (a.1 ≠ b.1)).map fun a => (a, b)
def pairsL (ms : List (Int × Int)) (k : Nat) : List ((Int × Int) × (Int × Int)) := (List.range k).flatMap fun n => pairK (ms.getD n (0, 0)) (ms.take n)
theorem pairK_yes {b a : Int × Int} {l : List (Int × Int)} {i : Nat} (h : l[i]? = some a) (hne : a.1 ≠ b.1) : pairK b (l.take (i + 1)) = pairK b (l.take i) ++ [(a, b)] := by
  rw [pairK, pairK, take_snoc h, List.filter_append, List.map_append]
  simp [hne]
theorem pairK_no {b a : Int × Int} {l : List (Int × Int)} {i : Nat} (h : l[i]? = some a) (he : a.1 = b.1) : pairK b (l.take (i + 1)) = pairK b (l.take i) := by
  rw [pairK, pairK, take_snoc h, List.filter_append, List.map_append]
  simp [he]
theorem pairK_len (b : Int × Int) (l : List (Int × Int)) : (pairK b l).length ≤ l.length := by
  rw [pairK, List.length_map]
  exact List.length_filter_le _ _
theorem pairsL_succ {ms : List (Int × Int)} {k : Nat} {b : Int × Int} (h : ms[k]? = some b) : pairsL ms (k + 1) = pairsL ms k ++ pairK b (ms.take k) := by
  rw [pairsL, List.range_succ, List.flatMap_append]
  simp [pairsL, List.getD_eq_getElem?_getD, h]
theorem pairsL_len (ms : List (Int × Int)) : ∀ k, (pairsL ms k).length ≤ k * k
  | 0 => by simp [pairsL]
  | k + 1 => by
    have ih := pairsL_len ms k
    have h2 : (pairsL ms (k + 1)).length = (pairsL ms k).length + (pairK (ms.getD k (0, 0)) (ms.take k)).length := by
      rw [pairsL, List.range_succ, List.flatMap_append, List.length_append]
      simp [pairsL]
    have h3 := pairK_len (ms.getD k (0, 0)) (ms.take k)
    rw [List.length_take] at h3
    have : (k + 1) * (k + 1) = k * k + 2 * k + 1 := by grind
    omega
/-- The pairs with the k-th point behind i points are a part of all. -/
theorem pairs_pre {ms : List (Int × Int)} {k i : Nat} {b : Int × Int} (h : ms[k]? = some b) : ∃ R, pairsL ms ms.length = pairsL ms k ++ (pairK b ((ms.take k).take i) ++ R) := by
  have hk := (List.getElem?_eq_some_iff.1 h).1
  have h1 : ∀ d, ∃ R, pairsL ms (k + 1 + d) = pairsL ms (k + 1) ++ R := by
    intro d
    induction d with
    | zero => exact ⟨[], by simp⟩
    | succ d ih =>
      obtain ⟨R, hR⟩ := ih
      refine ⟨R ++ pairK (ms.getD (k + 1 + d) (0, 0)) (ms.take (k + 1 + d)), ?_⟩
      rw [← Nat.add_assoc, pairsL, List.range_succ, List.flatMap_append, ← pairsL, hR]
      simp
  obtain ⟨R, hR⟩ := h1 (ms.length - (k + 1))
  rw [show k + 1 + (ms.length - (k + 1)) = ms.length by omega, pairsL_succ h] at hR
  refine ⟨pairK b ((ms.take k).drop i) ++ R, ?_⟩
  rw [hR, List.append_assoc, ← List.append_assoc (pairK b ((ms.take k).take i))]
  congr 2
  rw [pairK, pairK, pairK, ← List.map_append, ← List.filter_append, List.take_append_drop]
theorem pairs_mem {ms : List (Int × Int)} {x : (Int × Int) × (Int × Int)} (h : x ∈ pairsL ms ms.length) : x.1 ∈ ms ∧ x.2 ∈ ms ∧ x.1.1 ≠ x.2.1 := by
  obtain ⟨n, hn, hx⟩ := List.mem_flatMap.1 h
  have hn2 := List.mem_range.1 hn
  obtain ⟨a, ha, rfl⟩ := List.mem_map.1 hx
  obtain ⟨ha1, ha2⟩ := List.mem_filter.1 ha
  refine ⟨List.mem_of_mem_take ha1, ?_, of_decide_eq_true ha2⟩
  rw [List.getD_eq_getElem?_getD, List.getElem?_eq_getElem hn2]
  exact List.getElem_mem hn2
end Go.Proofs.Ytoilbgngefleiaa
