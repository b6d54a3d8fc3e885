/-
  Plain words for what each hit knows of, as masks; nothing of the program.
-/
import Derived.Test.YtmlkdjcjfkfdiaaList
namespace Go.Proofs.Ytmlkdjcjfkfdiaa
open Go Go.RowKit

/-- What hit a knows of among the first j. -/
def knowM (ms : List (Int × Int)) (a : Int) (j : Nat) : Nat := maskL ms.length ((allL j).filter (knowI ms a))
theorem knowM_zero (ms : List (Int × Int)) (a : Int) : knowM ms a 0 = 0 := rfl
theorem mask_snoc (n : Nat) (b : Int) : ∀ l : List Int, maskL n (l ++ [b]) = maskL n l ||| 2 ^ (n - 1 - b.toNat) := by
  intro l
  refine Nat.eq_of_testBit_eq fun i => ?_
  rw [Nat.testBit_or, mask_bit, mask_bit, Nat.testBit_two_pow, List.any_append]
  simp
theorem knowM_yes {ms : List (Int × Int)} {a : Int} {j : Nat} (h : knowI ms a j = true) : knowM ms a (j + 1) = knowM ms a j ||| 2 ^ (ms.length - 1 - j) := by
  rw [knowM, firstB_take, h, if_pos rfl, mask_snoc]; rfl
theorem knowM_no {ms : List (Int × Int)} {a : Int} {j : Nat} (h : knowI ms a j = false) : knowM ms a (j + 1) = knowM ms a j := by
  rw [knowM, firstB_take, h]; simp [knowM]
theorem knowM_lt {ms : List (Int × Int)} {a : Int} {j : Nat} (hn : 0 < ms.length) (hn2 : ms.length ≤ 40) : knowM ms a j < 2 ^ 63 :=
  Nat.lt_of_lt_of_le (mask_lt hn) (Nat.pow_le_pow_right (by omega) (by omega))
def entK (ms : List (Int × Int)) (k j i : Nat) : Nat := if i < k then knowM ms i ms.length else if i = k then knowM ms i j else 0
def rowK (ms : List (Int × Int)) (k j : Nat) : List Nat := (List.range ms.length).map (entK ms k j)
theorem rowK_len (ms : List (Int × Int)) (k j : Nat) : (rowK ms k j).length = ms.length := by simp [rowK]
theorem rowK_get {ms : List (Int × Int)} {k j i : Nat} (h : i < ms.length) : (rowK ms k j)[i]? = some (entK ms k j i) := by
  rw [rowK, List.getElem?_map, List.getElem?_range h]; rfl
theorem entK_at (ms : List (Int × Int)) (k j : Nat) : entK ms k j k = knowM ms k j := by simp [entK]
theorem entK_done {ms : List (Int × Int)} {i k j : Nat} (h : i < k) : entK ms k j i = knowM ms i ms.length := by simp [entK, h]
theorem rowK_zero (ms : List (Int × Int)) : rowK ms 0 0 = List.replicate ms.length 0 := by
  rw [List.eq_replicate_iff]
  refine ⟨rowK_len _ _ _, fun b hb => ?_⟩
  obtain ⟨i, _, rfl⟩ := List.mem_map.1 hb
  simp only [entK, Nat.not_lt_zero, if_false, knowM_zero, ite_self]
theorem rowK_next (ms : List (Int × Int)) (k : Nat) : rowK ms k ms.length = rowK ms (k + 1) 0 := by
  refine List.map_congr_left fun i _ => ?_
  simp only [entK, knowM_zero, ite_self]
  by_cases h1 : i < k
  · rw [if_pos h1, if_pos (by omega)]
  · rw [if_neg h1]
    by_cases h2 : i = k
    · rw [if_pos h2, if_pos (by omega)]
    · rw [if_neg h2, if_neg (by omega)]
theorem rowK_set {ms : List (Int × Int)} {k j : Nat} (h : k < ms.length) : (rowK ms k j).set k (knowM ms k (j + 1)) = rowK ms k (j + 1) := by
  refine List.ext_getElem? fun i => ?_
  by_cases hi : i < ms.length
  · rw [List.getElem?_set, rowK_get hi, rowK_get hi]
    by_cases e : k = i
    · subst e; rw [if_pos rfl, rowK_len, if_pos h, entK_at]
    · rw [if_neg e]; simp only [entK]; rw [if_neg (show ¬ i = k by omega), if_neg (show ¬ i = k by omega)]
  · rw [List.getElem?_eq_none (by rw [List.length_set, rowK_len]; omega), List.getElem?_eq_none (by rw [rowK_len]; omega)]
theorem rowK_keep {ms : List (Int × Int)} {k j : Nat} (hk : knowI ms k j = false) : rowK ms k (j + 1) = rowK ms k j := by
  refine List.map_congr_left fun i _ => ?_
  simp only [entK]
  by_cases h2 : i = k
  · subst h2; rw [knowM_no hk]
  · rw [if_neg h2, if_neg h2]
theorem made_rowK (ms : List (Int × Int)) : (madeCells (Value.int .i64 0).cells (ms.length * 1)).toList = (rowK ms 0 0).map fun x : Nat => Value.int .i64 x := by
  rw [rowK_zero, List.map_replicate, List.eq_replicate_iff]
  refine ⟨by simp [madeCells], fun b hb => ?_⟩
  simp only [madeCells, Value.cells] at hb
  simp at hb
  obtain ⟨i, _, rfl⟩ := hb
  simp [Nat.mod_one]
theorem and_zero (n s : Nat) (l : List Int) (hl : ∀ a ∈ l, 0 ≤ a ∧ a < n) : maskL n l &&& s = 0 ↔ ∀ b ∈ l, inS n s b = false := by
  constructor
  · intro h b hb
    have e : (maskL n l &&& s).testBit (n - 1 - b.toNat) = false := by rw [h]; simp
    rw [Nat.testBit_and] at e
    have e2 := (mask_in hl (hl b hb)).2 hb
    rw [inS] at e2 ⊢
    rw [e2] at e; simpa using e
  · intro h
    refine Nat.eq_of_testBit_eq fun i => ?_
    rw [Nat.testBit_and, Nat.zero_testBit, mask_bit, Bool.and_eq_false_iff]
    cases he : l.any fun a => decide (n - 1 - a.toNat = i) with
    | false => exact .inl rfl
    | true =>
      obtain ⟨b, hb, e⟩ := List.any_eq_true.1 he
      simp at e
      have := h b hb
      rw [inS, e] at this
      exact .inr this
/-- Whether none of a set's hits, among the first k, knows of another one of them. -/
def layF (ms : List (Int × Int)) (s k : Nat) : Bool := ((allL k).filter (inS ms.length s)).all fun a => decide (knowM ms a ms.length &&& s = 0)
def cntF (ms : List (Int × Int)) (s k : Nat) : Nat := ((allL k).filter (inS ms.length s)).length
theorem layF_yes {ms : List (Int × Int)} {s k : Nat} (h : inS ms.length s k = true) : layF ms s (k + 1) = (layF ms s k && decide (knowM ms k ms.length &&& s = 0)) := by
  rw [layF, setL_in, h, if_pos rfl, List.all_append]; simp [layF]
theorem layF_no {ms : List (Int × Int)} {s k : Nat} (h : inS ms.length s k = false) : layF ms s (k + 1) = layF ms s k := by
  rw [layF, setL_in, h]; simp [layF]
theorem cntF_yes {ms : List (Int × Int)} {s k : Nat} (h : inS ms.length s k = true) : cntF ms s (k + 1) = cntF ms s k + 1 := by
  rw [cntF, setL_in, h, if_pos rfl, List.length_append]; rfl
theorem cntF_no {ms : List (Int × Int)} {s k : Nat} (h : inS ms.length s k = false) : cntF ms s (k + 1) = cntF ms s k := by
  rw [cntF, setL_in, h]; simp [cntF]
theorem cntF_le (ms : List (Int × Int)) (s k : Nat) : cntF ms s k ≤ k := Nat.le_trans (List.length_filter_le _ _) (by rw [allL_len]; exact Nat.le_refl _)
theorem cntF_all (ms : List (Int × Int)) (s : Nat) : cntF ms s ms.length = (setL ms.length s).length := rfl
theorem layF_all (ms : List (Int × Int)) (s : Nat) : layF ms s ms.length = true ↔ Lay ms (setL ms.length s) := by
  rw [layF, List.all_eq_true]
  have hz : ∀ a : Int, (knowM ms a ms.length &&& s = 0) ↔ ∀ b ∈ setL ms.length s, knowI ms a b = false := by
    intro a
    rw [knowM, and_zero _ _ _ (fun b hb => allL_mem (List.mem_filter.1 hb).1)]
    constructor
    · intro h b hb
      rw [setL, List.mem_filter] at hb
      cases e : knowI ms a b with
      | false => rfl
      | true =>
        have := h b (List.mem_filter.2 ⟨hb.1, e⟩)
        rw [this] at hb; simp at hb
    · intro h b hb
      rw [List.mem_filter] at hb
      cases e : inS ms.length s b with
      | false => rfl
      | true =>
        have := h b (List.mem_filter.2 ⟨hb.1, e⟩)
        rw [this] at hb; simp at hb
  constructor
  · intro h a ha b hb; exact (hz a).1 (by simpa using h a ha) b hb
  · intro h a ha; simpa using (hz a).2 (h a ha)
end Go.Proofs.Ytmlkdjcjfkfdiaa
