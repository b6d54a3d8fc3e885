/-
  Contract: Chain (firnref02).
-/
import Derived.Test.YticokhiehejljaaChainM
import Derived.Test.YticokhiehejljaaRefLengths
import Derived.Test.YticokhiehejljaaRefIsChain
namespace Go.Proofs.Yticokhiehejljaa
open Go.RowKit Go.Shelf

theorem allL_split {n k : Nat} (hk : k < n) : ∃ r, allL n = allL k ++ (k : Int) :: r := by
  refine ⟨(List.range (n - k - 1)).map (fun i => ((k + 1 + i : Nat) : Int)), ?_⟩
  refine List.ext_getElem? fun i => ?_
  rcases Nat.lt_trichotomy i k with h | h | h
  · rw [List.getElem?_append_left (by rw [allL_len]; exact h), allL, allL, List.getElem?_map, List.getElem?_map, List.getElem?_range h, List.getElem?_range (by omega)]
  · subst h
    rw [List.getElem?_append_right (by rw [allL_len]; exact Nat.le_refl _), allL_len, Nat.sub_self, allL, List.getElem?_map, List.getElem?_range hk]; rfl
  · rw [List.getElem?_append_right (by rw [allL_len]; omega), allL_len]
    obtain ⟨d, rfl⟩ : ∃ d, i = k + 1 + d := ⟨i - k - 1, by omega⟩
    rw [show k + 1 + d - k = d + 1 by omega, List.getElem?_cons_succ, allL, List.getElem?_map, List.getElem?_map]
    by_cases hd : k + 1 + d < n
    · rw [List.getElem?_range hd, List.getElem?_range (by omega)]; rfl
    · rw [List.getElem?_eq_none (by simp; omega), List.getElem?_eq_none (by simp; omega)]; rfl
theorem find_first {p q : Int → Bool} {n k : Nat} (hk : k < n) (hp : p k = true) (hq : q k = true) (hno : ∀ j : Nat, j < k → ¬ (p j = true ∧ q j = true)) : ((allL n).filter p).find? q = some (k : Int) := by
  obtain ⟨r, hr⟩ := allL_split hk
  rw [List.find?_filter, hr, List.find?_append, List.find?_eq_none.2 (fun a ha => ?_), Option.none_or, List.find?_cons_of_pos (by simp [hp, hq])]
  obtain ⟨j, hj, rfl⟩ := List.mem_map.1 ha
  have := hno j (List.mem_range.1 hj)
  simpa using this
def leftP (ms : List (Int × Int)) (ys : List Int) (b : Int) : Bool := match ys.getLast? with | none => true | some p => befI ms p b
def leftOf (ms : List (Int × Int)) (ys : List Int) : List Int := (allL ms.length).filter (leftP ms ys)
theorem leftOf_nil (ms : List (Int × Int)) : leftOf ms [] = allL ms.length := List.filter_eq_self.2 fun _ _ => rfl
theorem leftP_snoc (ms : List (Int × Int)) (ys : List Int) (a b : Int) : leftP ms (ys ++ [a]) b = befI ms a b := by simp [leftP]
theorem leftOf_snoc (ms : List (Int × Int)) (ys : List Int) (a : Int) : leftOf ms (ys ++ [a]) = afterL ms a := List.filter_congr fun b _ => leftP_snoc ms ys a b
theorem leftOf_left (ms : List (Int × Int)) (ys : List Int) : Left ms (leftOf ms ys) := by
  rcases List.eq_nil_or_concat ys with rfl | ⟨zs, p, rfl⟩
  · exact .inl (leftOf_nil ms)
  · rw [List.concat_eq_append]; exact .inr ⟨p, leftOf_snoc ms zs p⟩
/-- What is known between two rounds. -/
structure ChK (ms : List (Int × Int)) (m : Nat) (ys : List Int) : Prop where
  top : Top ms (leftOf ms ys) m
  eq : ys ++ chainR ms m (leftOf ms ys) = chainL ms
  len : ys.length + (leftOf ms ys).length ≤ ms.length
  has : ∀ a ∈ ys, ∃ j : Nat, a = (j : Int) ∧ j < ms.length
theorem chK_start {ms : List (Int × Int)} (hn : 1 ≤ ms.length) : ChK ms (topN ms) [] :=
  ⟨by rw [leftOf_nil]; exact top_all hn, by rw [leftOf_nil]; rfl, by rw [leftOf_nil, allL_len]; simp, fun a ha => by cases ha⟩
theorem chK_step {ms : List (Int × Int)} {m k : Nat} {ys : List Int} (h : ChK ms (m + 1) ys) (hk : k < ms.length) (hl : lenI ms k = (m + 1 : Nat)) (hp : leftP ms ys k = true) (hno : ∀ j : Nat, j < k → ¬ (leftP ms ys j = true ∧ lenI ms j = (m + 1 : Nat))) : ChK ms m (ys ++ [(k : Int)]) := by
  have hf : (leftOf ms ys).find? (fun a => decide (lenI ms a = (m + 1 : Nat))) = some (k : Int) := find_first hk hp (by simpa using hl) fun j hj hh => hno j hj ⟨hh.1, by simpa using hh.2⟩
  have hm : (k : Int) ∈ leftOf ms ys := List.mem_of_find?_eq_some hf
  have hka : (k : Int) ∈ allL ms.length := (List.mem_filter.1 hm).1
  have hlt := (leftOf_left ms ys).less hm
  refine ⟨by rw [leftOf_snoc]; exact top_after hka hl, ?_, ?_, fun a ha => ?_⟩
  · rw [leftOf_snoc, List.append_assoc, List.singleton_append, ← chainR_cons hf]; exact h.eq
  · have := h.len
    rw [leftOf_snoc, List.length_append, List.length_singleton]; omega
  · rcases List.mem_append.1 ha with q | q
    · exact h.has a q
    · exact ⟨k, by simpa using q, hk⟩
theorem chK_some {ms : List (Int × Int)} {m : Nat} {ys : List Int} (h : ChK ms (m + 1) ys) (hno : ∀ j : Nat, j < ms.length → ¬ (leftP ms ys j = true ∧ lenI ms j = (m + 1 : Nat))) : False := by
  obtain ⟨b, hb, hb2⟩ := h.top.some (by omega)
  obtain ⟨h1, h2⟩ := List.mem_filter.1 hb
  obtain ⟨j, hj, rfl⟩ := List.mem_map.1 h1
  exact hno j (List.mem_range.1 hj) ⟨h2, hb2⟩
theorem chK_end {ms : List (Int × Int)} {ys : List Int} (h : ChK ms 0 ys) : ys = chainL ms := by
  have := h.eq
  rw [chainR, List.append_nil] at this
  exact this
end Go.Proofs.Yticokhiehejljaa
