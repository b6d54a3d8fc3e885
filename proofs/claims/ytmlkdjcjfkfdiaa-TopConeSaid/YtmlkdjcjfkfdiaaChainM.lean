/-
  Plain words for the longest chain that comes first; nothing of the program.
-/
import Derived.Test.YtmlkdjcjfkfdiaaNumRounds
namespace Go.Proofs.Ytmlkdjcjfkfdiaa
open Go Go.RowKit

def lenI (ms : List (Int × Int)) (a : Int) : Int := numI ms max a
def chainR (ms : List (Int × Int)) : Nat → List Int → List Int
  | 0, _ => []
  | m + 1, left => match left.find? (fun a => decide (lenI ms a = (m + 1 : Nat))) with
    | some a => a :: chainR ms m (afterL ms a)
    | none => []
/-- The greatest length of some hits. -/
structure Top (ms : List (Int × Int)) (left : List Int) (m : Nat) : Prop where
  le : ∀ b ∈ left, lenI ms b ≤ m
  none : m = 0 → left = []
  some : 0 < m → ∃ b ∈ left, lenI ms b = m
theorem fold_max_le : ∀ (l : List Int) (x M : Int), x ≤ M → (∀ a ∈ l, a ≤ M) → l.foldl max x ≤ M
  | [], _, _, h, _ => h
  | a :: t, x, M, h, hl => fold_max_le t (max x a) M (by have := hl a (by simp); omega) fun b hb => hl b (by simp [hb])
theorem fold_max_ge : ∀ (l : List Int) (x : Int), x ≤ l.foldl max x ∧ ∀ a ∈ l, a ≤ l.foldl max x
  | [], x => ⟨Int.le_refl _, fun _ h => by cases h⟩
  | a :: t, x => by
    obtain ⟨h1, h2⟩ := fold_max_ge t (max x a)
    rw [List.foldl_cons]
    refine ⟨by omega, fun b hb => ?_⟩
    rcases List.mem_cons.1 hb with e | e
    · subst e; omega
    · exact h2 b e
theorem fold_max_mem : ∀ (l : List Int) (x : Int), l.foldl max x = x ∨ l.foldl max x ∈ l
  | [], _ => .inl rfl
  | a :: t, x => by
    rw [List.foldl_cons]
    rcases fold_max_mem t (max x a) with h | h
    · rw [h]
      rcases Int.lt_or_le x a with q | q
      · exact .inr (by rw [show max x a = a by omega]; simp)
      · exact .inl (by omega)
    · exact .inr (by simp [h])
theorem len_pos {ms : List (Int × Int)} {a : Int} (ha : a ∈ allL ms.length) : 1 ≤ lenI ms a := by
  rw [lenI, numI_eq ha]
  have := (fold_max_ge ((afterL ms a).map (numI ms max)) 0).1
  omega
theorem top_after {ms : List (Int × Int)} {a : Int} (ha : a ∈ allL ms.length) {m : Nat} (h : lenI ms a = (m + 1 : Nat)) : Top ms (afterL ms a) m := by
  have e : ((afterL ms a).map (numI ms max)).foldl max 0 = m := by
    have := numI_eq (ms := ms) (J := max) ha
    rw [lenI] at h
    omega
  have hg := (fold_max_ge ((afterL ms a).map (numI ms max)) 0).2
  rw [e] at hg
  have hle : ∀ b ∈ afterL ms a, lenI ms b ≤ m := fun b hb => hg _ (List.mem_map.2 ⟨b, hb, rfl⟩)
  refine ⟨hle, fun h0 => ?_, fun h0 => ?_⟩
  · cases hl : afterL ms a with
    | nil => rfl
    | cons b t =>
      have hb : b ∈ afterL ms a := by rw [hl]; simp
      have h1 := hle b hb
      have h2 := len_pos (mem_after.1 hb).1
      omega
  · rcases fold_max_mem ((afterL ms a).map (numI ms max)) 0 with q | q
    · omega
    · rw [e] at q
      obtain ⟨b, hb, hb2⟩ := List.mem_map.1 q
      exact ⟨b, hb, hb2⟩
theorem chainR_cons {ms : List (Int × Int)} {m : Nat} {left : List Int} {a : Int} (h : left.find? (fun a => decide (lenI ms a = (m + 1 : Nat))) = some a) : chainR ms (m + 1) left = a :: chainR ms m (afterL ms a) := by
  rw [chainR, h]
/-- The first one of the greatest length, as the loop finds it. -/
def firstMax (ms : List (Int × Int)) (x : Int) (l : List Int) : Int := l.foldl (fun n a => if lenI ms n < lenI ms a then a else n) x
theorem firstMax_snoc {ms : List (Int × Int)} {x : Int} {l : List Int} {k : Nat} {a : Int} (h : l[k]? = some a) : firstMax ms x (l.take (k + 1)) = if lenI ms (firstMax ms x (l.take k)) < lenI ms a then a else firstMax ms x (l.take k) := by
  rw [take_snoc h, firstMax, List.foldl_append]; rfl
theorem firstMax_find (ms : List (Int × Int)) (m : Int) : ∀ (l : List Int) (x : Int), lenI ms x ≤ m → (∀ b ∈ l, lenI ms b ≤ m) → (lenI ms x = m → firstMax ms x l = x) ∧ (lenI ms x < m → (∃ b ∈ l, lenI ms b = m) → l.find? (fun a => decide (lenI ms a = m)) = some (firstMax ms x l))
  | [], x, _, _ => ⟨fun _ => rfl, fun _ ⟨b, hb, _⟩ => by cases hb⟩
  | a :: t, x, hx, hl => by
    have ha := hl a (by simp)
    have ht : ∀ b ∈ t, lenI ms b ≤ m := fun b hb => hl b (by simp [hb])
    refine ⟨fun e => ?_, fun hlt he => ?_⟩
    · rw [firstMax, List.foldl_cons, if_neg (by omega)]
      exact (firstMax_find ms m t x hx ht).1 e
    · rw [firstMax, List.foldl_cons]
      by_cases q : lenI ms a = m
      · rw [if_pos (by omega), List.find?_cons_of_pos (by simp [q])]
        exact congrArg some ((firstMax_find ms m t a ha ht).1 q).symm
      · have he2 : ∃ b ∈ t, lenI ms b = m := by
          obtain ⟨b, hb, hb2⟩ := he
          rcases List.mem_cons.1 hb with e | e
          · subst e; exact absurd hb2 q
          · exact ⟨b, e, hb2⟩
        rw [List.find?_cons_of_neg (by simp [q])]
        split
        · exact (firstMax_find ms m t a ha ht).2 (by omega) he2
        · exact (firstMax_find ms m t x hx ht).2 hlt he2
theorem firstMax_top {ms : List (Int × Int)} {x : Int} {t : List Int} {m : Nat} (h : Top ms (x :: t) (m + 1)) : (x :: t).find? (fun a => decide (lenI ms a = (m + 1 : Nat))) = some (firstMax ms x (x :: t)) := by
  have hx := h.le x (by simp)
  rcases Int.lt_or_le (lenI ms x) ((m + 1 : Nat) : Int) with q | q
  · exact (firstMax_find ms _ (x :: t) x hx h.le).2 q (h.some (by omega))
  · have e : lenI ms x = ((m + 1 : Nat) : Int) := by omega
    rw [(firstMax_find ms _ (x :: t) x hx h.le).1 e, List.find?_cons_of_pos (by simp [e])]
/-- The longest chain that comes first. -/
def topN (ms : List (Int × Int)) : Nat := (((allL ms.length).map (numI ms max)).foldl max 0).toNat
def chainL (ms : List (Int × Int)) : List Int := chainR ms (topN ms) (allL ms.length)
def chainF (ms : List (Int × Int)) : List Int := if vhB ms then chainL ms else []
theorem top_all {ms : List (Int × Int)} (hn : 1 ≤ ms.length) : Top ms (allL ms.length) (topN ms) := by
  have hg := fold_max_ge ((allL ms.length).map (numI ms max)) 0
  have e : ((topN ms : Nat) : Int) = ((allL ms.length).map (numI ms max)).foldl max 0 := by rw [topN]; omega
  have hle : ∀ b ∈ allL ms.length, lenI ms b ≤ topN ms := fun b hb => by rw [e]; exact hg.2 _ (List.mem_map.2 ⟨b, hb, rfl⟩)
  have h0 : ((0 : Nat) : Int) ∈ allL ms.length := List.mem_map.2 ⟨0, List.mem_range.2 (by omega), rfl⟩
  have h1 := hle _ h0
  have h2 := len_pos h0
  refine ⟨hle, fun q => by omega, fun _ => ?_⟩
  rcases fold_max_mem ((allL ms.length).map (numI ms max)) 0 with q | q
  · omega
  · obtain ⟨b, hb, hb2⟩ := List.mem_map.1 q
    exact ⟨b, hb, by rw [e]; exact hb2⟩
/-- What is left is all hits, or those after one. -/
def Left (ms : List (Int × Int)) (left : List Int) : Prop := left = allL ms.length ∨ ∃ p, left = afterL ms p
theorem Left.mem {ms : List (Int × Int)} {left : List Int} (h : Left ms left) {a : Int} (ha : a ∈ left) : a ∈ allL ms.length := by
  rcases h with rfl | ⟨p, rfl⟩
  · exact ha
  · exact (mem_after.1 ha).1
theorem Left.less {ms : List (Int × Int)} {left : List Int} (h : Left ms left) {a : Int} (ha : a ∈ left) : (afterL ms a).length < left.length := by
  rcases h with rfl | ⟨p, rfl⟩
  · rw [allL_len]; exact after_lt ha
  · exact after_less ha
theorem firstMax_mem {ms : List (Int × Int)} : ∀ (l : List Int) (x : Int), firstMax ms x l = x ∨ firstMax ms x l ∈ l
  | [], _ => .inl rfl
  | a :: t, x => by
    rw [firstMax, List.foldl_cons]
    rcases firstMax_mem (ms := ms) t (if lenI ms x < lenI ms a then a else x) with q | q
    · rw [firstMax] at q
      rw [q]
      split
      · exact .inr (by simp)
      · exact .inl rfl
    · exact .inr (List.mem_cons_of_mem _ q)
end Go.Proofs.Ytmlkdjcjfkfdiaa
