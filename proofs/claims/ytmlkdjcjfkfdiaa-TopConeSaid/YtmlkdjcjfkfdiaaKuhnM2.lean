/-
  Plain facts: finding a hit to lead: within a closed set it fails, and a success leaves such a set as it is.
-/
import Derived.Test.YtmlkdjcjfkfdiaaKuhnM
namespace Go.Proofs.Ytmlkdjcjfkfdiaa
open Go.RowKit Go.Shelf

def Closed (ms : List (Int × Int)) (fr C : List Int) : Prop := ∀ b ∈ C, frI fr b ≠ -1 ∧ ∀ c ∈ afterL ms (frI fr b), c ∈ C
theorem try_closed {ms : List (Int × Int)} {lead : Int → List Int → List Int → Bool × List Int × List Int} {a : Int} {fr C : List Int} (hC : Closed ms fr C)
    (hl : ∀ x se, (∀ c ∈ afterL ms x, c ∈ C) → (lead x fr se).1 = false ∧ (lead x fr se).2.1 = fr) :
    ∀ (bs se : List Int), (∀ b ∈ bs, b ∈ C) → (tryR lead a bs fr se).1 = false ∧ (tryR lead a bs fr se).2.1 = fr
  | [], _, _ => ⟨rfl, rfl⟩
  | b :: bs, se, hb => by
    have hb2 : ∀ c ∈ bs, c ∈ C := fun c hc => hb c (List.mem_cons_of_mem _ hc)
    rw [tryR]
    by_cases h1 : b ∈ se
    · rw [if_pos h1]
      exact try_closed hC hl bs se hb2
    · obtain ⟨g1, g2⟩ := hC b (hb b (by simp))
      obtain ⟨e1, e2⟩ := hl (frI fr b) (se ++ [b]) g2
      rw [if_neg h1, if_neg g1, e1, if_neg (show ¬ (false = true) by simp), e2]
      exact try_closed hC hl bs _ hb2
theorem lead_closed {ms : List (Int × Int)} {fr C : List Int} (hC : Closed ms fr C) : ∀ (f : Nat) (x : Int) (se : List Int), (∀ c ∈ afterL ms x, c ∈ C) → (leadR ms f x fr se).1 = false ∧ (leadR ms f x fr se).2.1 = fr
  | 0, _, _, _ => ⟨rfl, rfl⟩
  | f + 1, x, se, h => by
    rw [leadR]
    exact try_closed hC (fun y s hy => lead_closed hC f y s hy) _ _ h
theorem frI_set {fr : List Int} {b c a : Int} (hb : 0 ≤ b) (hc : 0 ≤ c) (h : b ≠ c) : frI (fr.set b.toNat a) c = frI fr c := by
  rw [frI, frI, List.getD_eq_getElem?_getD, List.getD_eq_getElem?_getD, List.getElem?_set, if_neg (by omega)]
theorem count_set (a y : Int) : ∀ (l : List Int) (i : Nat), i < l.length → (l.set i a).count y + (if l.getD i (-1) = y then 1 else 0) = l.count y + (if a = y then 1 else 0)
  | [], i, h => by simp at h
  | x :: l, 0, _ => by
    simp [List.count_cons]
    omega
  | x :: l, i + 1, h => by
    have := count_set a y l i (by simpa using h)
    simp only [List.set_cons_succ, List.count_cons, List.getD_cons_succ]
    omega
/-- What a success leaves: one hit that had no front has one, and the fronts are those of before and a. -/
structure Wins (ms : List (Int × Int)) (a : Int) (fr se fr2 : List Int) : Prop where
  len : fr2.length = fr.length
  cnt : ∀ y : Int, fr2.count y + (if (-1 : Int) = y then 1 else 0) = fr.count y + (if a = y then 1 else 0)
  same : ∀ b ∈ se, 0 ≤ b → frI fr2 b = frI fr b
  edge : ∀ b : Int, 0 ≤ b → frI fr2 b = frI fr b ∨ befI ms (frI fr2 b) b = true
end Go.Proofs.Ytmlkdjcjfkfdiaa
