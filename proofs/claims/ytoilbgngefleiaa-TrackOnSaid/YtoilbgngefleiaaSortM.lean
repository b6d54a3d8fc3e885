/-
  Plain words for sorting by insertion; nothing of the program.
-/
import Derived.Test.YtoilbgngefleiaaJoined
namespace Go.Proofs.Ytoilbgngefleiaa
open Go Go.RowKit

def But (f : Int → Int) (ys : List Int) (i j : Nat) : Prop := ∀ p q, p < q → q ≤ i → q ≠ j → f (ys.getD p 0) ≤ f (ys.getD q 0)
def Srt (f : Int → Int) (ys : List Int) (i : Nat) : Prop := ∀ p q, p < q → q < i → f (ys.getD p 0) ≤ f (ys.getD q 0)
/-- The element at m + 1 and the one in front of it exchanged. -/
def swapL (ys : List Int) (m : Nat) : List Int := (ys.set (m + 1) (ys.getD m 0)).set m (ys.getD (m + 1) 0)
theorem swapL_len (ys : List Int) (m : Nat) : (swapL ys m).length = ys.length := by simp [swapL]
theorem swapL_at {ys : List Int} {m : Nat} (h : m + 1 < ys.length) (p : Nat) : (swapL ys m).getD p 0 = if p = m then ys.getD (m + 1) 0 else if p = m + 1 then ys.getD m 0 else ys.getD p 0 := by
  have e1 : ys.getD m 0 = ys[m]?.getD 0 := List.getD_eq_getElem?_getD
  have e2 : ys.getD (m + 1) 0 = ys[m + 1]?.getD 0 := List.getD_eq_getElem?_getD
  have e3 : ys.getD p 0 = ys[p]?.getD 0 := List.getD_eq_getElem?_getD
  rw [swapL, List.getD_eq_getElem?_getD, List.getElem?_set, List.length_set, List.getElem?_set]
  by_cases h1 : m = p
  · subst h1; rw [if_pos rfl, if_pos (by omega), if_pos rfl]; rfl
  · have h1' : ¬ p = m := fun e => h1 e.symm
    by_cases h2 : m + 1 = p
    · subst h2
      simp only [if_neg h1, if_neg h1', if_pos h]; rfl
    · have h2' : ¬ p = m + 1 := fun e => h2 e.symm
      simp only [if_neg h1, if_neg h1', if_neg h2, if_neg h2', e3]
theorem swapL_perm {ys : List Int} {m : Nat} (h : m + 1 < ys.length) : (swapL ys m).Perm ys := by
  have e1 : ys.getD m 0 = ys[m] := by rw [List.getD_eq_getElem?_getD, List.getElem?_eq_getElem (by omega)]; rfl
  have e2 : ys.getD (m + 1) 0 = ys[m + 1] := by rw [List.getD_eq_getElem?_getD, List.getElem?_eq_getElem (by omega)]; rfl
  rw [swapL, e1, e2]
  exact List.set_set_perm (by omega) (by omega)
theorem but_start {f : Int → Int} {ys : List Int} {i : Nat} (h : Srt f ys i) : But f ys i i := fun p q hpq hq hne => h p q hpq (by omega)
theorem but_swap {f : Int → Int} {ys : List Int} {i m : Nat} (h : But f ys i (m + 1)) (hi : i < ys.length) (hm : m + 1 ≤ i) (hlt : f (ys.getD (m + 1) 0) < f (ys.getD m 0)) : But f (swapL ys m) i m := by
  intro p q hpq hq hne
  rw [swapL_at (by omega), swapL_at (by omega), if_neg hne]
  by_cases q1 : q = m + 1
  · subst q1
    rw [if_pos rfl]
    by_cases p1 : p = m
    · subst p1; rw [if_pos rfl]; omega
    · rw [if_neg p1, if_neg (by omega)]
      exact h p m (by omega) (by omega) (by omega)
  · rw [if_neg q1]
    by_cases p1 : p = m
    · subst p1
      rw [if_pos rfl]
      exact h (p + 1) q (by omega) hq q1
    · rw [if_neg p1]
      by_cases p2 : p = m + 1
      · subst p2
        rw [if_pos rfl]
        exact h m q (by omega) hq q1
      · rw [if_neg p2]
        exact h p q hpq hq q1
theorem but_end0 {f : Int → Int} {ys : List Int} {i : Nat} (h : But f ys i 0) : Srt f ys (i + 1) := fun p q hpq hq => h p q hpq (by omega) (by omega)
theorem but_end {f : Int → Int} {ys : List Int} {i m : Nat} (h : But f ys i (m + 1)) (hlt : ¬ f (ys.getD (m + 1) 0) < f (ys.getD m 0)) : Srt f ys (i + 1) := by
  intro p q hpq hq
  by_cases q1 : q = m + 1
  · subst q1
    by_cases p1 : p = m
    · subst p1; omega
    · by_cases hmi : m ≤ i
      · have := h p m (by omega) hmi (by omega)
        omega
      · have : m + 1 ≤ i := by omega
        omega
  · exact h p q hpq (by omega) q1
theorem srt_one (f : Int → Int) (ys : List Int) : Srt f ys 1 := fun p q hpq hq => by omega
theorem getD_mem {ys : List Int} {k : Nat} (h : k < ys.length) : ys.getD k 0 ∈ ys := by
  rw [List.getD_eq_getElem?_getD, List.getElem?_eq_getElem h]; exact List.getElem_mem h
theorem getD_some {ys : List Int} {k : Nat} (h : k < ys.length) : ys[k]? = some (ys.getD k 0) := by
  rw [List.getD_eq_getElem?_getD, List.getElem?_eq_getElem h]; rfl
/-- What cmp.Compare says. -/
theorem cmpV_lt {x y : Int} (h : x < y) : cmpV x y = -1 := by rw [cmpV, if_pos h]
theorem cmpV_ge {x y : Int} (h : ¬ x < y) : 0 ≤ cmpV x y := by rw [cmpV, if_neg h]; split <;> omega
end Go.Proofs.Ytoilbgngefleiaa
