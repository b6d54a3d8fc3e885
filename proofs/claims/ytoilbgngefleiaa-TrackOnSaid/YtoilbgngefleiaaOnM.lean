/-
  Plain words for TrackOn.
-/
import Derived.Test.YtoilbgngefleiaaLeastM
import Derived.Test.YtoilbgngefleiaaRestsT
import Derived.Test.YtoilbgngefleiaaOnT
namespace Go.Proofs.Ytoilbgngefleiaa
open Go.RowKit Go.Shelf
set_option linter.unusedVariables false
set_option linter.unusedSimpArgs false

theorem zeroL_pre (zs : List Int) (k : Nat) : ∀ n, ∃ X, zeroL zs (k + n) = zeroL zs k ++ X
  | 0 => ⟨[], by simp⟩
  | n + 1 => by
    obtain ⟨X, hX⟩ := zeroL_pre zs k n
    refine ⟨X ++ if zs.getD (k + n) 0 = 0 then [((k + n : Nat) : Int)] else [], ?_⟩
    rw [← Nat.add_assoc, zeroL, List.range_succ, List.filter_append, List.map_append, ← zeroL, hX, List.append_assoc]
    congr 2
    by_cases h : zs.getD (k + n) 0 = 0
    · rw [if_pos h, List.filter_cons, if_pos (decide_eq_true h)]; rfl
    · rw [if_neg h, List.filter_cons, if_neg (by rw [decide_eq_false h]; decide)]; rfl
theorem zeroL_at {zs : List Int} {k n : Nat} (hk : k < n) (h : zs[k]? = some 0) : (zeroL zs n)[(zeroL zs k).length]? = some (k : Int) := by
  obtain ⟨m, rfl⟩ : ∃ m, n = (k + 1) + m := ⟨n - (k + 1), by omega⟩
  obtain ⟨X, hX⟩ := zeroL_pre zs (k + 1) m
  rw [hX, zeroL_yes h, List.append_assoc, List.getElem?_append_right (Nat.le_refl _), Nat.sub_self]; rfl
theorem zeroL_le (zs : List Int) {k n : Nat} (hk : k ≤ n) : (zeroL zs k).length ≤ (zeroL zs n).length := by
  obtain ⟨X, hX⟩ := zeroL_pre zs k (n - k)
  rw [show n = k + (n - k) by omega, hX, List.length_append]; omega
theorem back_rest {r d : Int} (hd : 0 < d) : d.tmod (lowD r d) = 0 ∧ lowN r d * d.tdiv (lowD r d) = r ∧ 1 ≤ d.tdiv (lowD r d) ∧ d.tdiv (lowD r d) ≤ d := by
  obtain ⟨g, hg, e1, e2⟩ := low_parts r d hd
  have h0 := (lowD_bd (n := r) hd).1
  generalize lowD r d = y at *
  generalize lowN r d = x at *
  have hq : d.tdiv y = g := by rw [e2, Int.mul_comm]; exact Int.mul_tdiv_cancel _ (by omega)
  have hm := Int.mul_le_mul_of_nonneg_right h0 (Int.le_of_lt hg)
  have := Int.tmod_add_mul_tdiv d y
  rw [hq, ← e2] at this
  rw [hq]
  exact ⟨by omega, e1.symm, by omega, by omega⟩
end Go.Proofs.Ytoilbgngefleiaa
