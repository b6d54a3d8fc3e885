/-
  Plain arithmetic: how far light comes, and the losses.
-/
import Derived.Test.YtmndfcjkokolbaaMiddle
namespace Go.Proofs.Ytmndfcjkokolbaa
open Go.RowKit Go.Shelf

theorem run_spec : ∀ (t : List Int) (s : Int), 0 ≤ s → (t.take (runN t s)).sum ≤ s ∧ (runN t s < t.length → s < (t.take (runN t s + 1)).sum)
  | [], s, h => by simp [runN]; exact h
  | d :: t, s, h => by
    rw [runN]
    by_cases hd : d ≤ s
    · have ih := run_spec t (s - d) (by omega)
      rw [if_pos hd, Nat.add_comm 1]
      simp only [List.take_succ_cons, List.sum_cons, List.length_cons]
      refine ⟨by omega, fun hl => ?_⟩
      have := ih.2 (by omega)
      omega
    · rw [if_neg hd]
      simp
      refine ⟨h, by omega⟩
theorem sumN_add (l : List Int) (f r : Nat) : sumN l (f + r) = sumN l f + ((l.drop f).take r).sum := by
  rw [sumN, sumN, List.take_add, List.sum_append_int]
theorem dn_spec {l : List Int} {f : Nat} {s : Int} (hs : 0 ≤ s) (hf : f ≤ l.length) : sumN l (dnN l f s) - sumN l f ≤ s ∧ (dnN l f s < l.length → s < sumN l (dnN l f s + 1) - sumN l f) := by
  have h := run_spec (l.drop f) s hs
  rw [List.length_drop] at h
  unfold dnN
  rw [sumN_add]
  refine ⟨by omega, fun hl => ?_⟩
  rw [Nat.add_assoc, sumN_add]
  have := h.2 (by omega)
  omega
theorem dn_iff {l : List Int} {f t : Nat} {s : Int} (hd : dimsB l) (hs : 0 ≤ s) (hft : f ≤ t) (ht : t ≤ l.length) : t ≤ dnN l f s ↔ lossI l f t ≤ s := by
  have h := dn_spec (l := l) (f := f) hs (by omega)
  have hb := dn_bd (l := l) (f := f) (s := s) (by omega)
  rw [loss_le hft]
  constructor
  · intro hle
    have := sumN_mono hd.1 hle
    omega
  · intro hle
    rcases Nat.lt_or_ge (dnN l f s) t with hlt | hge
    · have h2 := h.2 (by omega)
      have := sumN_mono hd.1 (show dnN l f s + 1 ≤ t by omega)
      omega
    · exact hge
theorem sum_rev (l : List Int) : l.reverse.sum = l.sum := by
  induction l with
  | nil => rfl
  | cons a t ih => rw [List.reverse_cons, List.sum_append_int, ih]; simp; omega
theorem sumN_rev (l : List Int) (f r : Nat) (hf : f ≤ l.length) (hr : r ≤ f) : ((l.take f).reverse.take r).sum = sumN l f - sumN l (f - r) := by
  have e : (l.take f).reverse.take r = ((l.take f).drop (f - r)).reverse := by
    rw [List.take_reverse, List.length_take, Nat.min_eq_left hf]
  rw [e, sum_rev]
  have h2 : (l.take f).sum = ((l.take f).take (f - r)).sum + ((l.take f).drop (f - r)).sum := by
    rw [← List.sum_append_int, List.take_append_drop]
  rw [List.take_take, Nat.min_eq_left (by omega)] at h2
  unfold sumN; omega
theorem up_spec {l : List Int} {f : Nat} {s : Int} (hs : 0 ≤ s) (hf : f ≤ l.length) : sumN l f - sumN l (upN l f s) ≤ s ∧ (0 < upN l f s → s < sumN l f - sumN l (upN l f s - 1)) := by
  have h := run_spec (l.take f).reverse s hs
  have hl := run_le (l.take f).reverse s
  rw [List.length_reverse, List.length_take, Nat.min_eq_left hf] at h hl
  unfold upN
  rw [sumN_rev l f _ hf hl] at h
  refine ⟨h.1, fun h0 => ?_⟩
  have h2 := h.2 (by omega)
  rw [sumN_rev l f _ hf (by omega)] at h2
  rw [show f - runN (l.take f).reverse s - 1 = f - (runN (l.take f).reverse s + 1) by omega]
  exact h2
theorem up_iff {l : List Int} {f t : Nat} {s : Int} (hd : dimsB l) (hs : 0 ≤ s) (hft : t ≤ f) (hf : f ≤ l.length) : upN l f s ≤ t ↔ lossI l f t ≤ s := by
  have h := up_spec (l := l) hs hf
  rw [loss_ge hft]
  constructor
  · intro hle
    have := sumN_mono hd.1 hle
    omega
  · intro hle
    rcases Nat.lt_or_ge t (upN l f s) with hlt | hge
    · have h2 := h.2 (by omega)
      have := sumN_mono hd.1 (show t ≤ upN l f s - 1 by omega)
      omega
    · exact hge
end Go.Proofs.Ytmndfcjkokolbaa
