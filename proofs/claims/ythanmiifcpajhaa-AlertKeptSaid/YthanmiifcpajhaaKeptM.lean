/-
  What is kept: which, that it can be done, and that it is all if all can be done.
-/
import Derived.Test.YthanmiifcpajhaaKept
set_option linter.unusedVariables false
set_option linter.unusedSimpArgs false
namespace Go.Proofs.Ythanmiifcpajhaa

theorem kp_idx (ts : List (Int × Int × Int)) : ∀ k, k ≤ ts.length → ∀ i, i < (kpS ts k).1.length → ∃ j : Nat, j < k ∧ (kpS ts k).1[i]? = some (j : Int) ∧ (kpS ts k).2[i]? = ts[j]?
  | 0, _ => by intro i hi; simp [kpS] at hi
  | k + 1, h => by
    intro i hi
    have hl := kp_len ts k
    cases hc : canB ((kpS ts k).2 ++ [ts.getD k tkZ]) with
    | false =>
      rw [kp_no hc] at hi ⊢
      obtain ⟨j, h1, h2⟩ := kp_idx ts k (by omega) i hi
      exact ⟨j, by omega, h2⟩
    | true =>
      rw [kp_yes hc] at hi ⊢
      simp only [List.length_append, List.length_singleton] at hi
      by_cases hi2 : i < (kpS ts k).1.length
      · obtain ⟨j, h1, h2, h3⟩ := kp_idx ts k (by omega) i hi2
        refine ⟨j, by omega, ?_, ?_⟩
        · show ((kpS ts k).1 ++ [(k : Int)])[i]? = _
          rw [List.getElem?_append_left hi2, h2]
        · show ((kpS ts k).2 ++ [ts.getD k tkZ])[i]? = _
          rw [List.getElem?_append_left (by omega), h3]
      · obtain rfl : i = (kpS ts k).1.length := by omega
        refine ⟨k, by omega, ?_, ?_⟩
        · show ((kpS ts k).1 ++ [(k : Int)])[(kpS ts k).1.length]? = _
          rw [List.getElem?_append_right (Nat.le_refl _)]; simp
        · show ((kpS ts k).2 ++ [ts.getD k tkZ])[(kpS ts k).1.length]? = _
          rw [← hl.2, List.getElem?_append_right (Nat.le_refl _), Nat.sub_self, List.getD_eq_getElem?_getD, List.getElem?_eq_getElem (show k < ts.length by omega)]; rfl
theorem kp_can {ts : List (Int × Int × Int)} : ∀ k, 0 < (kpS ts k).2.length → canB (kpS ts k).2 = true
  | 0, h => by simp [kpS] at h
  | k + 1, h => by
    cases hc : canB ((kpS ts k).2 ++ [ts.getD k tkZ]) with
    | false => rw [kp_no hc] at h ⊢; exact kp_can k h
    | true => rw [kp_yes hc]; exact hc
theorem kp_va2 {ts : List (Int × Int × Int)} (hv : vaB ts = true) {k : Nat} (hk : k ≤ ts.length) (h : 0 < (kpS ts k).2.length) : vaB (kpS ts k).2 = true := by
  have hl := kp_len ts k
  have hl2 := va_len hv
  exact va_mk (by omega) (by omega) fun x hx => va_mem hv x (kp_mem k hk x hx)
theorem take_next {ts : List (Int × Int × Int)} {k : Nat} (h : k < ts.length) : ts.take k ++ [ts.getD k tkZ] = ts.take (k + 1) := by
  rw [List.take_add_one, List.getD_eq_getElem?_getD, List.getElem?_eq_getElem h]; rfl
theorem kp_take {ts : List (Int × Int × Int)} : ∀ k, k ≤ ts.length → (kpS ts k).2.length = k → (kpS ts k).2 = ts.take k
  | 0, _, _ => by simp [kpS]
  | k + 1, h, hlen => by
    have hl := kp_len ts k
    cases hc : canB ((kpS ts k).2 ++ [ts.getD k tkZ]) with
    | false => rw [kp_no hc] at hlen; omega
    | true =>
      rw [kp_yes hc] at hlen ⊢
      simp at hlen
      show (kpS ts k).2 ++ [ts.getD k tkZ] = _
      rw [kp_take k (by omega) (by omega), take_next (by omega)]
theorem sm_more {f : Nat → Int} (h : ∀ i, 0 ≤ f i) (m : Nat) : ∀ d, sm f m ≤ sm f (m + d)
  | 0 => Int.le_refl _
  | d + 1 => by
    have := sm_more h m d
    have := h (m + d)
    rw [← Nat.add_assoc, sm]; omega
theorem dm_take {ts : List (Int × Int × Int)} (hv : vaB ts = true) (k : Nat) (hk : k ≤ ts.length) (a b : Int) : dmI (ts.take k) a b ≤ dmI ts a b := by
  have hpt : ∀ i, i < k → (ts.take k).getD i tkZ = ts.getD i tkZ := fun i hi => by
    rw [List.getD_eq_getElem?_getD, List.getD_eq_getElem?_getD, List.getElem?_take_of_lt hi]
  have hlen : (ts.take k).length = k := by rw [List.length_take]; omega
  unfold dmI dmN
  rw [hlen, sm_cong (g := fun i => if inS ts a b i = true then wkI ts i else 0) k (fun i hi => by
    unfold inS cmI ltI wkI; rw [hpt i hi])]
  obtain ⟨d, hd⟩ : ∃ d, ts.length = k + d := ⟨ts.length - k, by omega⟩
  rw [hd]
  have : sm (fun i => if inS ts a b i = true then (if i < ts.length then wkI ts i else 0) else 0) k ≤ sm (fun i => if inS ts a b i = true then (if i < ts.length then wkI ts i else 0) else 0) (k + d) := by
    refine sm_more (fun i => ?_) k d
    split
    · split
      · rename_i h; have := va_at hv h; omega
      · omega
    · omega
  rw [sm_cong (g := fun i => if inS ts a b i = true then (if i < ts.length then wkI ts i else 0) else 0) k (fun i hi => by rw [if_pos (show i < ts.length by omega)]),
    sm_cong (g := fun i => if inS ts a b i = true then (if i < ts.length then wkI ts i else 0) else 0) (k + d) (fun i hi => by rw [if_pos (show i < ts.length by omega)])]
  exact this
theorem take_va {ts : List (Int × Int × Int)} (hv : vaB ts = true) {k : Nat} (hk : k < ts.length) : vaB (ts.take (k + 1)) = true := by
  have := va_len hv
  exact va_mk (by rw [List.length_take]; omega) (by rw [List.length_take]; omega) fun x hx => va_mem hv x (List.mem_of_mem_take hx)
theorem take_can {ts : List (Int × Int × Int)} (hv : vaB ts = true) (hc : canB ts = true) {k : Nat} (hk : k < ts.length) : canB (ts.take (k + 1)) = true := by
  rw [can_fits (take_va hv hk)]
  intro a b hab hb
  have h1 := (can_fits hv).1 hc a b hab hb
  have h2 := dm_take hv (k + 1) hk (a : Int) (b : Int)
  omega
theorem kp_all {ts : List (Int × Int × Int)} (hv : vaB ts = true) (hc : canB ts = true) : ∀ k, k ≤ ts.length → (kpS ts k).2 = ts.take k
  | 0, _ => by simp [kpS]
  | k + 1, h => by
    have ih := kp_all hv hc k (by omega)
    have hy : canB ((kpS ts k).2 ++ [ts.getD k tkZ]) = true := by rw [ih, take_next (by omega)]; exact take_can hv hc (by omega)
    rw [kp_yes hy]
    show (kpS ts k).2 ++ [ts.getD k tkZ] = _
    rw [ih, take_next (by omega)]
theorem kp_full {ts : List (Int × Int × Int)} (hv : vaB ts = true) : canB ts = decide ((kpS ts ts.length).2.length = ts.length) := by
  rw [Bool.eq_iff_iff, decide_eq_true_eq]
  constructor
  · intro h; rw [kp_all hv h _ (Nat.le_refl _), List.take_length]
  · intro h
    have h1 := kp_take ts.length (Nat.le_refl _) h
    rw [List.take_length] at h1
    have := va_len hv
    have h2 := kp_can (ts := ts) ts.length (by omega)
    rwa [h1] at h2
end Go.Proofs.Ythanmiifcpajhaa
