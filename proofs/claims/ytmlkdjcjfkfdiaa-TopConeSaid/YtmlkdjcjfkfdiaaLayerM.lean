/-
  Plain facts: the longest layer is a layer, and none is longer; chain's and layer's lengths multiplied are at least all hits.
-/
import Derived.Test.YtmlkdjcjfkfdiaaMirsky
import Derived.Test.YtmlkdjcjfkfdiaaMaskM
namespace Go.Proofs.Ytmlkdjcjfkfdiaa
open Go.RowKit Go.Shelf

theorem flat_single (M : List Int) : (M.map fun a => [a]).flatten = M := by
  induction M with
  | nil => rfl
  | cons a M ih => rw [List.map_cons, List.flatten_cons, ih]; rfl
theorem nodup_le {X M : List Int} (hnd : X.Nodup) (hin : ∀ x ∈ X, x ∈ M) : X.length ≤ M.length := by
  have := dual_le (T := M.map fun a => [a]) hnd (fun x hx => by rw [flat_single]; exact hin x hx) (fun L hL a ha b hb _ _ => by
    obtain ⟨c, _, rfl⟩ := List.mem_map.1 hL
    simp at ha hb
    rw [ha, hb])
  simpa using this
theorem isl_of {ms : List (Int × Int)} {l : List Int} (h1 : 1 ≤ l.length) (h2 : l.length ≤ 50) (hs : l.Pairwise (· < ·)) (hin : ∀ a ∈ l, a ∈ allL ms.length) (hl : Lay ms l) : islB ms l = true := by
  unfold islB
  rw [Bool.and_eq_true]
  refine ⟨?_, ?_⟩
  · rw [listB, Bool.and_eq_true]
    exact ⟨decide_eq_true ⟨h1, h2⟩, List.all_eq_true.2 fun a ha => allL_has (hin a ha)⟩
  · rw [layK, List.all_eq_true]
    intro i hi
    have hi2 := List.mem_range.1 hi
    obtain ⟨b, hb⟩ : ∃ b, l[i]? = some b := ⟨_, List.getElem?_eq_getElem hi2⟩
    rw [List.getD_eq_getElem?_getD, hb, okPre, List.all_eq_true]
    intro a ha
    obtain ⟨j, hj⟩ := List.mem_iff_getElem?.1 ha
    have hji : j < i := by
      have := (List.getElem?_eq_some_iff.1 hj).1
      rw [List.length_take] at this
      omega
    rw [List.getElem?_take_of_lt hji] at hj
    obtain ⟨h3, h4⟩ := List.getElem?_eq_some_iff.1 hj
    obtain ⟨h5, h6⟩ := List.getElem?_eq_some_iff.1 hb
    have hlt := List.pairwise_iff_getElem.1 hs j i h3 h5 hji
    rw [h4, h6] at hlt
    show (decide (a < b) && !knowI ms a b) = true
    rw [hl a (List.mem_of_getElem? hj) b (List.mem_of_getElem? hb), decide_eq_true hlt]
    rfl
theorem isl_Lay {ms : List (Int × Int)} {l : List Int} (h : islB ms l = true) : Lay ms l := by
  intro a ha b hb
  cases hk : knowI ms a b with
  | false => rfl
  | true =>
    have := lay_two h ha hb hk
    subst this
    rw [know_irr] at hk
    cases hk
theorem layer_long (ms : List (Int × Int)) : (layerL ms).Sublist (allL ms.length) ∧ Lay ms (layerL ms) ∧ ∀ T : List Int, T.Sublist (allL ms.length) → Lay ms T → T.length ≤ (layerL ms).length := by
  have h := long_main ms ms.length (allL ms.length) (by rw [allL_len]; exact Nat.le_refl _) (allL_pair _)
  refine ⟨h.1, h.2.1, fun T hT hL => ?_⟩
  have := h.2.2 T hT hL
  show T.length ≤ (longL ms ms.length (allL ms.length)).length
  omega
theorem layer_max {ms : List (Int × Int)} {l : List Int} (h : islB ms l = true) : l.length ≤ (layerL ms).length := by
  have hl := isl_Lay h
  have h1 := nodup_le (X := l) (M := (allL ms.length).filter fun a => decide (a ∈ l)) (lay_nodup h) fun x hx => List.mem_filter.2 ⟨by
    obtain ⟨k, rfl⟩ := Int.eq_ofNat_of_zero_le ((isl_in h).2 x hx).1
    exact List.mem_iff_getElem?.2 ⟨k, allL_get (by have := ((isl_in h).2 _ hx).2; omega)⟩, decide_eq_true hx⟩
  have h2 := (layer_long ms).2.2 ((allL ms.length).filter fun a => decide (a ∈ l)) List.filter_sublist (fun a ha b hb => hl a (of_decide_eq_true (List.mem_filter.1 ha).2) b (of_decide_eq_true (List.mem_filter.1 hb).2))
  omega
theorem layer_is {ms : List (Int × Int)} (hn : 1 ≤ ms.length) (hn2 : ms.length ≤ 50) : islB ms (layerL ms) = true := by
  obtain ⟨h1, h2, h3⟩ := layer_long ms
  have h0 : ((0 : Nat) : Int) ∈ allL ms.length := List.mem_iff_getElem?.2 ⟨0, allL_get hn⟩
  have h4 := h3 [((0 : Nat) : Int)] (List.singleton_sublist.2 h0) (fun a ha b hb => by simp at ha hb; subst ha hb; exact know_irr ms _)
  have h5 := h1.length_le
  rw [allL_len] at h5
  exact isl_of (by simpa using h4) (by omega) ((allL_pair _).sublist h1) (fun a ha => h1.subset ha) h2
theorem flat_le {m : Nat} : ∀ T : List (List Int), (∀ L ∈ T, L.length ≤ m) → T.flatten.length ≤ T.length * m
  | [], _ => by simp
  | L :: T, h => by
    have h1 := h L (by simp)
    have h2 := flat_le T (fun z hz => h z (List.mem_cons_of_mem _ hz))
    rw [List.flatten_cons, List.length_append, List.length_cons, Nat.succ_mul]
    omega
theorem once_length {n : Nat} {F : List Int} (h : onceC n F = true) (hin : ∀ x ∈ F, 0 ≤ x ∧ x < n) : F.length = n := by
  have h1 := sum_ones n (onceC_iff.1 h)
  have h2 := sum_len F hin
  omega
/-- As many hits as the longest chain has, times as many as the longest layer has: at least all. -/
theorem both_mul {ms : List (Int × Int)} (hn : 1 ≤ ms.length) (hn2 : ms.length ≤ 50) : ms.length ≤ (chainL ms).length * (layerL ms).length := by
  obtain ⟨h1, h2⟩ := ary_parts (ary_layers hn2)
  have h3 := flat_le (layersL ms) (fun L hL => layer_max (h1 L hL))
  rw [once_length h2 (flat_in h1)] at h3
  rw [mirsky hn hn2]
  exact h3
end Go.Proofs.Ytmlkdjcjfkfdiaa
