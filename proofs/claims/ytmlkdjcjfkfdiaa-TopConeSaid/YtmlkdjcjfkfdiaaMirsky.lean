/-
  Plain facts: the longest chain is a chain; it has as many hits as there are layers.
-/
import Derived.Test.YtmlkdjcjfkfdiaaBothM
import Derived.Test.YtmlkdjcjfkfdiaaChainM
namespace Go.Proofs.Ytmlkdjcjfkfdiaa
open Go.RowKit Go.Shelf

theorem top_step {ms : List (Int × Int)} {m : Nat} {left : List Int} (h : Top ms left (m + 1)) (hin : ∀ a ∈ left, a ∈ allL ms.length) : ∃ a, a ∈ left ∧ chainR ms (m + 1) left = a :: chainR ms m (afterL ms a) ∧ Top ms (afterL ms a) m := by
  obtain ⟨b, hb, hb2⟩ := h.some (by omega)
  cases hf : left.find? (fun a => decide (lenI ms a = (m + 1 : Nat))) with
  | none =>
    have := List.find?_eq_none.1 hf b hb
    rw [hb2] at this
    simp at this
  | some a =>
    have h0 := List.find?_some hf
    have h1 : lenI ms a = (m + 1 : Nat) := by simpa using h0
    have h2 := List.mem_of_find?_eq_some hf
    exact ⟨a, h2, chainR_cons hf, top_after (hin a h2) h1⟩
theorem chain_len {ms : List (Int × Int)} : ∀ (m : Nat) (left : List Int), Top ms left m → (∀ a ∈ left, a ∈ allL ms.length) → (chainR ms m left).length = m
  | 0, _, _, _ => rfl
  | m + 1, left, h, hin => by
    obtain ⟨a, ha, e, ht⟩ := top_step h hin
    rw [e, List.length_cons, chain_len m _ ht (fun b hb => (mem_after.1 hb).1)]
theorem chain_mem {ms : List (Int × Int)} : ∀ (m : Nat) (left : List Int), Top ms left m → (∀ a ∈ left, a ∈ allL ms.length) → ∀ b ∈ chainR ms m left, b ∈ allL ms.length ∧ ∃ a ∈ left, a = b ∨ befI ms a b = true
  | 0, _, _, _, b, hb => by cases hb
  | m + 1, left, h, hin, b, hb => by
    obtain ⟨a, ha, e, ht⟩ := top_step h hin
    rw [e, List.mem_cons] at hb
    rcases hb with rfl | hb
    · exact ⟨hin _ ha, _, ha, .inl rfl⟩
    · obtain ⟨h1, c, hc, h2⟩ := chain_mem m _ ht (fun b hb => (mem_after.1 hb).1) b hb
      refine ⟨h1, a, ha, .inr ?_⟩
      rcases h2 with rfl | h2
      · exact (mem_after.1 hc).2
      · exact befI_trans2 (mem_after.1 hc).2 h2
theorem chain_pw {ms : List (Int × Int)} : ∀ (m : Nat) (left : List Int), Top ms left m → (∀ a ∈ left, a ∈ allL ms.length) → (chainR ms m left).Pairwise fun a b => befI ms a b = true
  | 0, _, _, _ => List.Pairwise.nil
  | m + 1, left, h, hin => by
    obtain ⟨a, ha, e, ht⟩ := top_step h hin
    rw [e]
    refine List.pairwise_cons.2 ⟨fun b hb => ?_, chain_pw m _ ht (fun b hb => (mem_after.1 hb).1)⟩
    obtain ⟨_, c, hc, h2⟩ := chain_mem m _ ht (fun b hb => (mem_after.1 hb).1) b hb
    rcases h2 with rfl | h2
    · exact (mem_after.1 hc).2
    · exact befI_trans2 (mem_after.1 hc).2 h2
theorem isch_of {ms : List (Int × Int)} {l : List Int} (h1 : 1 ≤ l.length) (h2 : l.length ≤ 50) (hin : ∀ a ∈ l, a ∈ allL ms.length) (hp : l.Pairwise fun a b => befI ms a b = true) : ischB ms l = true := by
  unfold ischB
  rw [Bool.and_eq_true]
  refine ⟨?_, ?_⟩
  · rw [listB, Bool.and_eq_true]
    exact ⟨decide_eq_true ⟨h1, h2⟩, List.all_eq_true.2 fun a ha => allL_has (hin a ha)⟩
  · rw [chK, List.all_eq_true]
    intro i hi
    have hi2 := List.mem_range.1 hi
    have := List.pairwise_iff_getElem.1 hp i (i + 1) (by omega) (by omega) (by omega)
    rw [List.getD_eq_getElem?_getD, List.getD_eq_getElem?_getD, List.getElem?_eq_getElem (by omega), List.getElem?_eq_getElem (by omega)]
    exact this
theorem chain_is {ms : List (Int × Int)} (hn : 1 ≤ ms.length) (hn2 : ms.length ≤ 50) : ischB ms (chainL ms) = true := by
  have ht := top_all hn
  have hl := chain_len _ _ ht (fun _ h => h)
  have hpw := chain_pw _ _ ht (fun _ h => h)
  have hin : ∀ a ∈ chainL ms, a ∈ allL ms.length := fun a ha => (chain_mem _ _ ht (fun _ h => h) a ha).1
  have hnd : (chainL ms).Nodup := hpw.imp fun h => by rintro rfl; rw [befI_irr2] at h; cases h
  refine isch_of ?_ (Nat.le_trans (pigeon hnd fun a ha => allL_mem (hin a ha)) hn2) hin hpw
  rw [chainL, hl]
  rcases Nat.eq_zero_or_pos (topN ms) with h0 | h0
  · have := ht.none h0
    have h1 := allL_len ms.length
    rw [this] at h1
    simp at h1
    omega
  · exact h0
/-- A hit of the k-th layer has k hits behind which it stands: a chain of as many hits as there are layers. -/
theorem lay_chain {ms : List (Int × Int)} : ∀ (m : Nat) (l : List Int), l.length ≤ m → (∀ a ∈ l, a ∈ allL ms.length) → l ≠ [] → ∃ X : List Int, X.length = (layR ms m l).length ∧ X ≠ [] ∧ (∀ a ∈ X, a ∈ l) ∧ X.Pairwise fun a b => befI ms a b = true
  | 0, l, h, _, hne => absurd (List.eq_nil_of_length_eq_zero (by omega)) hne
  | m + 1, l, h, hin, hne => by
    obtain ⟨k, hk, hs⟩ := lay_step (ms := ms) hne h
    obtain rfl : k = m := by omega
    have hlt := rest_lt (ms := ms) hne
    by_cases he : (l.filter fun a => !(firstOfL ms l).contains a) = []
    · obtain ⟨a, ha, _⟩ := first_ne (ms := ms) hne
      refine ⟨[a], ?_, by simp, fun b hb => ?_, by simp⟩
      · rw [hs, he, lay_nil]; rfl
      · simp at hb
        subst hb
        exact ha
    · obtain ⟨X, hX1, hX2, hX3, hX4⟩ := lay_chain k _ (by omega) (fun a ha => hin a (List.mem_filter.1 ha).1) he
      obtain ⟨x, Y, rfl⟩ := List.exists_cons_of_ne_nil hX2
      have hx := List.mem_filter.1 (hX3 x (by simp))
      have hxn : x ∉ firstOfL ms l := by
        intro hc
        rw [List.contains_iff_mem.2 hc] at hx
        exact absurd hx.2 (by simp)
      have hb : ∃ b ∈ l, befI ms b x = true := by
        cases ha : l.any fun b => befI ms b x with
        | true => exact List.any_eq_true.1 ha
        | false => exact absurd (List.mem_filter.2 ⟨hx.1, by rw [ha]; rfl⟩) hxn
      obtain ⟨b, hb1, hb2⟩ := hb
      refine ⟨b :: x :: Y, by rw [hs, List.length_cons, List.length_cons (a := firstOfL ms l), ← hX1], by simp, fun c hc => ?_, List.pairwise_cons.2 ⟨fun c hc => ?_, hX4⟩⟩
      · rcases List.mem_cons.1 hc with rfl | hc
        · exact hb1
        · exact (List.mem_filter.1 (hX3 c hc)).1
      · rcases List.mem_cons.1 hc with rfl | hc
        · exact hb2
        · exact befI_trans2 hb2 ((List.pairwise_cons.1 hX4).1 c hc)
/-- A chain that begins with a hit is no longer than that hit's number. -/
theorem chain_le {ms : List (Int × Int)} : ∀ (Y : List Int) (x : Int), (∀ a ∈ x :: Y, a ∈ allL ms.length) → (x :: Y).Pairwise (fun a b => befI ms a b = true) → ((x :: Y).length : Int) ≤ lenI ms x
  | [], x, hin, _ => by simpa using len_pos (hin x (by simp))
  | y :: Y, x, hin, hp => by
    have h1 := chain_le Y y (fun a ha => hin a (List.mem_cons_of_mem _ ha)) (List.pairwise_cons.1 hp).2
    have h2 : y ∈ afterL ms x := mem_after.2 ⟨hin y (by simp), (List.pairwise_cons.1 hp).1 y (by simp)⟩
    have h3 := (fold_max_ge ((afterL ms x).map (numI ms max)) 0).2 _ (List.mem_map.2 ⟨y, h2, rfl⟩)
    have h4 := numI_eq (ms := ms) (J := max) (hin x (by simp))
    rw [List.length_cons]
    unfold lenI at h1 ⊢
    omega
theorem mirsky {ms : List (Int × Int)} (hn : 1 ≤ ms.length) (hn2 : ms.length ≤ 50) : (chainL ms).length = (layersL ms).length := by
  have h1 := ch_ary (chain_is hn hn2) (ary_layers hn2)
  have ht := top_all hn
  have hl := chain_len _ _ ht (fun _ h => h)
  have hne : allL ms.length ≠ [] := by
    intro e
    have := allL_len ms.length
    rw [e] at this
    simp at this
    omega
  obtain ⟨X, hX1, hX2, hX3, hX4⟩ := lay_chain (ms := ms) ms.length (allL ms.length) (by rw [allL_len]; exact Nat.le_refl _) (fun _ h => h) hne
  obtain ⟨x, Y, rfl⟩ := List.exists_cons_of_ne_nil hX2
  have h2 := chain_le Y x hX3 hX4
  have h3 := ht.le x (hX3 x (by simp))
  have h4 : (chainL ms).length = topN ms := hl
  have h5 : (x :: Y).length = (layersL ms).length := hX1
  omega
end Go.Proofs.Ytmlkdjcjfkfdiaa
