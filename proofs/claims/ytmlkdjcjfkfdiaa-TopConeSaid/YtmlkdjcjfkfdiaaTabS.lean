/-
  A table of lists of ints that the call itself makes, each in an array of its own: a list that is not there yet is added; a list grows, and is stored anew.
-/
import Derived.Test.YtmlkdjcjfkfdiaaAppAt
import Derived.Test.YtmlkdjcjfkfdiaaTables
namespace Go.Proofs.Ytmlkdjcjfkfdiaa
open Go.RowKit Go.Shelf

def TabS (w : World) (base : Nat) (v : Value) (T : List (List Int)) : Prop :=
  ∃ svs : List Value, w.ownsRow base 28 1 v T.length svs ∧ (∀ (k : Nat) (zs : List Int), T[k]? = some zs → ∃ (B : Option Addr) (c : Nat), svs[k]? = some (.slice B zs.length c) ∧ OwnI w base B c zs) ∧
    (∀ (i j : Nat) (x y : Value), svs[i]? = some x → svs[j]? = some y → i ≠ j → Sep x y)
theorem TabS.tab {w : World} {base : Nat} {v : Value} {T : List (List Int)} (h : TabS w base v T) : TabO w base v T := by
  obtain ⟨svs, h1, h2, _⟩ := h
  exact ⟨svs, h1, h2⟩
theorem TabS.nil_ (w : World) (base : Nat) : TabS w base (.slice none 0 0) [] := ⟨[], World.ownsRow_nil _ _ _ _, fun k zs h => by simp at h, fun i j x y h => by simp at h⟩
/-- What lies from base on stays as it is. -/
theorem TabS.keep {w w' : World} {base : Nat} {v : Value} {T : List (List Int)} (h : TabS w base v T) (hf : ∀ g, base ≤ g → g < w.heap.size → w'.heap[g]? = w.heap[g]?) : TabS w' base v T := by
  obtain ⟨svs, h1, h2, h3⟩ := h
  refine ⟨svs, own_any h1 hf, fun k zs hz => ?_, h3⟩
  obtain ⟨B, c, h4, h5⟩ := h2 k zs hz
  exact ⟨B, c, h4, own_any h5 hf⟩
theorem TabS.form {w : World} {base : Nat} {v : Value} {T : List (List Int)} (h : TabS w base v T) : ∃ A c, v = .slice A T.length c ∧ TOut w A c T := h.tab.out
section
variable {ops : Array Oper} {rest : List Oper} {o : Oper} {a : Act} {Q : Exit → Act → World → Prop}
theorem wp_app_none (w : World) (hgd : o.guard = none) (s x : Operand)
    (ho : o.op = .call { callee := .builtin .append, args := #[s, x], argTypes := #[38, 38] })
    (base : Nat) (v : Value) (n : Nat) (T : List (List Int)) (hl : T.length = n) (hs : a.eval s = v) (hown : TabS w base v T)
    (hx : a.eval x = .slice (some ⟨w.heap.size, 0, none⟩) 1 1) (hn : n ≤ 1000000) (hbase : base ≤ w.heap.size)
    (h : ∀ v' w', TabS w' base v' (T ++ [[]]) → Below base w w' → wpList Try.prog ops Q rest (a.put o.dst v') w') :
    wpList Try.prog ops Q (o :: rest) a (w.alloc (.cells #[.slice none 0 0] 28)) := by
  obtain ⟨i0, hi0, hz0, hz1, hz2⟩ := info_parts slice_info
  obtain ⟨svs, h1, h2, h3⟩ := hown
  have hsl : svs.length = T.length := by have := h1.1; simpa using this
  refine wpList_append_own _ hgd s x 38 ho base 28 i0 (.slice none 0 0) 1 24 Try.underlying38 hi0 hz0 hz1 hz2 rfl (by decide) v T.length svs hs (h1.alloc _) ⟨w.heap.size, 0, none⟩ 1 1 [.slice none 0 0] hx rfl
    (cells_new w [.slice none 0 0] 28) ?_ (by unfold maxLen; omega) (by omega) (by simp; omega) ?_
  · intro u hu; simp at hu; subst hu; rfl
  · intro v' w' ho' hg _
    have hfar : ∀ g, g < w.heap.size → v.ownBlock ≠ some g → w'.heap[g]? = w.heap[g]? := fun g hg1 hg2 => (hg.block g (by simp; omega) (fun e => hg2 e.symm)).trans (Below.heap_alloc w _ g hg1)
    have hkeep : ∀ u n' ys', w.ownsRow base 3 1 u n' ys' → w'.ownsRow base 3 1 u n' ys' := fun u n' ys' hu => own_turn hu hfar (own_kind hu h1 int_slice)
    refine h v' w' ⟨svs ++ [.slice none 0 0], by simpa using ho', fun k ys hy => ?_, fun i j x y hx hy hij => ?_⟩ (((Below.refl base w).alloc hbase _).grown hg (by simp; omega) ?_)
    · rcases Nat.lt_or_ge k T.length with hk | hk
      · rw [List.getElem?_append_left hk] at hy
        obtain ⟨B', c', g3, g4⟩ := h2 k ys hy
        exact ⟨B', c', by rw [List.getElem?_append_left (by omega)]; exact g3, hkeep _ _ _ g4⟩
      · rw [List.getElem?_append_right hk] at hy
        have hk0 : k - T.length = 0 := by have := (List.getElem?_eq_some_iff.1 hy).1; simp at this; omega
        rw [hk0] at hy
        simp at hy
        subst hy
        refine ⟨none, 0, ?_, World.ownsRow_nil _ _ _ _⟩
        rw [List.getElem?_append_right (by omega), hsl, hk0]; rfl
    · rcases Nat.lt_or_ge i svs.length with hi | hi
      · rw [List.getElem?_append_left hi] at hx
        rcases Nat.lt_or_ge j svs.length with hj | hj
        · rw [List.getElem?_append_left hj] at hy
          exact h3 i j x y hx hy hij
        · rw [List.getElem?_append_right hj] at hy
          have := List.mem_of_getElem? hy
          simp at this
          subst this
          exact sep_none
      · rw [List.getElem?_append_right hi] at hx
        have := List.mem_of_getElem? hx
        simp at this
        subst this
        exact sep_none.symm
    · intro k hk
      exact (h1.lt k hk).1
end
/-- One list of the table, and what is so when it has grown and was stored anew. -/
theorem TabS.at_ {w : World} {base : Nat} {v : Value} {T : List (List Int)} {t : Nat} {L : List Int} (h : TabS w base v T) (ht : T[t]? = some L) (a : Int) :
    ∃ (g cT : Nat) (B : Option Addr) (c : Nat), v = .slice (some ⟨g, 0, none⟩) T.length cT ∧ base ≤ g ∧ g < w.heap.size ∧ w.cell? ⟨g, t, none⟩ = some (.slice B L.length c) ∧ OwnI w base B c L ∧
      (∀ v' w5, AppAt w base (.slice B L.length c) (L.length + 1) (L ++ [a]) v' w5 → w5.cell? ⟨g, t, none⟩ = some (.slice B L.length c) ∧ w5.frozen? ⟨g, t, none⟩ = false ∧ TabS (w5.setCell ⟨g, t, none⟩ v') base v (T.set t (L ++ [a])) ∧ Below base w (w5.setCell ⟨g, t, none⟩ v')) := by
  obtain ⟨svs, h1, h2, h3⟩ := h
  have htl := (List.getElem?_eq_some_iff.1 ht).1
  obtain ⟨g, cT, hv, hb, hlt⟩ := h1.form (by omega)
  subst hv
  obtain ⟨B, c, h4, h5⟩ := h2 t L ht
  have hsl : svs.length = T.length := by have := h1.1; simpa using this
  refine ⟨g, cT, B, c, rfl, hb, hlt, by rw [h1.cellAt t (by omega)]; exact h4, h5, fun v' w5 hA => ?_⟩
  obtain ⟨a1, a2, a3, a4⟩ := hA
  have hk1 : Sep (.slice B L.length c) (.slice (some ⟨g, 0, none⟩) T.length cT) := own_kind h5 h1 int_slice
  have h15 := own_keep2 h1 a3 hk1
  obtain ⟨s1, s2⟩ := h15.stored t v'
  have hk5 : ∀ u n' ys', w5.ownsRow base 3 1 u n' ys' → (w5.setCell ⟨g, t, none⟩ v').ownsRow base 3 1 u n' ys' := fun u n' ys' hu => own_turn hu (fun i hi hne => s2.block i hi (by intro q; injection q with q; exact hne (by rw [q]; rfl))) (own_kind hu h15 int_slice)
  refine ⟨by rw [h15.cellAt t (by omega)]; exact h4, h15.frozenAt t, ⟨svs.set t v', by rw [List.length_set]; exact s1, fun k zs hz => ?_, fun i j x y hx hy hij => ?_⟩, a2.trans ⟨s2.os, s2.tape, s2.output, s2.size, fun i hi => s2.block i (by have := a2.size; omega) (by intro q; injection q with q; omega)⟩⟩
  · by_cases hkt : t = k
    · subst hkt
      rw [List.getElem?_set, if_pos rfl, if_pos htl] at hz
      cases hz
      obtain ⟨B', c', e', _⟩ := own_ints a1
      subst e'
      refine ⟨B', c', by rw [List.getElem?_set, if_pos rfl, if_pos (by omega)], ?_⟩
      have := hk5 _ _ _ a1
      unfold OwnI
      simpa using this
    · rw [List.getElem?_set, if_neg hkt] at hz
      obtain ⟨B', c', g3, g4⟩ := h2 k zs hz
      refine ⟨B', c', by rw [List.getElem?_set, if_neg hkt]; exact g3, hk5 _ _ _ (own_keep2 g4 a3 (h3 t k _ _ h4 g3 hkt))⟩
  · by_cases hit : t = i
    · subst hit
      rw [List.getElem?_set, if_pos rfl, if_pos (by omega)] at hx
      cases hx
      rw [List.getElem?_set, if_neg hij] at hy
      obtain ⟨zs, hz⟩ : ∃ zs, T[j]? = some zs := ⟨_, List.getElem?_eq_getElem (by have := (List.getElem?_eq_some_iff.1 hy).1; omega)⟩
      obtain ⟨B', c', g3, g4⟩ := h2 j zs hz
      rw [hy] at g3
      cases g3
      exact sep_app g4 (h3 t j _ _ h4 hy hij) a4
    · rw [List.getElem?_set, if_neg hit] at hx
      by_cases hjt : t = j
      · subst hjt
        rw [List.getElem?_set, if_pos rfl, if_pos (by omega)] at hy
        cases hy
        obtain ⟨zs, hz⟩ : ∃ zs, T[i]? = some zs := ⟨_, List.getElem?_eq_getElem (by have := (List.getElem?_eq_some_iff.1 hx).1; omega)⟩
        obtain ⟨B', c', g3, g4⟩ := h2 i zs hz
        rw [hx] at g3
        cases g3
        exact (sep_app g4 (h3 t i _ _ h4 hx hit) a4).symm
      · rw [List.getElem?_set, if_neg hjt] at hy
        exact h3 i j x y hx hy hij
end Go.Proofs.Ytmlkdjcjfkfdiaa
