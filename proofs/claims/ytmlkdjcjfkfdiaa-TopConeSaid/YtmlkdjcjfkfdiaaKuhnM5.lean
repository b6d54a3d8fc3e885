/-
  Plain facts: all hits in turn: what holds of the fronts behind each.
-/
import Derived.Test.YtmlkdjcjfkfdiaaKuhnM4
namespace Go.Proofs.Ytmlkdjcjfkfdiaa
open Go.RowKit Go.Shelf

theorem count_two {l : List Int} {i j : Nat} {y : Int} (hi : l[i]? = some y) (hj : l[j]? = some y) (h : i ≠ j) : 2 ≤ l.count y := by
  have hi1 := (List.getElem?_eq_some_iff.1 hi).1
  have h1 := count_set (y + 1) y l i hi1
  rw [List.getD_eq_getElem?_getD, hi, Option.getD_some, if_pos rfl, if_neg (by omega)] at h1
  have h2 : y ∈ l.set i (y + 1) := List.mem_iff_getElem?.2 ⟨j, by rw [List.getElem?_set, if_neg h]; exact hj⟩
  have h3 := List.count_pos_iff.2 h2
  omega
theorem frI_get {fr : List Int} {b : Int} (h : frI fr b ≠ -1) : fr[b.toNat]? = some (frI fr b) := by
  unfold frI at h ⊢
  rw [List.getD_eq_getElem?_getD] at h ⊢
  cases e : fr[b.toNat]? with
  | none => rw [e] at h; exact absurd rfl h
  | some z => rfl
structure InvF (ms : List (Int × Int)) (done failed C fr : List Int) : Prop where
  len : fr.length = ms.length
  closed : Closed ms fr C
  rng : ∀ c ∈ C, 0 ≤ c ∧ c < ms.length
  tried : ∀ a ∈ failed, ∀ c ∈ afterL ms a, c ∈ C
  cnt : ∀ y : Int, y ≠ -1 → fr.count y = if y ∈ done ∧ y ∉ failed then 1 else 0
  free : fr.count (-1) + done.length = ms.length + failed.length
  sub : ∀ a ∈ failed, a ∈ done
  nodup : failed.Nodup
  edge : ∀ b : Int, 0 ≤ b → frI fr b = -1 ∨ befI ms (frI fr b) b = true
theorem invF_start (ms : List (Int × Int)) : InvF ms [] [] [] (List.replicate ms.length (-1)) :=
  ⟨by simp, (fun b hb => by cases hb), (fun b hb => by cases hb), (fun b hb => by cases hb), (fun y hy => by rw [if_neg (by simp)]; exact List.count_eq_zero.2 (fun h => hy (List.eq_of_mem_replicate h))), by simp, (fun b hb => by cases hb), List.nodup_nil, fun b _ => .inl (by
    rw [frI, List.getD_eq_getElem?_getD, List.getElem?_replicate]
    split <;> rfl)⟩
theorem invF_step {ms : List (Int × Int)} {done failed C fr : List Int} {a : Int} {f : Nat} (h : InvF ms done failed C fr) (ha : a ∉ done) (ha0 : 0 ≤ a) (hf : ms.length < f) :
    ∃ failed2 C2, InvF ms (done ++ [a]) failed2 C2 (leadR ms f a fr []).2.1 := by
  have haf : a ∉ failed := fun hm => ha (h.sub a hm)
  cases hr : (leadR ms f a fr []).1 with
  | false =>
    obtain ⟨e, F⟩ := lead_fail f a fr [] ⟨List.nodup_nil, fun b hb => by cases hb⟩ (by simpa using hf) hr
    rw [e]
    refine ⟨failed ++ [a], C ++ (leadR ms f a fr []).2.2, ⟨h.len, fun b hb => ?_, fun c hc => ?_, fun x hx c hc => ?_, fun y hy => ?_, ?_, fun x hx => ?_, nodup_next h.nodup haf, h.edge⟩⟩
    · rcases List.mem_append.1 hb with hb | hb
      · exact ⟨(h.closed b hb).1, fun c hc => List.mem_append_left _ ((h.closed b hb).2 c hc)⟩
      · obtain ⟨g1, g2⟩ := F.new b hb (by simp)
        exact ⟨g1, fun c hc => List.mem_append_right _ (g2 c hc)⟩
    · rcases List.mem_append.1 hc with hc | hc
      · exact h.rng c hc
      · exact F.ok.rng c hc
    · rcases List.mem_append.1 hx with hx | hx
      · exact List.mem_append_left _ (h.tried x hx c hc)
      · simp at hx
        subst hx
        exact List.mem_append_right _ (F.all c hc)
    · rw [h.cnt y hy]
      by_cases hya : y = a
      · subst hya
        rw [if_neg (fun q => ha q.1), if_neg (by simp)]
      · have e1 : (y ∈ done ++ [a] ∧ y ∉ failed ++ [a]) ↔ (y ∈ done ∧ y ∉ failed) := by simp [hya]
        simp only [e1]
    · have := h.free
      simp
      omega
    · rcases List.mem_append.1 hx with hx | hx
      · exact List.mem_append_left _ (h.sub x hx)
      · exact List.mem_append_right _ hx
  | true =>
    have W := lead_wins ms f a fr [] h.len hr
    have hA := lead_away h.closed (fun c hc => (h.rng c hc).1) f a [] hr
    refine ⟨failed, C, ⟨W.len.trans h.len, closed_of h.closed hA, h.rng, h.tried, fun y hy => ?_, ?_, fun x hx => List.mem_append_left _ (h.sub x hx), h.nodup, fun b hb => ?_⟩⟩
    · have h1 := W.cnt y
      have h2 := h.cnt y hy
      rw [if_neg (fun q => hy q.symm)] at h1
      by_cases hya : a = y
      · subst hya
        rw [if_neg (fun q => ha q.1)] at h2
        rw [if_pos rfl] at h1
        rw [if_pos ⟨by simp, haf⟩]
        omega
      · rw [if_neg hya] at h1
        have e1 : (y ∈ done ++ [a] ∧ y ∉ failed) ↔ (y ∈ done ∧ y ∉ failed) := by
          have : ¬ y = a := fun q => hya q.symm
          simp [this]
        simp only [e1]
        omega
    · have h1 := W.cnt (-1)
      have h2 := h.free
      rw [if_pos rfl, if_neg (by omega)] at h1
      simp
      omega
    · rcases W.edge b hb with q | q
      · rw [q]
        exact h.edge b hb
      · exact .inr q
theorem invF_end {ms : List (Int × Int)} {failed C fr : List Int} (h : InvF ms (allL ms.length) failed C fr) : fr.count (-1) = failed.length ∧ failed.length ≤ (layerL ms).length := by
  have h1 := h.free
  rw [allL_len] at h1
  refine ⟨by omega, koenig h.closed h.rng h.tried h.sub h.nodup (fun b hb => ?_) (fun b hb c hc e => ?_) fun b hb hm => ?_⟩
  · have h2 := frI_get (h.closed b hb).1
    have h3 := List.count_pos_iff.2 (List.mem_of_getElem? h2)
    rw [h.cnt _ (h.closed b hb).1] at h3
    split at h3
    · rename_i q
      exact q.1
    · omega
  · by_cases hbc : b = c
    · exact hbc
    · have h2 := frI_get (h.closed b hb).1
      have h3 := frI_get (h.closed c hc).1
      rw [← e] at h3
      have h4 := count_two h2 h3 (by have := (h.rng b hb).1; have := (h.rng c hc).1; omega)
      rw [h.cnt _ (h.closed b hb).1] at h4
      split at h4 <;> omega
  · have h2 := frI_get (h.closed b hb).1
    have h3 := List.count_pos_iff.2 (List.mem_of_getElem? h2)
    rw [h.cnt _ (h.closed b hb).1, if_neg (fun q => q.2 hm)] at h3
    omega
end Go.Proofs.Ytmlkdjcjfkfdiaa
