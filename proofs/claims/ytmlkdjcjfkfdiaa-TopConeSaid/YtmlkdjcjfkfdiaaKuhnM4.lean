/-
  Plain facts: a success leaves a closed set as it is; a closed set and those that failed make a layer.
-/
import Derived.Test.YtmlkdjcjfkfdiaaKuhnM3
namespace Go.Proofs.Ytmlkdjcjfkfdiaa
open Go.RowKit Go.Shelf

theorem try_away {ms : List (Int × Int)} {lead : Int → List Int → List Int → Bool × List Int × List Int} {a : Int} {fr C : List Int} (hk : Keeps lead) (hC : Closed ms fr C) (hpos : ∀ c ∈ C, 0 ≤ c)
    (hl : ∀ x se, (∀ c ∈ afterL ms x, c ∈ C) → (lead x fr se).1 = false)
    (hw : ∀ x se, (lead x fr se).1 = true → ∀ c ∈ C, frI (lead x fr se).2.1 c = frI fr c) :
    ∀ (bs se : List Int), (∀ b ∈ bs, 0 ≤ b) → (tryR lead a bs fr se).1 = true → ∀ c ∈ C, frI (tryR lead a bs fr se).2.1 c = frI fr c
  | [], _, _, h, _, _ => by cases h
  | b :: bs, se, hb, h, c, hc => by
    have hb2 : ∀ c ∈ bs, 0 ≤ c := fun c hc => hb c (List.mem_cons_of_mem _ hc)
    have hb0 := hb b (by simp)
    rw [tryR] at h ⊢
    by_cases h1 : b ∈ se
    · rw [if_pos h1] at h ⊢
      exact try_away hk hC hpos hl hw bs se hb2 h c hc
    · rw [if_neg h1] at h ⊢
      by_cases h2 : frI fr b = -1
      · rw [if_pos h2]
        exact frI_set hb0 (hpos c hc) (fun e => (hC c hc).1 (e ▸ h2))
      · rw [if_neg h2] at h ⊢
        cases h3 : (lead (frI fr b) fr (se ++ [b])).1 with
        | true =>
          rw [if_pos rfl]
          have hbC : b ∉ C := fun hm => by
            have := hl (frI fr b) (se ++ [b]) (hC b hm).2
            rw [h3] at this
            cases this
          show frI ((lead (frI fr b) fr (se ++ [b])).2.1.set b.toNat a) c = frI fr c
          rw [frI_set hb0 (hpos c hc) (fun e => hbC (e ▸ hc))]
          exact hw _ _ h3 c hc
        | false =>
          have k2 := (hk (frI fr b) fr (se ++ [b])).2 h3
          rw [h3, if_neg (show ¬ (false = true) by simp), k2] at h
          rw [if_neg (show ¬ (false = true) by simp), k2]
          exact try_away hk hC hpos hl hw bs _ hb2 h c hc
theorem lead_away {ms : List (Int × Int)} {fr C : List Int} (hC : Closed ms fr C) (hpos : ∀ c ∈ C, 0 ≤ c) : ∀ (f : Nat) (x : Int) (se : List Int), (leadR ms f x fr se).1 = true → ∀ c ∈ C, frI (leadR ms f x fr se).2.1 c = frI fr c
  | 0, _, _, h, _, _ => by cases h
  | f + 1, x, se, h, c, hc => by
    rw [leadR] at h ⊢
    exact try_away (lead_keeps ms f) hC hpos (fun y s hy => (lead_closed hC f y s hy).1) (fun y s hy => lead_away hC hpos f y s hy) _ se (fun b hb => (allL_mem (mem_after.1 hb).1).1) h c hc
theorem closed_of {ms : List (Int × Int)} {fr fr2 C : List Int} (hC : Closed ms fr C) (h : ∀ c ∈ C, frI fr2 c = frI fr c) : Closed ms fr2 C := by
  intro b hb
  rw [h b hb]
  exact hC b hb
theorem len_parts2 (p : Int → Bool) : ∀ l : List Int, (l.filter fun a => !p a).length + (l.filter p).length = l.length
  | [] => rfl
  | a :: l => by
    have := len_parts2 p l
    cases h : p a <;> simp [h] <;> omega
/-- Koenig: those that failed, and the fronts of a closed set, but for the set: a layer of at least as many hits as failed. -/
theorem koenig {ms : List (Int × Int)} {fr C failed : List Int} (hC : Closed ms fr C) (hCr : ∀ c ∈ C, 0 ≤ c ∧ c < ms.length) (hF : ∀ a ∈ failed, ∀ c ∈ afterL ms a, c ∈ C) (hFr : ∀ a ∈ failed, a ∈ allL ms.length) (hFn : failed.Nodup)
    (hin : ∀ b ∈ C, frI fr b ∈ allL ms.length) (hinj : ∀ b ∈ C, ∀ c ∈ C, frI fr b = frI fr c → b = c) (hdis : ∀ b ∈ C, frI fr b ∉ failed) : failed.length ≤ (layerL ms).length := by
  let Cn := (allL ms.length).filter fun a => decide (a ∈ C)
  have hCn : ∀ a, a ∈ Cn ↔ a ∈ C := fun a => by
    refine ⟨fun h => of_decide_eq_true (List.mem_filter.1 h).2, fun h => List.mem_filter.2 ⟨?_, decide_eq_true h⟩⟩
    obtain ⟨k, rfl⟩ := Int.eq_ofNat_of_zero_le (hCr a h).1
    exact List.mem_iff_getElem?.2 ⟨k, allL_get (by have := (hCr _ h).2; omega)⟩
  have hCnd : Cn.Nodup := ((allL_pair _).filter _).imp fun h => by omega
  let R := failed ++ Cn.map (frI fr)
  have hRn : R.Nodup := by
    refine List.nodup_append.2 ⟨hFn, List.pairwise_map.2 (List.Pairwise.imp_of_mem (fun {a b} ha hb hne e => hne (hinj a ((hCn a).1 ha) b ((hCn b).1 hb) e)) hCnd), fun a ha b hb e => ?_⟩
    obtain ⟨c, hc, rfl⟩ := List.mem_map.1 hb
    exact hdis c ((hCn c).1 hc) (e ▸ ha)
  have hRl : R.length = failed.length + Cn.length := by simp [R]
  have hRa : ∀ x ∈ R, x ∈ allL ms.length ∧ ∀ c ∈ afterL ms x, c ∈ C := by
    intro x hx
    rcases List.mem_append.1 hx with hx | hx
    · exact ⟨hFr x hx, hF x hx⟩
    · obtain ⟨c, hc, rfl⟩ := List.mem_map.1 hx
      exact ⟨hin c ((hCn c).1 hc), (hC c ((hCn c).1 hc)).2⟩
  have hpart := len_parts2 (fun a => decide (a ∈ C)) R
  have hle : (R.filter fun a => decide (a ∈ C)).length ≤ Cn.length := nodup_le (hRn.filter _) fun x hx => (hCn x).2 (of_decide_eq_true (List.mem_filter.1 hx).2)
  have hA : ∀ x ∈ R.filter (fun a => !decide (a ∈ C)), x ∈ R ∧ x ∉ C := fun x hx => by
    have := List.mem_filter.1 hx
    exact ⟨this.1, by simpa using this.2⟩
  have hlay : Lay ms (R.filter fun a => !decide (a ∈ C)) := by
    intro a ha b hb
    obtain ⟨a1, a2⟩ := hA a ha
    obtain ⟨b1, b2⟩ := hA b hb
    rw [knowI, Bool.or_eq_false_iff]
    refine ⟨?_, ?_⟩
    · rw [Bool.eq_false_iff]
      exact fun e => b2 ((hRa a a1).2 b (mem_after.2 ⟨(hRa b b1).1, e⟩))
    · rw [Bool.eq_false_iff]
      exact fun e => a2 ((hRa b b1).2 a (mem_after.2 ⟨(hRa a a1).1, e⟩))
  have h1 := nodup_le (X := R.filter fun a => !decide (a ∈ C)) (M := (allL ms.length).filter fun a => decide (a ∈ R.filter fun a => !decide (a ∈ C))) (hRn.filter _) fun x hx => List.mem_filter.2 ⟨(hRa x (hA x hx).1).1, decide_eq_true hx⟩
  have h2 := (layer_long ms).2.2 ((allL ms.length).filter fun a => decide (a ∈ R.filter fun a => !decide (a ∈ C))) List.filter_sublist (fun a ha b hb => hlay a (of_decide_eq_true (List.mem_filter.1 ha).2) b (of_decide_eq_true (List.mem_filter.1 hb).2))
  omega
end Go.Proofs.Ytmlkdjcjfkfdiaa
