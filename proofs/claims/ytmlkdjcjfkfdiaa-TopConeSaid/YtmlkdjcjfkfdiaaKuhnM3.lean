/-
  Plain facts: what a success of finding a hit to lead leaves.
-/
import Derived.Test.YtmlkdjcjfkfdiaaKuhnM2
namespace Go.Proofs.Ytmlkdjcjfkfdiaa
open Go.RowKit Go.Shelf

def Keeps (lead : Int → List Int → List Int → Bool × List Int × List Int) : Prop :=
  ∀ x fr se, (∀ b ∈ se, b ∈ (lead x fr se).2.2) ∧ ((lead x fr se).1 = false → (lead x fr se).2.1 = fr)
theorem try_keeps {lead : Int → List Int → List Int → Bool × List Int × List Int} {a : Int} (hk : Keeps lead) :
    ∀ (bs fr se : List Int), (∀ b ∈ se, b ∈ (tryR lead a bs fr se).2.2) ∧ ((tryR lead a bs fr se).1 = false → (tryR lead a bs fr se).2.1 = fr)
  | [], _, _ => ⟨fun _ h => h, fun _ => rfl⟩
  | b :: bs, fr, se => by
    rw [tryR]
    by_cases h1 : b ∈ se
    · rw [if_pos h1]
      exact try_keeps hk bs fr se
    · rw [if_neg h1]
      by_cases h2 : frI fr b = -1
      · rw [if_pos h2]
        exact ⟨fun c hc => by simp [hc], fun h => by cases h⟩
      · rw [if_neg h2]
        obtain ⟨k1, k2⟩ := hk (frI fr b) fr (se ++ [b])
        cases h3 : (lead (frI fr b) fr (se ++ [b])).1 with
        | true =>
          rw [if_pos rfl]
          exact ⟨fun c hc => k1 c (by simp [hc]), fun h => by cases h⟩
        | false =>
          rw [if_neg (show ¬ (false = true) by simp), k2 h3]
          obtain ⟨r1, r2⟩ := try_keeps (a := a) hk bs fr (lead (frI fr b) fr (se ++ [b])).2.2
          exact ⟨fun c hc => r1 c (k1 c (by simp [hc])), r2⟩
theorem lead_keeps (ms : List (Int × Int)) : ∀ f, Keeps (leadR ms f)
  | 0 => fun _ _ _ => ⟨fun _ h => h, fun _ => rfl⟩
  | f + 1 => fun x fr se => by
    rw [leadR]
    exact try_keeps (lead_keeps ms f) _ fr se
theorem frI_same {fr : List Int} {b a : Int} (h : b.toNat < fr.length) : frI (fr.set b.toNat a) b = a := by
  rw [frI, List.getD_eq_getElem?_getD, List.getElem?_set, if_pos rfl, if_pos h]; rfl
theorem set_wins {ms : List (Int × Int)} {a b : Int} {fr fr1 se : List Int} (hlen : fr1.length = fr.length) (hb : 0 ≤ b ∧ b.toNat < fr.length) (hbs : b ∉ se) (hbef : befI ms a b = true)
    (hc : ∀ y : Int, fr1.count y + (if (-1 : Int) = y then 1 else 0) = fr.count y + (if frI fr1 b = y then 1 else 0))
    (hs : ∀ c ∈ se, 0 ≤ c → frI fr1 c = frI fr c) (he : ∀ c : Int, 0 ≤ c → frI fr1 c = frI fr c ∨ befI ms (frI fr1 c) c = true) : Wins ms a fr se (fr1.set b.toNat a) := by
  have hb1 : b.toNat < fr1.length := by omega
  refine ⟨by rw [List.length_set, hlen], fun y => ?_, fun c hcs hc0 => ?_, fun c hc0 => ?_⟩
  · have h1 := count_set a y fr1 b.toNat hb1
    have h2 := hc y
    unfold frI at h2
    omega
  · have hne : b ≠ c := fun e => hbs (e ▸ hcs)
    rw [frI_set hb.1 hc0 hne]
    exact hs c hcs hc0
  · by_cases hne : b = c
    · subst hne
      rw [frI_same hb1]
      exact .inr hbef
    · rw [frI_set hb.1 hc0 hne]
      exact he c hc0
theorem try_wins {ms : List (Int × Int)} {lead : Int → List Int → List Int → Bool × List Int × List Int} {a : Int} {n : Nat} (hk : Keeps lead)
    (hw : ∀ x fr se, fr.length = n → (lead x fr se).1 = true → Wins ms x fr se (lead x fr se).2.1) :
    ∀ (bs fr se : List Int), fr.length = n → (∀ b ∈ bs, (0 ≤ b ∧ b < n) ∧ befI ms a b = true) → (tryR lead a bs fr se).1 = true → Wins ms a fr se (tryR lead a bs fr se).2.1
  | [], _, _, _, _, h => by cases h
  | b :: bs, fr, se, hn, hb, h => by
    obtain ⟨hb1, hbef⟩ := hb b (by simp)
    have hb2 : ∀ c ∈ bs, (0 ≤ c ∧ c < n) ∧ befI ms a c = true := fun c hc => hb c (List.mem_cons_of_mem _ hc)
    have hbr : 0 ≤ b ∧ b.toNat < fr.length := by omega
    rw [tryR] at h ⊢
    by_cases h1 : b ∈ se
    · rw [if_pos h1] at h ⊢
      exact try_wins hk hw bs fr se hn hb2 h
    · rw [if_neg h1] at h ⊢
      by_cases h2 : frI fr b = -1
      · rw [if_pos h2]
        exact set_wins rfl hbr h1 hbef (fun y => by rw [h2]) (fun _ _ _ => rfl) (fun _ _ => .inl rfl)
      · rw [if_neg h2] at h ⊢
        obtain ⟨k1, k2⟩ := hk (frI fr b) fr (se ++ [b])
        cases h3 : (lead (frI fr b) fr (se ++ [b])).1 with
        | true =>
          rw [if_pos rfl]
          have W := hw (frI fr b) fr (se ++ [b]) hn h3
          have hsb := W.same b (by simp) hb1.1
          exact set_wins W.len hbr h1 hbef (fun y => by rw [hsb]; exact W.cnt y) (fun c hc hc0 => W.same c (by simp [hc]) hc0) W.edge
        | false =>
          rw [h3, if_neg (show ¬ (false = true) by simp), k2 h3] at h
          rw [if_neg (show ¬ (false = true) by simp), k2 h3]
          have W := try_wins hk hw bs fr _ hn hb2 h
          exact ⟨W.len, W.cnt, fun c hc hc0 => W.same c (k1 c (by simp [hc])) hc0, W.edge⟩
theorem lead_wins (ms : List (Int × Int)) : ∀ (f : Nat) (a : Int) (fr se : List Int), fr.length = ms.length → (leadR ms f a fr se).1 = true → Wins ms a fr se (leadR ms f a fr se).2.1
  | 0, _, _, _, _, h => by cases h
  | f + 1, a, fr, se, hn, h => by
    rw [leadR] at h ⊢
    exact try_wins (lead_keeps ms f) (fun x g s h1 h2 => lead_wins ms f x g s h1 h2) _ fr se hn (fun b hb => ⟨allL_mem (mem_after.1 hb).1, (mem_after.1 hb).2⟩) h
end Go.Proofs.Ytmlkdjcjfkfdiaa
