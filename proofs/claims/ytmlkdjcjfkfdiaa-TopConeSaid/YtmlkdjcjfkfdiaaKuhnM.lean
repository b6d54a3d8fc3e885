/-
  Plain facts: finding a hit to lead, as the program does it; what a failure says.
-/
import Derived.Test.YtmlkdjcjfkfdiaaLayerM
namespace Go.Proofs.Ytmlkdjcjfkfdiaa
open Go.RowKit Go.Shelf

def frI (fr : List Int) (b : Int) : Int := fr.getD b.toNat (-1)
/-- One hit's tries, in order: whether one was found, the fronts, what was seen. -/
def tryR (lead : Int → List Int → List Int → Bool × List Int × List Int) (a : Int) : List Int → List Int → List Int → Bool × List Int × List Int
  | [], fr, se => (false, fr, se)
  | b :: bs, fr, se =>
    if b ∈ se then tryR lead a bs fr se
    else if frI fr b = -1 then (true, fr.set b.toNat a, se ++ [b])
    else if (lead (frI fr b) fr (se ++ [b])).1 then (true, (lead (frI fr b) fr (se ++ [b])).2.1.set b.toNat a, (lead (frI fr b) fr (se ++ [b])).2.2)
    else tryR lead a bs (lead (frI fr b) fr (se ++ [b])).2.1 (lead (frI fr b) fr (se ++ [b])).2.2
def leadR (ms : List (Int × Int)) : Nat → Int → List Int → List Int → Bool × List Int × List Int
  | 0, _, fr, se => (false, fr, se)
  | f + 1, a, fr, se => tryR (leadR ms f) a (afterL ms a) fr se
structure SeenOk (n : Nat) (se : List Int) : Prop where
  nodup : se.Nodup
  rng : ∀ b ∈ se, 0 ≤ b ∧ b < n
theorem SeenOk.le {n : Nat} {se : List Int} (h : SeenOk n se) : se.length ≤ n := pigeon h.nodup h.rng
theorem SeenOk.next {n : Nat} {se : List Int} {b : Int} (h : SeenOk n se) (hb : b ∉ se) (hr : 0 ≤ b ∧ b < n) : SeenOk n (se ++ [b]) :=
  ⟨nodup_next h.nodup hb, fun c hc => by rcases List.mem_append.1 hc with hc | hc; exact h.rng c hc; simp at hc; subst hc; exact hr⟩
/-- What a failure leaves: more is seen, all tried, and each hit newly seen has a front whose tries are all seen. -/
structure Fails (ms : List (Int × Int)) (bs fr se se2 : List Int) : Prop where
  ok : SeenOk ms.length se2
  sub : ∀ b ∈ se, b ∈ se2
  all : ∀ b ∈ bs, b ∈ se2
  len : se.length ≤ se2.length
  new : ∀ b ∈ se2, b ∉ se → frI fr b ≠ -1 ∧ ∀ c ∈ afterL ms (frI fr b), c ∈ se2
theorem try_fail {ms : List (Int × Int)} {lead : Int → List Int → List Int → Bool × List Int × List Int} {s0 : Nat} {a : Int}
    (hl : ∀ x fr se, SeenOk ms.length se → s0 ≤ se.length → (lead x fr se).1 = false → (lead x fr se).2.1 = fr ∧ Fails ms (afterL ms x) fr se (lead x fr se).2.2) :
    ∀ (bs fr se : List Int), (∀ b ∈ bs, 0 ≤ b ∧ b < ms.length) → SeenOk ms.length se → s0 ≤ se.length + 1 → (tryR lead a bs fr se).1 = false → (tryR lead a bs fr se).2.1 = fr ∧ Fails ms bs fr se (tryR lead a bs fr se).2.2
  | [], fr, se, _, hok, _, _ => ⟨rfl, hok, fun _ h => h, fun b hb => by (cases hb), Nat.le_refl _, fun b hb hn => absurd hb hn⟩
  | b :: bs, fr, se, hb, hok, hs, h => by
    have hb1 := hb b (by simp)
    have hb2 : ∀ c ∈ bs, 0 ≤ c ∧ c < ms.length := fun c hc => hb c (List.mem_cons_of_mem _ hc)
    rw [tryR] at h ⊢
    by_cases h1 : b ∈ se
    · rw [if_pos h1] at h ⊢
      obtain ⟨e, f⟩ := try_fail hl bs fr se hb2 hok hs h
      exact ⟨e, f.ok, f.sub, fun c hc => by rcases List.mem_cons.1 hc with rfl | hc; exact f.sub _ h1; exact f.all c hc, f.len, f.new⟩
    · rw [if_neg h1] at h ⊢
      by_cases h2 : frI fr b = -1
      · rw [if_pos h2] at h
        cases h
      · rw [if_neg h2] at h ⊢
        have hok1 := hok.next h1 hb1
        have hl1 : (se ++ [b]).length = se.length + 1 := by simp
        cases h3 : (lead (frI fr b) fr (se ++ [b])).1 with
        | true =>
          rw [h3, if_pos rfl] at h
          cases h
        | false =>
          rw [h3, if_neg (show ¬ (false = true) by simp)] at h
          rw [if_neg (show ¬ (false = true) by simp)]
          obtain ⟨e1, f1⟩ := hl (frI fr b) fr (se ++ [b]) hok1 (by omega) h3
          have hlen := f1.len
          rw [e1] at h ⊢
          obtain ⟨e2, f2⟩ := try_fail hl bs fr _ hb2 f1.ok (by omega) h
          have hbm : b ∈ (lead (frI fr b) fr (se ++ [b])).2.2 := f1.sub b (by simp)
          refine ⟨e2, ⟨f2.ok, fun c hc => f2.sub c (f1.sub c (by simp [hc])), fun c hc => ?_, by have := f2.len; omega, fun c hc hn => ?_⟩⟩
          · rcases List.mem_cons.1 hc with rfl | hc
            · exact f2.sub _ hbm
            · exact f2.all c hc
          · by_cases hc1 : c ∈ (lead (frI fr b) fr (se ++ [b])).2.2
            · by_cases hc2 : c = b
              · subst hc2
                exact ⟨h2, fun d hd => f2.sub d (f1.all d hd)⟩
              · obtain ⟨g1, g2⟩ := f1.new c hc1 (by simp [hn, hc2])
                exact ⟨g1, fun d hd => f2.sub d (g2 d hd)⟩
            · exact f2.new c hc hc1
theorem lead_fail {ms : List (Int × Int)} : ∀ (f : Nat) (a : Int) (fr se : List Int), SeenOk ms.length se → ms.length < f + se.length → (leadR ms f a fr se).1 = false → (leadR ms f a fr se).2.1 = fr ∧ Fails ms (afterL ms a) fr se (leadR ms f a fr se).2.2
  | 0, _, _, se, hok, h, _ => by have := hok.le; omega
  | f + 1, a, fr, se, hok, h, hf => by
    rw [leadR] at hf ⊢
    exact try_fail (s0 := ms.length + 1 - f) (fun x fr se h1 h2 h3 => lead_fail f x fr se h1 (by omega) h3) _ fr se (fun b hb => allL_mem (List.mem_filter.1 hb).1) hok (by omega) hf
end Go.Proofs.Ytmlkdjcjfkfdiaa
