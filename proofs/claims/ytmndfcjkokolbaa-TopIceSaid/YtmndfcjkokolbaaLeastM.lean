/-
  Plain arithmetic: more strength wants no more lamps.
-/
import Derived.Test.YtmndfcjkokolbaaLightM
namespace Go.Proofs.Ytmndfcjkokolbaa
open Go.RowKit Go.Shelf

theorem dn_more {l : List Int} {f : Nat} {s t : Int} (hd : dimsB l) (hs : 0 ≤ s) (hst : s ≤ t) (hf : f ≤ l.length) : dnN l f s ≤ dnN l f t := by
  have h1 := dn_bd (l := l) (f := f) (s := s) hf
  have h3 := (dn_iff hd hs h1.1 h1.2).1 (Nat.le_refl (dnN l f s))
  exact (dn_iff hd (by omega) h1.1 h1.2).2 (by omega)
/-- What is lit is clear enough. -/
theorem lit_clear {l : List Int} {f m : Nat} {s d : Int} (hd : dimsB l) (hs : 0 ≤ s) (hfm : f ≤ m) (hm : m < dnN l f s) (hf : f ≤ l.length) (hx : l[m]? = some d) : d ≤ s := by
  have h1 := dn_bd (l := l) (f := f) (s := s) hf
  have h3 := (dn_iff (t := m + 1) hd hs (by omega) (by omega)).1 hm
  rw [loss_le (by omega), sumN_succ hx] at h3
  have := sumN_mono hd.1 hfm
  omega
theorem lampG_more {l : List Int} {s s' : Int} (hd : dimsB l) (hs : 0 ≤ s) (hss : s ≤ s') : ∀ (fuel m m' fuel' : Nat) (t : List (Int × Int)), lampG l s fuel m = some t → l.length ≤ m + fuel → m ≤ m' → m' ≤ l.length → l.length ≤ m' + fuel' →
    ∃ t', lampG l s' fuel' m' = some t' ∧ t'.length ≤ t.length := by
  intro fuel
  induction fuel with
  | zero =>
    intro m m' fuel' t h hf hm hm2 hf'
    refine ⟨[], ?_, Nat.zero_le _⟩
    cases fuel' with
    | zero => rfl
    | succ f => rw [lampG, if_neg (by omega)]
  | succ fuel ih =>
    intro m m' fuel' t h hf hm hm2 hf'
    by_cases hl : m' < l.length
    · obtain ⟨f', rfl⟩ : ∃ f, fuel' = f + 1 := ⟨fuel' - 1, by omega⟩
      rw [lampG, if_pos (by omega)] at h
      by_cases he : dnN l m s = m
      · rw [if_pos he] at h; cases h
      · rw [if_neg he] at h
        have b1 := dn_bd (l := l) (f := m) (s := s) (by omega)
        have b2 := dn_bd (l := l) (f := dnN l m s) (s := s) b1.2
        cases hg : lampG l s fuel (dnN l (dnN l m s) s) with
        | none => rw [hg] at h; cases h
        | some t0 =>
          rw [hg] at h
          simp only [Option.map_some, Option.some.injEq] at h
          subst h
          by_cases hin : m' < dnN l (dnN l m s) s
          · obtain ⟨d, hx⟩ := getElem?_of_lt hl
            have hds : d ≤ s := by
              rcases Nat.lt_or_ge m' (dnN l m s) with h1 | h1
              · exact lit_clear hd hs hm h1 (by omega) hx
              · exact lit_clear hd hs h1 hin b1.2 hx
            have c1 := dn_bd (l := l) (f := m') (s := s') hm2
            have c2 := dn_bd (l := l) (f := dnN l m' s') (s := s') c1.2
            have hne : ¬ dnN l m' s' = m' := by rw [dn_same hx]; omega
            have k1 : dnN l m s ≤ dnN l m' s' := Nat.le_trans (dn_mono hd hs hm hm2) (dn_more hd hs hss hm2)
            have k2 : dnN l (dnN l m s) s ≤ dnN l (dnN l m' s') s' := Nat.le_trans (dn_mono hd hs k1 c1.2) (dn_more hd hs hss c1.2)
            obtain ⟨t1, h1, h2⟩ := ih _ _ f' t0 hg (by omega) k2 c2.2 (by omega)
            refine ⟨_, by rw [lampG, if_pos hl, if_neg hne, h1]; rfl, ?_⟩
            simp only [List.length_cons]; omega
          · obtain ⟨t1, h1, h2⟩ := ih _ m' (f' + 1) t0 hg (by omega) (Nat.not_lt.1 hin) hm2 hf'
            exact ⟨t1, h1, by simp only [List.length_cons]; omega⟩
    · refine ⟨[], ?_, Nat.zero_le _⟩
      cases fuel' with
      | zero => rfl
      | succ f => rw [lampG, if_neg hl]

/-- So many lamps are enough. -/
def okS (l : List Int) (n s : Int) : Bool := match lampO l s with | some ps => decide ((ps.length : Int) ≤ n) | none => false
theorem okS_none {l : List Int} {n s : Int} (h : lampO l s = none) : okS l n s = false := by rw [okS, h]
theorem okS_some {l : List Int} {n s : Int} {ps : List (Int × Int)} (h : lampO l s = some ps) : okS l n s = decide ((ps.length : Int) ≤ n) := by rw [okS, h]
theorem okS_more {l : List Int} {n s s' : Int} (hd : dimsB l) (hs : 0 ≤ s) (hss : s ≤ s') (h : okS l n s = true) : okS l n s' = true := by
  unfold okS at *
  cases hp : lampO l s with
  | none => rw [hp] at h; cases h
  | some ps =>
    rw [hp] at h
    obtain ⟨t', h1, h2⟩ := lampG_more hd hs hss l.length 0 0 l.length ps hp (by omega) (Nat.le_refl _) (by omega) (by omega)
    rw [show lampO l s' = some t' from h1]
    simp at h ⊢; omega
theorem okS_whole {l : List Int} {n : Int} (hd : dimsB l) (hn : 1 ≤ n) : okS l n l.sum = true := by
  have hl := hd.2
  have hs := dims_bd hd l.length
  rw [sumN_all] at hs
  have h1 : dnN l 0 l.sum = l.length := by
    have hb := dn_bd (l := l) (f := 0) (s := l.sum) (by omega)
    have := (dn_iff (t := l.length) hd hs.1 (Nat.zero_le _) (Nat.le_refl _)).2 (by rw [loss_le (Nat.zero_le _), sumN_zero, sumN_all]; omega)
    omega
  have h2 : dnN l l.length l.sum = l.length := dn_end (Nat.le_refl _)
  obtain ⟨f, hf⟩ : ∃ f, l.length = f + 1 := ⟨l.length - 1, by omega⟩
  have e : lampO l l.sum = some [((l.length : Int), 0)] := by
    unfold lampO
    rw [hf, lampG, ← hf, if_pos (by omega), if_neg (by omega), h1, h2]
    cases f with
    | zero => rfl
    | succ q => rw [lampG, if_neg (by omega)]; rfl
  rw [okS_some e]; simpa using hn

/-- The least strength. -/
def LeastOK (l : List Int) (n s : Int) : Prop := 0 ≤ s ∧ okS l n s = true ∧ ∀ t, 0 ≤ t → t < s → okS l n t = false
theorem least_one {l : List Int} {n s t : Int} (h : LeastOK l n s) (k : LeastOK l n t) : s = t := by
  rcases Int.lt_trichotomy s t with c | c | c
  · have := k.2.2 s h.1 c; rw [h.2.1] at this; cases this
  · exact c
  · have := h.2.2 t k.1 c; rw [k.2.1] at this; cases this
theorem least_le {l : List Int} {n s t : Int} (h : LeastOK l n s) (ht : 0 ≤ t) (hk : okS l n t = true) : s ≤ t := by
  rcases Int.lt_or_le t s with c | c
  · have := h.2.2 t ht c; rw [hk] at this; cases this
  · exact c
def leastE (ms : List (Int × Int)) (n : Int) : Int := if lookE ms [] = 0 then (if 1 ≤ n ∧ n ≤ 600 then 0 else 2) else lookE ms []
theorem leastE_ok {ms : List (Int × Int)} {n : Int} (hv : viB ms = true) (hn : 1 ≤ n ∧ n ≤ 600) : leastE ms n = 0 := by rw [leastE, if_pos (depthE_ok hv), if_pos hn]
theorem leastE_arg {ms : List (Int × Int)} {n : Int} (hv : viB ms = true) (hn : ¬ (1 ≤ n ∧ n ≤ 600)) : leastE ms n = 2 := by rw [leastE, if_pos (depthE_ok hv), if_neg hn]
theorem leastE_ice {ms : List (Int × Int)} {n : Int} (hv : viB ms = false) : leastE ms n = 40 := by
  have e : lookE ms [] = 40 := lookE_ice hv
  rw [leastE, if_neg (by rw [e]; decide), e]
/-- What Least answers. -/
def LeastRes (ms : List (Int × Int)) (n r E : Int) : Prop := E = leastE ms n ∧ ((leastE ms n = 0 ∧ LeastOK (mtL ms) n r) ∨ (leastE ms n ≠ 0 ∧ r = 0))
theorem leastRes_one {ms : List (Int × Int)} {n r E r2 E2 : Int} (h : LeastRes ms n r E) (h2 : LeastRes ms n r2 E2) : r2 = r ∧ E2 = E := by
  obtain ⟨rfl, h⟩ := h
  obtain ⟨rfl, h2⟩ := h2
  refine ⟨?_, rfl⟩
  rcases h with ⟨h0, hk⟩ | ⟨h0, rfl⟩ <;> rcases h2 with ⟨h3, hj⟩ | ⟨h3, rfl⟩
  · exact least_one hj hk
  · exact absurd h0 h3
  · exact absurd h3 h0
  · rfl
end Go.Proofs.Ytmndfcjkokolbaa
