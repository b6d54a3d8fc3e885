/-
  Plain arithmetic: lamps light the ice, dark places are ones, and none are fewer.
-/
import Derived.Test.YtmndfcjkokolbaaAreDark
import Derived.Test.YtmndfcjkokolbaaLeast
namespace Go.Proofs.Ytmndfcjkokolbaa
open Go.RowKit Go.Shelf

/-- The lamps from a metre on, each with its metre, as they come about. -/
def ChainP (l : List Int) (s : Int) : Nat → List (Int × Int) → Prop
  | m, [] => l.length ≤ m
  | m, p :: t => m < l.length ∧ p.2 = m ∧ p.1 = dnN l m s ∧ m < dnN l m s ∧ ChainP l s (dnN l (dnN l m s) s) t
theorem lampG_chain {l : List Int} {s : Int} : ∀ (fuel m : Nat) (t : List (Int × Int)), lampG l s fuel m = some t → m ≤ l.length → l.length ≤ m + fuel → ChainP l s m t := by
  intro fuel
  induction fuel with
  | zero => intro m t h hm hf; rw [lampG] at h; cases h; show _ ≤ _; omega
  | succ fuel ih =>
    intro m t h hm hf
    rw [lampG] at h
    by_cases hl : m < l.length
    · rw [if_pos hl] at h
      have b1 := dn_bd (l := l) (f := m) (s := s) hm
      have b2 := dn_bd (l := l) (f := dnN l m s) (s := s) b1.2
      by_cases he : dnN l m s = m
      · rw [if_pos he] at h; cases h
      · rw [if_neg he] at h
        cases hg : lampG l s fuel (dnN l (dnN l m s) s) with
        | none => rw [hg] at h; cases h
        | some t0 =>
          rw [hg] at h
          simp only [Option.map_some, Option.some.injEq] at h
          subst h
          exact ⟨hl, rfl, rfl, by omega, ih _ t0 hg b2.2 (by omega)⟩
    · rw [if_neg hl] at h; cases h; show _ ≤ _; omega
theorem lampO_chain {l : List Int} {s : Int} {ps : List (Int × Int)} (h : lampO l s = some ps) : ChainP l s 0 ps := lampG_chain l.length 0 ps h (Nat.zero_le _) (by omega)
theorem chain_in {l : List Int} {s : Int} : ∀ (t : List (Int × Int)) (m : Nat), ChainP l s m t → ∀ p ∈ t, (m : Int) ≤ p.2 ∧ p.2 < l.length ∧ p.2 < p.1 ∧ p.1 ≤ l.length
  | [], m, _, p, hp => by cases hp
  | q :: t, m, h, p, hp => by
    obtain ⟨h1, h2, h3, h4, h5⟩ := h
    have b1 := dn_bd (l := l) (f := m) (s := s) (by omega)
    have b2 := dn_bd (l := l) (f := dnN l m s) (s := s) b1.2
    rcases List.mem_cons.1 hp with rfl | hp
    · omega
    · have := chain_in t _ h5 p hp
      omega
theorem chain_asc {l : List Int} {s : Int} : ∀ (t : List (Int × Int)) (m : Nat), ChainP l s m t → ascB (t.map (·.1)) = true ∧ ascB (t.map (·.2)) = true
  | [], m, _ => ⟨rfl, rfl⟩
  | [q], m, _ => ⟨rfl, rfl⟩
  | q :: r :: t, m, h => by
    obtain ⟨h1, h2, h3, h4, h5⟩ := h
    have ih := chain_asc (r :: t) _ h5
    obtain ⟨k1, k2, k3, k4, k5⟩ := h5
    have b1 := dn_bd (l := l) (f := m) (s := s) (by omega)
    have b2 := dn_bd (l := l) (f := dnN l m s) (s := s) b1.2
    constructor
    · show (decide (q.1 < r.1) && ascB ((r :: t).map (·.1))) = true
      rw [ih.1, decide_eq_true (by omega)]; rfl
    · show (decide (q.2 < r.2) && ascB ((r :: t).map (·.2))) = true
      rw [ih.2, decide_eq_true (by omega)]; rfl
theorem chain_lit {l : List Int} {s : Int} (hd : dimsB l) (hs : 0 ≤ s) : ∀ (t : List (Int × Int)) (m : Nat), ChainP l s m t → ∀ x, m ≤ x → x < l.length → litBy l s (t.map (·.1)) x = true
  | [], m, h, x, hx, hl => by have : l.length ≤ m := h; omega
  | q :: t, m, h, x, hx, hl => by
    obtain ⟨h1, h2, h3, h4, h5⟩ := h
    have b1 := dn_bd (l := l) (f := m) (s := s) (by omega)
    rw [litBy, List.map_cons, List.any_cons, h3]
    by_cases hc : x < dnN l (dnN l m s) s
    · have h6 : upN l (dnN l m s) s ≤ m := (up_iff hd hs b1.1 b1.2).2 (by
        have := (dn_iff hd hs b1.1 b1.2).1 (Nat.le_refl (dnN l m s))
        rw [loss_le b1.1] at this
        rw [loss_ge b1.1]; exact this)
      rw [Int.toNat_natCast, decide_eq_true (by omega)]; rfl
    · have := chain_lit hd hs t _ h5 x (by omega) hl
      rw [litBy] at this
      rw [this, Bool.or_true]
theorem chain_dark {l : List Int} {s : Int} (hd : dimsB l) (hs : 0 ≤ s) : ∀ (t : List (Int × Int)) (m : Nat), ChainP l s m t → DarkP l s (t.map (·.2))
  | [], m, _ => fun a ha ⟨j, x, y, hx, _⟩ => by simp at hx
  | [q], m, _ => fun a ha ⟨j, x, y, hx, hy, _⟩ => by simp at hy
  | q :: r :: t, m, h => by
    obtain ⟨h1, h2, h3, h4, h5⟩ := h
    have ih := chain_dark hd hs (r :: t) _ h5
    obtain ⟨k1, k2, k3, k4, k5⟩ := h5
    have b1 := dn_bd (l := l) (f := m) (s := s) (by omega)
    rintro b hb ⟨j, x, y, hx, hy, hu, hn⟩
    cases j with
    | zero =>
      simp at hx hy
      subst hx hy
      rw [h2] at hu
      rw [k2] at hn
      rcases Nat.lt_or_ge (dnN l m s) b with hc | hc
      · have h6 := (up_iff hd hs (show m ≤ b by omega) hb).1 (by omega)
        have h7 := (dn_iff (f := m) (t := b) hd hs (by omega) hb).2 (by rw [loss_le (by omega)]; rw [loss_ge (by omega)] at h6; exact h6)
        omega
      · have := dn_mono hd hs hc b1.2
        omega
    | succ j => exact ih b hb ⟨j, x, y, by simpa using hx, by simpa using hy, hu, hn⟩
/-- No lamps that light the ice are fewer than any dark places. -/
theorem weak_duality {l : List Int} {s : Int} {ns ps : List Int} (hd : dimsB l) (hs : 0 ≤ s) (hasc : Asc ns) (hin : ∀ x ∈ ns, 0 ≤ x ∧ x ≤ l.length) (hl : litB l s ns = true) (hpi : ps.all (inB ((l.length : Int) - 1)) = true) (hD : DarkP l s ps) : ps.length ≤ ns.length := by
  have hlit : ∀ (j : Nat) (x : Int), ps[j]? = some x → ∃ (i : Nat) (a : Int), ns[i]? = some a ∧ (upN l a.toNat s : Int) ≤ x ∧ x < (dnN l a.toNat s : Int) := by
    intro j x hx
    have hxi := List.all_eq_true.1 hpi x (List.mem_of_getElem? hx)
    simp [inB] at hxi
    have := List.all_eq_true.1 hl x.toNat (List.mem_range.2 (by omega))
    rw [litBy, List.any_eq_true] at this
    obtain ⟨a, ha, h2⟩ := this
    obtain ⟨i, hi, rfl⟩ := List.mem_iff_getElem.1 ha
    simp at h2
    exact ⟨i, ns[i], List.getElem?_eq_getElem hi, by omega, by omega⟩
  have key : ∀ (j : Nat) (x : Int), ps[j]? = some x → ∀ (i : Nat) (a : Int), ns[i]? = some a → (upN l a.toNat s : Int) ≤ x → x < (dnN l a.toNat s : Int) → j ≤ i := by
    intro j
    induction j with
    | zero => intro x hx i a ha h1 h2; exact Nat.zero_le _
    | succ j ih =>
      intro y hy i' b hb h1 h2
      obtain ⟨x, hx⟩ := getElem?_of_lt (show j < ps.length by have := (List.getElem?_eq_some_iff.1 hy).1; omega)
      obtain ⟨i, a, ha, h3, h4⟩ := hlit j x hx
      have hij := ih x hx i a ha h3 h4
      rcases Nat.lt_or_ge i i' with hc | hc
      · omega
      · have hab := asc_le hasc hc hb ha
        have ha2 := hin a (List.mem_of_getElem? ha)
        have hb2 := hin b (List.mem_of_getElem? hb)
        have := dn_mono hd hs (show b.toNat ≤ a.toNat by omega) (by omega)
        exact absurd ⟨j, x, y, hx, hy, h3, by omega⟩ (hD a.toNat (by omega))
  rcases Nat.eq_zero_or_pos ps.length with h0 | h0
  · omega
  · obtain ⟨x, hx⟩ := getElem?_of_lt (show ps.length - 1 < ps.length by omega)
    obtain ⟨i, a, ha, h3, h4⟩ := hlit _ x hx
    have := key _ x hx i a ha h3 h4
    have := (List.getElem?_eq_some_iff.1 ha).1
    omega
theorem lampG_none {l : List Int} {s : Int} : ∀ (fuel m : Nat), lampG l s fuel m = none → m ≤ l.length → ∃ (k : Nat) (z : Int), l[k]? = some z ∧ s < z := by
  intro fuel
  induction fuel with
  | zero => intro m h; rw [lampG] at h; cases h
  | succ fuel ih =>
    intro m h hm
    rw [lampG] at h
    by_cases hl : m < l.length
    · rw [if_pos hl] at h
      have b1 := dn_bd (l := l) (f := m) (s := s) hm
      have b2 := dn_bd (l := l) (f := dnN l m s) (s := s) b1.2
      by_cases he : dnN l m s = m
      · obtain ⟨z, hz⟩ := getElem?_of_lt hl
        exact ⟨m, z, hz, (dn_same hz).1 he⟩
      · rw [if_neg he] at h
        cases hg : lampG l s fuel (dnN l (dnN l m s) s) with
        | none => exact ih _ hg b2.2
        | some t => rw [hg] at h; cases h
    · rw [if_neg hl] at h; cases h
/-- Ice that no lamps can light is not lit. -/
theorem unlit {l : List Int} {s : Int} {ns : List Int} (hd : dimsB l) (hs : 0 ≤ s) (hin : ∀ x ∈ ns, 0 ≤ x ∧ x ≤ l.length) (h : lampO l s = none) : litB l s ns = false := by
  obtain ⟨k, z, hz, hsz⟩ := lampG_none _ _ h (Nat.zero_le _)
  have hk := (List.getElem?_eq_some_iff.1 hz).1
  refine lit_none hk ?_
  rw [litBy, List.any_eq_false]
  intro a ha
  have hai := hin a ha
  simp only [decide_eq_true_eq]
  rintro ⟨h1, h2⟩
  rcases Nat.lt_or_ge k a.toNat with hc | hc
  · have h3 := (up_iff hd hs (show k ≤ a.toNat by omega) (by omega)).1 h1
    rw [loss_ge (by omega)] at h3
    have := sumN_mono hd.1 (show k + 1 ≤ a.toNat by omega)
    rw [sumN_succ hz] at this
    have hz0 := hd.1 z (List.mem_of_getElem? hz)
    omega
  · have := lit_clear hd hs hc h2 (by omega) hz
    omega

/-! ### what Lamps and Dark prove -/
theorem proofs {ms : List (Int × Int)} {s : Int} (h : lampsE ms s = 0) :
    lightE ms s (lampsL ms s) = 0 ∧ lightR ms s (lampsL ms s) = true ∧ areE ms s (darkL ms s) = 0 ∧ DarkP (mtL ms) s (darkL ms s) ∧ (lampsL ms s).length = (darkL ms s).length ∧ 1 ≤ (lampsL ms s).length ∧ (lampsL ms s).length ≤ 600 ∧ lookByE ms [] s = 0 := by
  have h0 : lookByE ms [] s = 0 := by
    rcases Classical.em (lookByE ms [] s = 0) with h0 | h0
    · exact h0
    · rw [lampsE_no h0] at h; exact absurd h h0
  obtain ⟨hv, hs⟩ := askedE_in h0
  cases hp : lampO (mtL ms) s with
  | none => rw [lampsE_none h0 hp] at h; cases h
  | some ps =>
    obtain ⟨_, e1, e2⟩ := lampsE_ok h0 hp
    rw [e1, e2]
    have hd := mt_ok hv
    have hc := lampO_chain hp
    have hin := chain_in ps 0 hc
    have hasc := chain_asc ps 0 hc
    have hall : (ps.map (·.1)).all (inB (mtL ms).length) = true := by
      rw [List.all_eq_true]
      intro x hx
      obtain ⟨p, hp, rfl⟩ := List.mem_map.1 hx
      have := hin p hp
      simp [inB]; omega
    have hall2 : (ps.map (·.2)).all (inB (((mtL ms).length : Int) - 1)) = true := by
      rw [List.all_eq_true]
      intro x hx
      obtain ⟨p, hp, rfl⟩ := List.mem_map.1 hx
      have := hin p hp
      simp [inB]; omega
    have hlen := asc_len ((ascB_iff _).1 hasc.2) hall2
    rw [List.length_map] at hlen
    have hn := hd.2
    have hle := lightE_zero hv hs hall hasc.1
    have hlit : litB (mtL ms) s (ps.map (·.1)) = true := by
      rw [litB, List.all_eq_true]
      intro x hx
      exact chain_lit hd hs.1 ps 0 hc x (Nat.zero_le _) (List.mem_range.1 hx)
    refine ⟨hle, by rw [lightR_ok hle, hlit, List.length_map, decide_eq_true (by omega)]; rfl, areE_ok h0 (by rw [hall2, hasc.2]; rfl), chain_dark hd hs.1 ps 0 hc, by simp, ?_, by rw [List.length_map]; omega, h0⟩
    rw [List.length_map]
    rcases Nat.eq_zero_or_pos ps.length with h9 | h9
    · have : ps = [] := List.eq_nil_of_length_eq_zero h9
      rw [this] at hp
      exact absurd hp (fun h => lamp_ne (by omega) h)
    · exact h9
/-- Whatever lights the ice, and whatever are dark places. -/
theorem duality {ms : List (Int × Int)} {s : Int} {ns ps : List Int} (hl : lightR ms s ns = true) (he : areE ms s ps = 0) (hD : DarkP (mtL ms) s ps) : ps.length ≤ ns.length := by
  have h0 : lightE ms s ns = 0 := by
    rcases Classical.em (lightE ms s ns = 0) with h0 | h0
    · exact h0
    · rw [lightR_no h0] at hl; cases hl
  obtain ⟨h1, h2⟩ := lightE_in h0
  obtain ⟨hv, hin, hs⟩ := lookBy_all h1
  rw [lightR_ok h0, Bool.and_eq_true] at hl
  have hb : (ps.all (inB (((mtL ms).length : Int) - 1)) && ascB ps) = true := by
    cases hc : (ps.all (inB (((mtL ms).length : Int) - 1)) && ascB ps) with
    | true => rfl
    | false => rw [areE_arg (askedE_ok hv hs) hc] at he; cases he
  rw [Bool.and_eq_true] at hb
  exact weak_duality (mt_ok hv) hs.1 ((ascB_iff ns).1 h2) hin hl.2 hb.1 hD
theorem none_unlit {ms : List (Int × Int)} {s : Int} {ns : List Int} (h : lampsE ms s ≠ 0) : lightR ms s ns = false := by
  rcases Classical.em (lightE ms s ns = 0) with h0 | h0
  · obtain ⟨h1, _⟩ := lightE_in h0
    obtain ⟨hv, hin, hs⟩ := lookBy_all h1
    have h2 := askedE_ok (ms := ms) hv hs
    cases hp : lampO (mtL ms) s with
    | none => rw [lightR_ok h0, unlit (mt_ok hv) hs.1 hin hp, Bool.and_false]
    | some ps => exact absurd (lampsE_ok h2 hp).1 h
  · exact lightR_no h0
end Go.Proofs.Ytmndfcjkokolbaa
