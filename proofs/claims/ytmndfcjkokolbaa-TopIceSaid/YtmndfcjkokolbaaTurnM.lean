/-
  Plain arithmetic: ice the other way up wants as many lamps; plain ice.
-/
import Derived.Test.YtmndfcjkokolbaaProofM
namespace Go.Proofs.Ytmndfcjkokolbaa
open Go.RowKit Go.Shelf

/-! ### the other way up -/
theorem mt_rev (ms : List (Int × Int)) : mtL ms.reverse = (mtL ms).reverse := by
  unfold mtL
  rw [List.reverse_flatMap]
  congr 1
  funext m
  simp
theorem vi_rev (ms : List (Int × Int)) : viB ms.reverse = viB ms := by simp [viB]
theorem dims_rev {l : List Int} (h : dimsB l) : dimsB l.reverse := ⟨fun d hd => h.1 d (List.mem_reverse.1 hd), by rw [List.length_reverse]; exact h.2⟩
theorem sumN_flip {l : List Int} {k : Nat} (h : k ≤ l.length) : sumN l.reverse k = l.sum - sumN l (l.length - k) := by
  have := sumN_rev l l.length k (Nat.le_refl _) h
  rw [List.take_length, sumN_all] at this
  exact this
theorem loss_rev {l : List Int} {a b : Nat} (ha : a ≤ l.length) (hb : b ≤ l.length) : lossI l.reverse ((l.length : Int) - a) ((l.length : Int) - b) = lossI l a b := by
  rw [show (l.length : Int) - a = ((l.length - a : Nat) : Int) by omega, show (l.length : Int) - b = ((l.length - b : Nat) : Int) by omega]
  have e1 := sumN_flip (l := l) (k := l.length - a) (by omega)
  have e2 := sumN_flip (l := l) (k := l.length - b) (by omega)
  rw [show l.length - (l.length - a) = a by omega] at e1
  rw [show l.length - (l.length - b) = b by omega] at e2
  rcases Nat.le_total a b with h | h
  · rw [loss_ge (by omega), loss_le h]; omega
  · rw [loss_le (by omega), loss_ge h]; omega
theorem up_flip {l : List Int} {a : Nat} {s : Int} (ha : a ≤ l.length) : dnN l (l.length - a) s = l.length - upN l.reverse a s ∧ upN l (l.length - a) s = l.length - dnN l.reverse a s := by
  constructor
  · unfold dnN upN
    rw [List.take_reverse, List.reverse_reverse]
    have := run_le (l.drop (l.length - a)) s
    rw [List.length_drop] at this
    omega
  · unfold dnN upN
    rw [List.drop_reverse]
    omega
def mirL (n : Nat) (ns : List Int) : List Int := (ns.map fun a => (n : Int) - a).reverse
theorem mir_len (n : Nat) (ns : List Int) : (mirL n ns).length = ns.length := by simp [mirL]
theorem mir_in {n : Nat} {ns : List Int} (h : ∀ x ∈ ns, 0 ≤ x ∧ x ≤ n) : ∀ x ∈ mirL n ns, 0 ≤ x ∧ x ≤ n := by
  intro x hx
  simp only [mirL, List.mem_reverse, List.mem_map] at hx
  obtain ⟨a, ha, rfl⟩ := hx
  have := h a ha
  omega
theorem mir_get {n : Nat} {ns : List Int} {j : Nat} {x : Int} (h : (mirL n ns)[j]? = some x) : ns[ns.length - 1 - j]? = some ((n : Int) - x) ∧ j < ns.length := by
  have hj := (List.getElem?_eq_some_iff.1 h).1
  rw [mir_len] at hj
  rw [mirL, List.getElem?_reverse (by simpa using hj), List.length_map, List.getElem?_map] at h
  obtain ⟨a, ha⟩ := getElem?_of_lt (show ns.length - 1 - j < ns.length by omega)
  rw [ha] at h
  simp only [Option.map_some, Option.some.injEq] at h
  refine ⟨by rw [ha]; congr 1; omega, hj⟩
theorem mir_asc {n : Nat} {ns : List Int} (h : Asc ns) : Asc (mirL n ns) := by
  intro j a b ha hb
  obtain ⟨h1, h2⟩ := mir_get ha
  obtain ⟨h3, h4⟩ := mir_get hb
  have := h (ns.length - 1 - (j + 1)) _ _ h3 (by rw [show ns.length - 1 - (j + 1) + 1 = ns.length - 1 - j by omega]; exact h1)
  omega
theorem mir_lit {l : List Int} {s : Int} {ns : List Int} (hin : ∀ x ∈ ns, 0 ≤ x ∧ x ≤ l.length) (h : litB l.reverse s ns = true) : litB l s (mirL l.length ns) = true := by
  rw [litB, List.all_eq_true] at h ⊢
  intro x hx
  have hx := List.mem_range.1 hx
  have := h (l.length - 1 - x) (List.mem_range.2 (by rw [List.length_reverse]; omega))
  rw [litBy, List.any_eq_true] at this ⊢
  obtain ⟨a, ha, h2⟩ := this
  have hai := hin a ha
  simp only [decide_eq_true_eq] at h2
  have hf := up_flip (l := l) (a := a.toNat) (s := s) (by omega)
  have hb1 := up_bd (l := l.reverse) (f := a.toNat) (s := s)
  have hb2 := dn_bd (l := l.reverse) (f := a.toNat) (s := s) (by rw [List.length_reverse]; omega)
  rw [List.length_reverse] at hb2
  refine ⟨(l.length : Int) - a, by simp only [mirL, List.mem_reverse, List.mem_map]; exact ⟨a, ha, rfl⟩, ?_⟩
  rw [show ((l.length : Int) - a).toNat = l.length - a.toNat by omega, hf.1, hf.2]
  exact decide_eq_true (by omega)
theorem lit_le {l : List Int} {s z : Int} {a x : Nat} (hd : dimsB l) (hs : 0 ≤ s) (ha : a ≤ l.length) (h1 : upN l a s ≤ x) (h2 : x < dnN l a s) (hz : l[x]? = some z) : z ≤ s := by
  have hk := (List.getElem?_eq_some_iff.1 hz).1
  rcases Nat.lt_or_ge x a with hc | hc
  · have h3 := (up_iff hd hs (show x ≤ a by omega) ha).1 h1
    rw [loss_ge (by omega)] at h3
    have := sumN_mono hd.1 (show x + 1 ≤ a by omega)
    rw [sumN_succ hz] at this
    omega
  · exact lit_clear hd hs hc h2 ha hz
theorem lampO_lit {l : List Int} {s : Int} {ps : List (Int × Int)} (hd : dimsB l) (hs : 0 ≤ s) (h : lampO l s = some ps) :
    (∀ x : Int, x ∈ ps.map (·.1) → 0 ≤ x ∧ x ≤ (l.length : Int)) ∧ Asc (ps.map (·.1)) ∧ litB l s (ps.map (·.1)) = true := by
  have hc := lampO_chain h
  refine ⟨fun x hx => ?_, (ascB_iff _).1 (chain_asc ps 0 hc).1, ?_⟩
  · obtain ⟨p, hp, rfl⟩ := List.mem_map.1 hx
    have := chain_in ps 0 hc p hp
    omega
  · rw [litB, List.all_eq_true]
    intro x hx
    exact chain_lit hd hs ps 0 hc x (Nat.zero_le _) (List.mem_range.1 hx)
theorem lampO_dark {l : List Int} {s : Int} {ps : List (Int × Int)} (hd : dimsB l) (hs : 0 ≤ s) (h : lampO l s = some ps) :
    (ps.map (·.2)).all (inB ((l.length : Int) - 1)) = true ∧ DarkP l s (ps.map (·.2)) := by
  have hc := lampO_chain h
  refine ⟨?_, chain_dark hd hs ps 0 hc⟩
  rw [List.all_eq_true]
  intro x hx
  obtain ⟨p, hp, rfl⟩ := List.mem_map.1 hx
  have := chain_in ps 0 hc p hp
  simp [inB]; omega
theorem lampO_none {l : List Int} {s : Int} (hd : dimsB l) (hs : 0 ≤ s) : lampO l s = none ↔ ∃ z ∈ l, s < z := by
  constructor
  · intro h
    obtain ⟨k, z, hz, hsz⟩ := lampG_none _ _ h (Nat.zero_le _)
    exact ⟨z, List.mem_of_getElem? hz, hsz⟩
  · rintro ⟨z, hz, hsz⟩
    cases hp : lampO l s with
    | none => rfl
    | some ps =>
      obtain ⟨x, hx, e⟩ := List.mem_iff_getElem.1 hz
      obtain ⟨h1, _, h3⟩ := lampO_lit hd hs hp
      have := List.all_eq_true.1 h3 x (List.mem_range.2 hx)
      rw [litBy, List.any_eq_true] at this
      obtain ⟨a, ha, h2⟩ := this
      simp only [decide_eq_true_eq] at h2
      have hai := h1 a ha
      have := lit_le hd hs (by omega) h2.1 h2.2 (by rw [List.getElem?_eq_getElem hx, e])
      omega
theorem lampO_half {l : List Int} {s : Int} {ps qs : List (Int × Int)} (hd : dimsB l) (hs : 0 ≤ s) (hp : lampO l s = some ps) (hq : lampO l.reverse s = some qs) : ps.length ≤ qs.length := by
  obtain ⟨h1, h2, h3⟩ := lampO_lit (dims_rev hd) hs hq
  rw [List.length_reverse] at h1
  obtain ⟨h4, h5⟩ := lampO_dark hd hs hp
  have := weak_duality hd hs (mir_asc (n := l.length) h2) (mir_in h1) (mir_lit h1 h3) h4 h5
  rw [mir_len, List.length_map, List.length_map] at this
  exact this
theorem lampO_rev {l : List Int} {s : Int} (hd : dimsB l) (hs : 0 ≤ s) : (lampO l.reverse s).map List.length = (lampO l s).map List.length := by
  cases hp : lampO l s with
  | none =>
    have : lampO l.reverse s = none := (lampO_none (dims_rev hd) hs).2 (by
      obtain ⟨z, hz, h⟩ := (lampO_none hd hs).1 hp
      exact ⟨z, List.mem_reverse.2 hz, h⟩)
    rw [this]
  | some ps =>
    cases hq : lampO l.reverse s with
    | none =>
      have : lampO l s = none := (lampO_none hd hs).2 (by
        obtain ⟨z, hz, h⟩ := (lampO_none (dims_rev hd) hs).1 hq
        exact ⟨z, List.mem_reverse.1 hz, h⟩)
      rw [hp] at this; cases this
    | some qs =>
      have h1 := lampO_half hd hs hp hq
      have h2 := lampO_half (dims_rev hd) hs hq (by rw [List.reverse_reverse]; exact hp)
      simp only [Option.map_some, Option.some.injEq]
      omega
/-- What Lamps answers, by the number of them. -/
def lampsN (ms : List (Int × Int)) (s : Int) : Int × Nat := (lampsE ms s, (lampsL ms s).length)
theorem lampsN_eq {ms : List (Int × Int)} {s : Int} (hv : viB ms = true) : lampsN ms s = if 0 ≤ s ∧ s ≤ 100000 then (match (lampO (mtL ms) s).map List.length with | some n => ((0 : Int), n) | none => ((5 : Int), (0 : Nat))) else ((2 : Int), (0 : Nat)) := by
  unfold lampsN
  by_cases hs : 0 ≤ s ∧ s ≤ 100000
  · rw [if_pos hs]
    have h0 := askedE_ok hv hs
    cases hp : lampO (mtL ms) s with
    | none =>
      have e := lampsE_none h0 hp
      rw [e, ← (lampsL_no e (by decide)).1]; rfl
    | some ps =>
      obtain ⟨e, e1, _⟩ := lampsE_ok h0 hp
      rw [e, e1]; simp
  · rw [if_neg hs]
    have h0 := askedE_arg hv hs
    have e := lampsE_no (ms := ms) (s := s) (by rw [h0]; decide)
    rw [h0] at e
    rw [e, ← (lampsL_no e (by decide)).1]; rfl
theorem lampsN_rev {ms : List (Int × Int)} {s : Int} (hv : viB ms = true) : lampsN ms.reverse s = lampsN ms s := by
  rw [lampsN_eq hv, lampsN_eq (by rw [vi_rev]; exact hv), mt_rev]
  by_cases hs : 0 ≤ s ∧ s ≤ 100000
  · rw [if_pos hs, if_pos hs, lampO_rev (mt_ok hv) hs.1]
  · rw [if_neg hs, if_neg hs]
theorem lampsN_same {ms ns : List (Int × Int)} {s : Int} (hv : viB ms = true) (hn : viB ns = true) (h : mtL ns = mtL ms) : lampsN ns s = lampsN ms s := by
  rw [lampsN_eq hv, lampsN_eq hn, h]

/-! ### plain ice -/
def addP (acc : List (Int × Int)) (m : Int × Int) : List (Int × Int) :=
  match acc.getLast? with
  | some p => if p.2 = m.2 then acc.dropLast ++ [(p.1 + m.1, p.2)] else acc ++ [m]
  | none => acc ++ [m]
def plainF (ms : List (Int × Int)) : List (Int × Int) := ms.foldl addP []
theorem plain_snoc {ms : List (Int × Int)} {k : Nat} {m : Int × Int} (h : ms[k]? = some m) : plainF (ms.take (k + 1)) = addP (plainF (ms.take k)) m := by
  rw [take_snoc h, plainF, List.foldl_append]; rfl
theorem snoc_of {α : Type} {acc : List α} (h : acc ≠ []) : ∃ t p, acc = t ++ [p] := ⟨acc.dropLast, acc.getLast h, (List.dropLast_concat_getLast h).symm⟩
theorem addP_same {t : List (Int × Int)} {p m : Int × Int} (h : p.2 = m.2) : addP (t ++ [p]) m = t ++ [(p.1 + m.1, p.2)] := by
  simp [addP, h]
theorem addP_new {t : List (Int × Int)} {p m : Int × Int} (h : p.2 ≠ m.2) : addP (t ++ [p]) m = t ++ [p] ++ [m] := by
  simp [addP, h]
theorem addP_nil (m : Int × Int) : addP [] m = [m] := rfl
/-- What holds of plain ice as it comes about. -/
structure PlainI (ms acc : List (Int × Int)) : Prop where
  lays : ∀ m ∈ acc, 1 ≤ m.1 ∧ 0 ≤ m.2 ∧ m.2 ≤ 100
  mt : mtL acc = mtL ms
  len : acc.length ≤ ms.length
  last : acc.getLast?.map (·.2) = ms.getLast?.map (·.2)
  next : ∀ (k : Nat) (p q : Int × Int), acc[k]? = some p → acc[k + 1]? = some q → p.2 ≠ q.2
theorem mt_app (a b : List (Int × Int)) : mtL (a ++ b) = mtL a ++ mtL b := by simp [mtL]
theorem rep_add {a b d : Int} (ha : 0 ≤ a) (hb : 0 ≤ b) : List.replicate (a + b).toNat d = List.replicate a.toNat d ++ List.replicate b.toNat d := by
  rw [show (a + b).toNat = a.toNat + b.toNat by omega, List.replicate_append_replicate]
theorem plainI_step {ms acc : List (Int × Int)} {m : Int × Int} (h : PlainI ms acc) (hm : layB m = true) : PlainI (ms ++ [m]) (addP acc m) := by
  simp only [layB, decide_eq_true_eq] at hm
  have e1 : mtL (ms ++ [m]) = mtL ms ++ List.replicate m.1.toNat m.2 := by rw [mt_app]; simp [mtL]
  by_cases hn : acc = []
  · subst hn
    refine ⟨?_, ?_, by simp [addP_nil], by simp [addP_nil], ?_⟩
    · intro x hx; rw [addP_nil] at hx; simp at hx; subst hx; omega
    · rw [e1, ← h.mt, addP_nil]; simp [mtL]
    · intro k p q _ hq; rw [addP_nil] at hq; simp at hq
  · obtain ⟨t, p, rfl⟩ := snoc_of hn
    have hp := h.lays p (by simp)
    have e2 : mtL (t ++ [p]) = mtL t ++ List.replicate p.1.toNat p.2 := by rw [mt_app]; simp [mtL]
    have hl := h.len
    have hnx := h.next
    by_cases he : p.2 = m.2
    · rw [addP_same he]
      refine ⟨?_, ?_, by simp at hl ⊢; omega, by simp [he], ?_⟩
      · intro x hx
        rcases List.mem_append.1 hx with hx | hx
        · exact h.lays x (by simp [hx])
        · simp at hx; subst hx; exact ⟨by simp; omega, hp.2⟩
      · rw [e1, ← h.mt, e2, List.append_assoc, ← he, ← rep_add (by omega) (by omega), mt_app]; simp [mtL]
      · intro k a b ha hb
        have hk := (List.getElem?_eq_some_iff.1 hb).1
        simp at hk
        have ha' : (t ++ [p])[k]? = some a := by
          rw [List.getElem?_append_left (by omega)] at ha ⊢; exact ha
        by_cases hkl : k + 1 < t.length
        · refine hnx k a b ha' ?_
          rw [List.getElem?_append_left hkl] at hb ⊢; exact hb
        · have hb' : (t ++ [p])[k + 1]? = some p := by
            rw [List.getElem?_append_right (by omega), show k + 1 - t.length = 0 by omega]; rfl
          rw [List.getElem?_append_right (by omega), show k + 1 - t.length = 0 by omega] at hb
          simp at hb
          have := hnx k a p ha' hb'
          rw [← hb]; exact this
    · rw [addP_new he]
      refine ⟨?_, ?_, by simp at hl ⊢; omega, by simp, ?_⟩
      · intro x hx
        rcases List.mem_append.1 hx with hx | hx
        · exact h.lays x hx
        · simp at hx; subst hx; omega
      · rw [e1, ← h.mt, mt_app]; simp [mtL]
      · intro k a b ha hb
        have hk := (List.getElem?_eq_some_iff.1 hb).1
        simp at hk
        by_cases hkl : k + 1 < (t ++ [p]).length
        · rw [List.getElem?_append_left hkl] at hb
          rw [List.getElem?_append_left (by omega)] at ha
          exact hnx k a b ha hb
        · simp at hkl
          rw [List.getElem?_append_right (by simp; omega)] at hb
          rw [List.getElem?_append_left (by simp; omega), List.getElem?_append_right (by omega)] at ha
          rw [show k - t.length = 0 by omega] at ha
          rw [show k + 1 - (t ++ [p]).length = 0 by simp; omega] at hb
          simp at ha hb
          rw [← ha, ← hb]; exact he
theorem plainI_nil : PlainI [] [] := ⟨by simp, rfl, Nat.le_refl _, rfl, by simp⟩
theorem plainI_take {ms : List (Int × Int)} (hv : ∀ m ∈ ms, layB m = true) : ∀ k, k ≤ ms.length → PlainI (ms.take k) (plainF (ms.take k))
  | 0, _ => plainI_nil
  | k + 1, hk => by
    obtain ⟨m, hm⟩ := getElem?_of_lt (show k < ms.length by omega)
    rw [plain_snoc hm, take_snoc hm]
    exact plainI_step (plainI_take hv k (by omega)) (hv m (List.mem_of_getElem? hm))
theorem plainI_all {ms : List (Int × Int)} (hv : ∀ m ∈ ms, layB m = true) : PlainI ms (plainF ms) := by
  have := plainI_take hv ms.length (Nat.le_refl _)
  rw [List.take_length] at this; exact this
/-- The first layer, or the last one of the plain ice, and what stands in front. -/
theorem plain_last {ms : List (Int × Int)} {k : Nat} {m : Int × Int} (hv : ∀ m ∈ ms, layB m = true) (h : ms[k]? = some m) : ∃ t p, plainF (ms.take (k + 1)) = t ++ [p] ∧ p.2 = m.2 := by
  have hk := (List.getElem?_eq_some_iff.1 h).1
  have hI := plainI_take hv (k + 1) (by omega)
  have hl := hI.last
  rw [take_snoc h] at hl
  simp only [List.getLast?_append, List.getLast?_singleton, Option.some_or, Option.map_some] at hl
  rw [← take_snoc h] at hl
  have hn : plainF (ms.take (k + 1)) ≠ [] := by intro e; rw [e] at hl; simp at hl
  obtain ⟨t, p, e⟩ := snoc_of hn
  rw [e] at hl
  simp at hl
  exact ⟨t, p, e, hl⟩
/-- Ice is plain. -/
def PlainP (ms : List (Int × Int)) : Prop := ∀ (k : Nat) (p q : Int × Int), ms[k]? = some p → ms[k + 1]? = some q → p.2 ≠ q.2
theorem plain_again {ms : List (Int × Int)} (h : PlainP ms) : plainF ms = ms := by
  have : ∀ k, k ≤ ms.length → plainF (ms.take k) = ms.take k := by
    intro k
    induction k with
    | zero => intro _; rfl
    | succ k ih =>
      intro hk
      obtain ⟨m, hm⟩ := getElem?_of_lt (show k < ms.length by omega)
      rw [plain_snoc hm, ih (by omega), take_snoc hm]
      cases k with
      | zero => simp [addP]
      | succ j =>
        obtain ⟨p, hp⟩ := getElem?_of_lt (show j < ms.length by omega)
        rw [take_snoc hp]
        exact addP_new (h j p m hp hm)
  have := this ms.length (Nat.le_refl _)
  rwa [List.take_length] at this
theorem plain_ok {ms : List (Int × Int)} (hv : viB ms = true) (ht : ∀ m ∈ plainF ms, m.1 ≤ 30) : viB (plainF ms) = true ∧ mtL (plainF ms) = mtL ms ∧ PlainP (plainF ms) ∧ (plainF ms).length ≤ ms.length := by
  have hI := plainI_all (vi_all hv)
  have hn := vi_parts hv
  have h1 : 1 ≤ (plainF ms).length := by
    have := (mt_ok hv).2
    rw [← hI.mt] at this
    rcases Nat.eq_zero_or_pos (plainF ms).length with h | h
    · rw [List.eq_nil_of_length_eq_zero h] at this; simp [mtL] at this
    · exact h
  refine ⟨?_, hI.mt, hI.next, hI.len⟩
  rw [viB, decide_eq_true ⟨h1, by have := hI.len; omega⟩, Bool.true_and, List.all_eq_true]
  intro m hm
  have := hI.lays m hm
  have := ht m hm
  simp [layB]; omega
end Go.Proofs.Ytmndfcjkokolbaa
