/-
  Plain words: lamps that light the ice.
-/
import Derived.Test.YtmndfcjkokolbaaRefLamps
namespace Go.Proofs.Ytmndfcjkokolbaa
open Go.RowKit Go.Shelf

theorem dn_mono {l : List Int} {f g : Nat} {s : Int} (hd : dimsB l) (hs : 0 ≤ s) (hfg : f ≤ g) (hg : g ≤ l.length) : dnN l f s ≤ dnN l g s := by
  have h1 := dn_bd (l := l) (f := f) (s := s) (by omega)
  have h2 := dn_bd (l := l) (f := g) (s := s) hg
  rcases Nat.lt_or_ge g (dnN l f s) with h | h
  · have h3 := (dn_iff hd hs h1.1 h1.2).1 (Nat.le_refl (dnN l f s))
    rw [loss_le h1.1] at h3
    have h4 := sumN_mono hd.1 hfg
    exact (dn_iff hd hs (by omega) h1.2).2 (by rw [loss_le (by omega)]; omega)
  · omega
theorem up_mono {l : List Int} {f g : Nat} {s : Int} (hd : dimsB l) (hs : 0 ≤ s) (hfg : f ≤ g) (hg : g ≤ l.length) : upN l f s ≤ upN l g s := by
  have h1 := up_bd (l := l) (f := f) (s := s)
  have h2 := up_bd (l := l) (f := g) (s := s)
  rcases Nat.lt_or_ge (upN l g s) f with h | h
  · have h3 := (up_iff hd hs h2 hg).1 (Nat.le_refl (upN l g s))
    rw [loss_ge h2] at h3
    have h4 := sumN_mono hd.1 hfg
    exact (up_iff hd hs (by omega) (by omega)).2 (by rw [loss_ge (by omega)]; omega)
  · omega

/-- Numbers ascend strictly. -/
def ascB : List Int → Bool
  | [] => true
  | [_] => true
  | a :: b :: t => decide (a < b) && ascB (b :: t)
def Asc (ns : List Int) : Prop := ∀ (j : Nat) (a b : Int), ns[j]? = some a → ns[j + 1]? = some b → a < b
theorem ascB_iff : ∀ (ns : List Int), ascB ns = true ↔ Asc ns
  | [] => by simp [ascB, Asc]
  | [a] => by simp [ascB, Asc]
  | a :: b :: t => by
    have ih := ascB_iff (b :: t)
    rw [ascB, Bool.and_eq_true, ih, decide_eq_true_eq]
    constructor
    · rintro ⟨h1, h2⟩ j x y hx hy
      cases j with
      | zero => simp at hx hy; omega
      | succ j => exact h2 j x y (by simpa using hx) (by simpa using hy)
    · intro h
      exact ⟨h 0 a b rfl rfl, fun j x y hx hy => h (j + 1) x y (by simpa using hx) (by simpa using hy)⟩
theorem asc_lt {ns : List Int} (h : Asc ns) : ∀ (d j : Nat) (a b : Int), ns[j]? = some a → ns[j + d + 1]? = some b → a < b
  | 0, j, a, b, ha, hb => h j a b ha hb
  | d + 1, j, a, b, ha, hb => by
    obtain ⟨c, hc⟩ := getElem?_of_lt (show j + d + 1 < ns.length by have := (List.getElem?_eq_some_iff.1 hb).1; omega)
    have h1 := asc_lt h d j a c ha hc
    have h2 := h (j + d + 1) c b hc (by rw [show j + d + 1 + 1 = j + (d + 1) + 1 by omega]; exact hb)
    omega
theorem asc_no {ns : List Int} {j : Nat} {a b : Int} (ha : ns[j]? = some a) (hb : ns[j + 1]? = some b) (h : b ≤ a) : ascB ns = false := by
  cases hc : ascB ns with
  | false => rfl
  | true => have := (ascB_iff ns).1 hc j a b ha hb; omega

def litBy (l : List Int) (s : Int) (ns : List Int) (x : Nat) : Bool := ns.any fun a => decide (upN l a.toNat s ≤ x ∧ x < dnN l a.toNat s)
/-- Lamps light each metre. -/
def litB (l : List Int) (s : Int) (ns : List Int) : Bool := (List.range l.length).all fun x => litBy l s ns x
theorem lit_snoc {l : List Int} {s : Int} {ns : List Int} {k : Nat} {a : Int} (h : ns[k]? = some a) (x : Nat) : litBy l s (ns.take (k + 1)) x = (litBy l s (ns.take k) x || decide (upN l a.toNat s ≤ x ∧ x < dnN l a.toNat s)) := by
  rw [litBy, any_snoc h]; rfl
/-- The lamps so far light just what lies above a metre. -/
def Above (l : List Int) (s : Int) (ns : List Int) (k m : Nat) : Prop := ∀ x, litBy l s (ns.take k) x = decide (x < m)
theorem above_start (l : List Int) (s : Int) (ns : List Int) : Above l s ns 0 0 := fun x => by simp [litBy]
theorem lit_none {l : List Int} {s : Int} {ns : List Int} {x : Nat} (hx : x < l.length) (h : litBy l s ns x = false) : litB l s ns = false := by
  rw [litB, List.all_eq_false]
  exact ⟨x, List.mem_range.2 hx, by simp [h]⟩
theorem lit_split {l : List Int} {s : Int} {ns : List Int} (k x : Nat) : litBy l s ns x = (litBy l s (ns.take k) x || litBy l s (ns.drop k) x) := by
  unfold litBy
  rw [← List.any_append, List.take_append_drop]
/-- A gap stays dark. -/
theorem light_gap {l : List Int} {s : Int} {ns : List Int} {k m : Nat} {a : Int} (hd : dimsB l) (hs : 0 ≤ s) (hasc : Asc ns) (hin : ∀ x ∈ ns, 0 ≤ x ∧ x ≤ l.length) (hA : Above l s ns k m) (h : ns[k]? = some a) (hu : m < upN l a.toNat s) : litB l s ns = false := by
  have ha := hin a (List.mem_of_getElem? h)
  have hub := up_bd (l := l) (f := a.toNat) (s := s)
  refine lit_none (x := m) (by omega) ?_
  rw [lit_split k m, hA m, decide_eq_false (by omega), Bool.false_or, litBy, List.any_eq_false]
  intro b hb
  obtain ⟨j, hj, e⟩ := List.mem_iff_getElem.1 hb
  rw [List.getElem_drop] at e
  rw [List.length_drop] at hj
  have hbj : ns[k + j]? = some b := by rw [List.getElem?_eq_getElem (by omega), e]
  have hb2 := hin b (List.mem_of_getElem? hbj)
  have hab : a ≤ b := by
    cases j with
    | zero => rw [Nat.add_zero, h] at hbj; cases hbj; exact Int.le_refl _
    | succ j => have := asc_lt hasc j k a b h hbj; omega
  have := up_mono hd hs (show a.toNat ≤ b.toNat by omega) (by omega)
  simp; omega
theorem light_go {l : List Int} {s : Int} {ns : List Int} {k m : Nat} {a : Int} (hd : dimsB l) (hs : 0 ≤ s) (hasc : Asc ns) (hin : ∀ x ∈ ns, 0 ≤ x ∧ x ≤ l.length) (hA : Above l s ns k m) (h : ns[k]? = some a) (hu : upN l a.toNat s ≤ m)
    (hm : k = 0 ∧ m = 0 ∨ ∃ b, ns[k - 1]? = some b ∧ 0 < k ∧ m = dnN l b.toNat s) : Above l s ns (k + 1) (dnN l a.toNat s) := by
  have ha := hin a (List.mem_of_getElem? h)
  have hmd : m ≤ dnN l a.toNat s := by
    rcases hm with ⟨_, rfl⟩ | ⟨b, hb, hk, rfl⟩
    · exact Nat.zero_le _
    · have hb2 := hin b (List.mem_of_getElem? hb)
      have := hasc (k - 1) b a hb (by rw [show k - 1 + 1 = k by omega]; exact h)
      exact dn_mono hd hs (by omega) (by omega)
  intro x
  rw [lit_snoc h, hA x, ← Bool.decide_or]
  exact decide_eq_decide.2 (by omega)
theorem light_end {l : List Int} {s : Int} {ns : List Int} {k m : Nat} (hA : Above l s ns k m) (hk : ns.length ≤ k) (hm : m ≤ l.length) : litB l s ns = decide (m = l.length) := by
  rw [Bool.eq_iff_iff, litB, List.all_eq_true, decide_eq_true_eq]
  unfold Above at hA
  rw [List.take_of_length_le hk] at hA
  constructor
  · intro h
    rcases Nat.lt_or_ge m l.length with h1 | h1
    · have := h m (List.mem_range.2 h1)
      rw [hA m] at this
      simp at this
    · omega
  · intro h x hx
    rw [hA x]
    exact decide_eq_true (by have := List.mem_range.1 hx; omega)

/-! ### errors -/
def lightE (ms : List (Int × Int)) (s : Int) (ns : List Int) : Int := if lookByE ms ns s = 0 then (if ascB ns then 0 else 2) else lookByE ms ns s
def lightR (ms : List (Int × Int)) (s : Int) (ns : List Int) : Bool := decide (lightE ms s ns = 0) && (decide (ns.length ≤ 600) && litB (mtL ms) s ns)
theorem lightE_in {ms : List (Int × Int)} {s : Int} {ns : List Int} (h : lightE ms s ns = 0) : lookByE ms ns s = 0 ∧ ascB ns = true := by
  unfold lightE at h
  by_cases h0 : lookByE ms ns s = 0
  · rw [if_pos h0] at h
    cases ha : ascB ns with
    | true => exact ⟨h0, rfl⟩
    | false => rw [ha] at h; simp at h
  · rw [if_neg h0] at h; exact absurd h h0
theorem lookBy_all {ms : List (Int × Int)} {s : Int} {ns : List Int} (h : lookByE ms ns s = 0) : viB ms = true ∧ (∀ x ∈ ns, 0 ≤ x ∧ x ≤ (mtL ms).length) ∧ 0 ≤ s ∧ s ≤ 100000 := by
  have h1 := lookByE_parts h
  have h2 := look_parts h1.1
  refine ⟨h2.1, fun x hx => ?_, h1.2⟩
  have := List.all_eq_true.1 h2.2 x hx
  simpa [inB] using this
theorem lightE_ice {ms : List (Int × Int)} {s : Int} {ns : List Int} (hv : viB ms = false) : lightE ms s ns = 40 := by
  have e : lookE ms ns = 40 := lookE_ice hv
  have e2 : lookByE ms ns s = 40 := by rw [lookByE_no (by rw [e]; decide), e]
  rw [lightE, if_neg (by rw [e2]; decide), e2]
theorem lightE_arg {ms : List (Int × Int)} {s : Int} {ns : List Int} (hv : viB ms = true) (h : lightE ms s ns ≠ 0) : lightE ms s ns = 2 := by
  unfold lightE at *
  by_cases h0 : lookByE ms ns s = 0
  · rw [if_pos h0] at h ⊢
    cases ha : ascB ns with
    | true => rw [ha] at h; simp at h
    | false => rfl
  · rw [if_neg h0]
    unfold lookByE lookE at *
    rw [if_pos hv] at *
    cases hn : ns.all (inB (mtL ms).length) <;> cases hs : inB 100000 s <;> simp [hn, hs] at h0 ⊢
theorem lightE_zero {ms : List (Int × Int)} {s : Int} {ns : List Int} (hv : viB ms = true) (hs : 0 ≤ s ∧ s ≤ 100000) (hn : ns.all (inB (mtL ms).length) = true) (ha : ascB ns = true) : lightE ms s ns = 0 := by
  have e : lookByE ms ns s = 0 := lookByE_ok (lookE_ok hv hn) (by simp [inB]; omega)
  rw [lightE, if_pos e, if_pos ha]
theorem lightR_no {ms : List (Int × Int)} {s : Int} {ns : List Int} (h : lightE ms s ns ≠ 0) : lightR ms s ns = false := by rw [lightR, decide_eq_false h]; rfl
theorem lightR_ok {ms : List (Int × Int)} {s : Int} {ns : List Int} (h : lightE ms s ns = 0) : lightR ms s ns = (decide (ns.length ≤ 600) && litB (mtL ms) s ns) := by rw [lightR, decide_eq_true h]; rfl
end Go.Proofs.Ytmndfcjkokolbaa
