/-
  Plain words for triggers: how many hits lie within a time, the most, the first trigger; nothing of the program.
-/
import Derived.Test.YticokhiehejljaaSortM
namespace Go.Proofs.Yticokhiehejljaa
open Go Go.RowKit

def inW (t w : Int) (m : Int × Int) : Bool := decide (t ≤ m.2 ∧ m.2 ≤ t + w)
/-- How many hits have times from t to t + w. -/
def cntI (ms : List (Int × Int)) (t w : Int) : Int := ((ms.filter (inW t w)).length : Int)
theorem cnt_zero (ms : List (Int × Int)) (t w : Int) : cntI (ms.take 0) t w = 0 := by simp [cntI]
theorem cnt_yes {ms : List (Int × Int)} {k : Nat} {m : Int × Int} {t w : Int} (h : ms[k]? = some m) (hi : inW t w m = true) : cntI (ms.take (k + 1)) t w = cntI (ms.take k) t w + 1 := by
  rw [cntI, filter_snoc h, hi, if_pos rfl, List.length_append, cntI]; simp
theorem cnt_no {ms : List (Int × Int)} {k : Nat} {m : Int × Int} {t w : Int} (h : ms[k]? = some m) (hi : inW t w m = false) : cntI (ms.take (k + 1)) t w = cntI (ms.take k) t w := by
  rw [cntI, filter_snoc h, hi, cntI]; simp
theorem cnt_bd (ms : List (Int × Int)) (t w : Int) : 0 ≤ cntI ms t w ∧ cntI ms t w ≤ ms.length := by
  have := List.length_filter_le (inW t w) ms
  unfold cntI; omega
theorem cnt_pos {ms : List (Int × Int)} {m : Int × Int} {w : Int} (h : m ∈ ms) (hw : 0 ≤ w) : 1 ≤ cntI ms m.2 w := by
  have hm : m ∈ ms.filter (inW m.2 w) := by rw [List.mem_filter]; exact ⟨h, by simp [inW]; omega⟩
  have := List.length_pos_of_mem hm
  unfold cntI; omega
theorem cnt_more (ms : List (Int × Int)) (t : Int) {w v : Int} (h : w ≤ v) : cntI ms t w ≤ cntI ms t v := by
  have : (ms.filter (inW t w)).length ≤ (ms.filter (inW t v)).length := by
    rw [← List.countP_eq_length_filter, ← List.countP_eq_length_filter]
    exact List.countP_mono_left fun m _ hm => by simp [inW] at hm ⊢; omega
  unfold cntI; omega
theorem hAt_mem {ms : List (Int × Int)} {a : Int} (h : 0 ≤ a ∧ a < ms.length) : hAt ms a ∈ ms := by
  obtain ⟨k, rfl⟩ := Int.eq_ofNat_of_zero_le h.1
  obtain ⟨x, y, e⟩ := getM_of_lt (show k < ms.length by omega)
  rw [hAt_of e]; exact List.mem_of_getElem? e

/-- What is known of the most hits and their first time, some hits looked at. -/
def MInv (ms : List (Int × Int)) (w : Int) (l : List Int) (M t : Int) : Prop :=
  (l = [] → M = 0 ∧ t = 0) ∧ (l ≠ [] → ∃ a ∈ l, cntI ms (timeI ms a) w = M ∧ timeI ms a = t) ∧ ∀ b ∈ l, cntI ms (timeI ms b) w < M ∨ cntI ms (timeI ms b) w = M ∧ t ≤ timeI ms b
theorem minv_nil (ms : List (Int × Int)) (w : Int) : MInv ms w [] 0 0 := ⟨fun _ => ⟨rfl, rfl⟩, fun h => absurd rfl h, fun b hb => by cases hb⟩
theorem minv_new {ms : List (Int × Int)} {w : Int} {l : List Int} {M t z : Int} (h : MInv ms w l M t) (hz : M < cntI ms (timeI ms z) w ∨ cntI ms (timeI ms z) w = M ∧ timeI ms z < t) : MInv ms w (l ++ [z]) (cntI ms (timeI ms z) w) (timeI ms z) := by
  refine ⟨fun e => by simp at e, fun _ => ⟨z, by simp, rfl, rfl⟩, fun b hb => ?_⟩
  rcases List.mem_append.1 hb with hb | hb
  · rcases h.2.2 b hb with h1 | h1 <;> rcases hz with h2 | h2 <;> omega
  · simp at hb; subst hb; exact .inr ⟨rfl, Int.le_refl _⟩
theorem minv_old {ms : List (Int × Int)} {w : Int} {l : List Int} {M t z : Int} (h : MInv ms w l M t) (hp : 1 ≤ cntI ms (timeI ms z) w) (hz : cntI ms (timeI ms z) w < M ∨ cntI ms (timeI ms z) w = M ∧ t ≤ timeI ms z) : MInv ms w (l ++ [z]) M t := by
  have hl : l ≠ [] := fun e => by have := h.1 e; omega
  refine ⟨fun e => by simp at e, fun _ => ?_, fun b hb => ?_⟩
  · obtain ⟨a, ha, h1⟩ := h.2.1 hl
    exact ⟨a, by simp [ha], h1⟩
  · rcases List.mem_append.1 hb with hb | hb
    · exact h.2.2 b hb
    · simp at hb; subst hb; exact hz
theorem minv_sorted {ms : List (Int × Int)} {w : Int} {ys : List Int} {k : Nat} {M t z : Int} (h : MInv ms w (ys.take k) M t) (hs : Srt (timeI ms) ys ys.length) (hz : ys[k]? = some z) (hp : 1 ≤ cntI ms (timeI ms z) w) (hle : ¬ M < cntI ms (timeI ms z) w) : MInv ms w (ys.take (k + 1)) M t := by
  rw [take_snoc hz]
  refine minv_old h hp ?_
  have hl : ys.take k ≠ [] := fun e => by have := h.1 e; omega
  obtain ⟨a, ha, h1, h2⟩ := h.2.1 hl
  obtain ⟨p, hp1, e⟩ := List.mem_iff_getElem.1 ha
  rw [List.getElem_take] at e
  obtain ⟨hk, ez⟩ := List.getElem?_eq_some_iff.1 hz
  simp at hp1
  have := hs p k (by omega) hk
  rw [List.getD_eq_getElem?_getD, List.getElem?_eq_getElem (by omega), List.getD_eq_getElem?_getD, hz] at this
  simp only [Option.getD_some, e] at this
  omega
theorem minv_same {ms : List (Int × Int)} {w : Int} {l l' : List Int} {M t M' t' : Int} (hl : l ≠ []) (hm : ∀ a, a ∈ l ↔ a ∈ l') (h : MInv ms w l M t) (h' : MInv ms w l' M' t') : M = M' ∧ t = t' := by
  have hl' : l' ≠ [] := by
    intro e
    obtain ⟨a, t, rfl⟩ := List.exists_cons_of_ne_nil hl
    have := (hm a).1 (by simp)
    rw [e] at this; cases this
  obtain ⟨a, ha, h1, h2⟩ := h.2.1 hl
  obtain ⟨b, hb, h3, h4⟩ := h'.2.1 hl'
  have k1 := h.2.2 b ((hm b).2 hb)
  have k2 := h'.2.2 a ((hm a).1 ha)
  omega

/-- The first trigger, some hits looked at. -/
def TInv (ms : List (Int × Int)) (n w : Int) (l : List Int) : Prop := ∀ b ∈ l, cntI ms (timeI ms b) w < n
/-- What the first trigger is: its time, or none. -/
def TrigIs (ms : List (Int × Int)) (n w t E : Int) : Prop :=
  (E = 0 ∧ (∃ a ∈ allL ms.length, timeI ms a = t ∧ n ≤ cntI ms t w) ∧ ∀ b ∈ allL ms.length, n ≤ cntI ms (timeI ms b) w → t ≤ timeI ms b) ∨ (E = 5 ∧ t = 0 ∧ ∀ b ∈ allL ms.length, cntI ms (timeI ms b) w < n)
theorem trig_same {ms : List (Int × Int)} {n w t E t' E' : Int} (h : TrigIs ms n w t E) (h' : TrigIs ms n w t' E') : t = t' ∧ E = E' := by
  rcases h with ⟨rfl, ⟨a, ha, rfl, h1⟩, h2⟩ | ⟨rfl, rfl, h2⟩ <;> rcases h' with ⟨rfl, ⟨b, hb, rfl, h3⟩, h4⟩ | ⟨rfl, rfl, h4⟩
  · have k1 := h2 b hb h3
    have k2 := h4 a ha h1
    omega
  · have := h4 a ha; omega
  · have := h2 b hb; omega
  · exact ⟨rfl, rfl⟩
def okW (w : Int) : Bool := decide (0 ≤ w ∧ w ≤ 2000)
def okN (n : Int) : Bool := decide (1 ≤ n ∧ n ≤ 14)
def MostR (ms : List (Int × Int)) (w M t E : Int) : Prop :=
  if vhB ms then (if okW w then E = 0 ∧ MInv ms w (allL ms.length) M t else M = 0 ∧ t = 0 ∧ E = 2) else M = 0 ∧ t = 0 ∧ E = 20
def TrigR (ms : List (Int × Int)) (n w t E : Int) : Prop :=
  if vhB ms then (if okW w && okN n then TrigIs ms n w t E else t = 0 ∧ E = 2) else t = 0 ∧ E = 20
theorem allL_ne {ms : List (Int × Int)} (h : vhB ms = true) : allL ms.length ≠ [] := by
  intro e
  have := allL_len ms.length
  rw [e] at this
  have := vh_parts h
  simp at *; omega
theorem mostR_same {ms : List (Int × Int)} {w M t E M' t' E' : Int} (h : MostR ms w M t E) (h' : MostR ms w M' t' E') : M = M' ∧ t = t' ∧ E = E' := by
  unfold MostR at h h'
  cases hv : vhB ms with
  | true =>
    rw [hv] at h h'
    cases hw : okW w with
    | true =>
      rw [hw] at h h'
      simp only [if_true] at h h'
      obtain ⟨e1, e2⟩ := minv_same (allL_ne hv) (fun _ => Iff.rfl) h.2 h'.2
      exact ⟨e1, e2, h.1.trans h'.1.symm⟩
    | false =>
      rw [hw] at h h'
      simp at h h'
      omega
  | false =>
    rw [hv] at h h'
    simp at h h'
    omega
theorem trigR_same {ms : List (Int × Int)} {n w t E t' E' : Int} (h : TrigR ms n w t E) (h' : TrigR ms n w t' E') : t = t' ∧ E = E' := by
  unfold TrigR at h h'
  cases hv : vhB ms with
  | true =>
    rw [hv] at h h'
    cases hw : (okW w && okN n) with
    | true =>
      rw [hw] at h h'
      simp only [if_true] at h h'
      exact trig_same h h'
    | false =>
      rw [hw] at h h'
      simp at h h'
      omega
  | false =>
    rw [hv] at h h'
    simp at h h'
    omega
end Go.Proofs.Yticokhiehejljaa
