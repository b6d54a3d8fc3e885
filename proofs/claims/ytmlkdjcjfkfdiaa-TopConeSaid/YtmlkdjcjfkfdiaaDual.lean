/-
  Plain facts: what two of a chain, two of a layer are to one another; no list of hits of which no two lie in one part is longer than there are parts.
-/
import Derived.Test.YtmlkdjcjfkfdiaaAreT
namespace Go.Proofs.Ytmlkdjcjfkfdiaa
open Go.RowKit Go.Shelf

theorem pw_of {R : Int → Int → Prop} : ∀ l : List Int, (∀ (i j : Nat) (a b : Int), i < j → l[i]? = some a → l[j]? = some b → R a b) → l.Pairwise R
  | [], _ => List.Pairwise.nil
  | x :: l, h => by
    refine List.pairwise_cons.2 ⟨fun y hy => ?_, pw_of l fun i j a b hij ha hb => h (i + 1) (j + 1) a b (by omega) (by simpa using ha) (by simpa using hb)⟩
    obtain ⟨k, hk⟩ := List.mem_iff_getElem?.1 hy
    exact h 0 (k + 1) x y (by omega) rfl (by simpa using hk)
theorem lay_pw {ms : List (Int × Int)} {l : List Int} (h : islB ms l = true) : l.Pairwise fun a b => a < b ∧ knowI ms a b = false := by
  unfold islB at h
  rw [Bool.and_eq_true] at h
  refine pw_of l fun i j a b hij ha hb => ?_
  have hj := (List.getElem?_eq_some_iff.1 hb).1
  have h1 := layK_at h.2 hj
  rw [okPre, List.all_eq_true, List.getD_eq_getElem?_getD, hb] at h1
  have h2 := h1 a (List.mem_of_getElem? (by rw [List.getElem?_take_of_lt hij]; exact ha))
  simpa using h2
theorem lay_nodup {ms : List (Int × Int)} {l : List Int} (h : islB ms l = true) : l.Nodup := (lay_pw h).imp fun h => by omega
theorem lay_two {ms : List (Int × Int)} {l : List Int} (h : islB ms l = true) {a b : Int} (ha : a ∈ l) (hb : b ∈ l) (hk : knowI ms a b = true) : a = b := by
  obtain ⟨i, hi⟩ := List.mem_iff_getElem?.1 ha
  obtain ⟨j, hj⟩ := List.mem_iff_getElem?.1 hb
  have hp := List.pairwise_iff_getElem.1 (lay_pw h)
  obtain ⟨hi1, hi2⟩ := List.getElem?_eq_some_iff.1 hi
  obtain ⟨hj1, hj2⟩ := List.getElem?_eq_some_iff.1 hj
  rcases Nat.lt_trichotomy i j with h1 | h1 | h1
  · have := (hp i j hi1 hj1 h1).2
    rw [hi2, hj2, hk] at this
    cases this
  · subst h1
    exact hi2.symm.trans hj2
  · have := (hp j i hj1 hi1 h1).2
    rw [hi2, hj2, knowI_comm, hk] at this
    cases this
theorem befI_trans2 {ms : List (Int × Int)} {a b c : Int} (h : befI ms a b = true) (k : befI ms b c = true) : befI ms a c = true := bef_trans h k
theorem ch_far {ms : List (Int × Int)} {l : List Int} {n : Nat} (h : chK ms l n = true) : ∀ d i, i + d + 1 ≤ n → befI ms (l.getD i 0) (l.getD (i + d + 1) 0) = true
  | 0, i, hi => List.all_eq_true.1 h i (List.mem_range.2 (by omega))
  | d + 1, i, hi => befI_trans2 (ch_far h d i (by omega)) (List.all_eq_true.1 h (i + d + 1) (List.mem_range.2 (by omega)))
theorem ch_pw {ms : List (Int × Int)} {l : List Int} (h : ischB ms l = true) : l.Pairwise fun a b => befI ms a b = true := by
  unfold ischB at h
  rw [Bool.and_eq_true] at h
  refine pw_of l fun i j a b hij ha hb => ?_
  have hj := (List.getElem?_eq_some_iff.1 hb).1
  have := ch_far h.2 (j - i - 1) i (by omega)
  rw [show i + (j - i - 1) + 1 = j by omega, List.getD_eq_getElem?_getD, List.getD_eq_getElem?_getD, ha, hb] at this
  exact this
theorem befI_irr2 {ms : List (Int × Int)} {a : Int} : befI ms a a = false := by
  unfold befI bef
  exact decide_eq_false (by omega)
theorem ch_nodup {ms : List (Int × Int)} {l : List Int} (h : ischB ms l = true) : l.Nodup := (ch_pw h).imp fun h => by rintro rfl; rw [befI_irr2] at h; cases h
theorem ch_two {ms : List (Int × Int)} {l : List Int} (h : ischB ms l = true) {a b : Int} (ha : a ∈ l) (hb : b ∈ l) (hk : knowI ms a b = false) : a = b := by
  obtain ⟨i, hi⟩ := List.mem_iff_getElem?.1 ha
  obtain ⟨j, hj⟩ := List.mem_iff_getElem?.1 hb
  have hp := List.pairwise_iff_getElem.1 (ch_pw h)
  obtain ⟨hi1, hi2⟩ := List.getElem?_eq_some_iff.1 hi
  obtain ⟨hj1, hj2⟩ := List.getElem?_eq_some_iff.1 hj
  rw [knowI, Bool.or_eq_false_iff] at hk
  rcases Nat.lt_trichotomy i j with h1 | h1 | h1
  · have := hp i j hi1 hj1 h1
    rw [hi2, hj2, hk.1] at this
    cases this
  · subst h1
    exact hi2.symm.trans hj2
  · have := hp j i hj1 hi1 h1
    rw [hi2, hj2, hk.2] at this
    cases this
theorem pigeon {n : Nat} {F : List Int} (hnd : F.Nodup) (hin : ∀ x ∈ F, 0 ≤ x ∧ x < n) : F.length ≤ n := by
  have h1 := sum_len F hin
  have h2 := (sum_le (nodup_count F hnd) n).1
  omega
/-- In which part a hit is. -/
def inPart (T : List (List Int)) (a : Int) : Nat := T.findIdx fun L => L.contains a
theorem part_at {T : List (List Int)} {a : Int} (h : a ∈ T.flatten) : ∃ L, T[inPart T a]? = some L ∧ a ∈ L := by
  obtain ⟨L, hL, ha⟩ := List.mem_flatten.1 h
  have hlt : inPart T a < T.length := List.findIdx_lt_length_of_exists ⟨L, hL, List.contains_iff_mem.2 ha⟩
  refine ⟨T[inPart T a], List.getElem?_eq_getElem hlt, ?_⟩
  have := List.findIdx_getElem (w := hlt)
  exact List.contains_iff_mem.1 this
theorem dual_le {X : List Int} {T : List (List Int)} (hnd : X.Nodup) (hin : ∀ x ∈ X, x ∈ T.flatten) (hone : ∀ L ∈ T, ∀ a ∈ L, ∀ b ∈ L, a ∈ X → b ∈ X → a = b) : X.length ≤ T.length := by
  have h := pigeon (n := T.length) (F := X.map fun a => (inPart T a : Int)) ?_ ?_
  · simpa using h
  · refine List.pairwise_map.2 (List.Pairwise.imp_of_mem (fun {a b} ha hb hne e => hne ?_) hnd)
    obtain ⟨L, hL, h1⟩ := part_at (hin a ha)
    obtain ⟨M, hM, h2⟩ := part_at (hin b hb)
    have e2 : inPart T a = inPart T b := by omega
    rw [← e2, hL] at hM
    cases hM
    exact hone L (List.mem_of_getElem? hL) a h1 b h2 ha hb
  · intro x hx
    obtain ⟨a, ha, rfl⟩ := List.mem_map.1 hx
    obtain ⟨L, hL, _⟩ := part_at (hin a ha)
    have := (List.getElem?_eq_some_iff.1 hL).1
    omega
theorem once_mem {n : Nat} {F : List Int} (h : onceC n F = true) {a : Int} (ha : 0 ≤ a ∧ a < n) : a ∈ F := by
  obtain ⟨k, rfl⟩ := Int.eq_ofNat_of_zero_le ha.1
  have := onceC_iff.1 h k (by omega)
  exact List.count_pos_iff.1 (by omega)
theorem ary_parts {ms : List (Int × Int)} {T : List (List Int)} (h : aryB ms T = true) : (∀ L ∈ T, islB ms L = true) ∧ onceC ms.length T.flatten = true := by
  unfold aryB at h
  rw [Bool.and_eq_true, Bool.and_eq_true] at h
  exact ⟨List.all_eq_true.1 h.2.1, h.2.2⟩
theorem thy_parts {ms : List (Int × Int)} {T : List (List Int)} (h : thyB ms T = true) : (∀ L ∈ T, ischB ms L = true) ∧ onceC ms.length T.flatten = true := by
  unfold thyB at h
  rw [Bool.and_eq_true, Bool.and_eq_true] at h
  exact ⟨List.all_eq_true.1 h.2.1, h.2.2⟩
/-- No layer has more hits than there are threads. -/
theorem lay_thy {ms : List (Int × Int)} {l : List Int} {T : List (List Int)} (h : islB ms l = true) (k : thyB ms T = true) : l.length ≤ T.length := by
  obtain ⟨k1, k2⟩ := thy_parts k
  refine dual_le (lay_nodup h) (fun x hx => once_mem k2 ((isl_in h).2 x hx)) fun L hL a ha b hb hal hbl => ?_
  cases hk : knowI ms a b with
  | true => exact lay_two h hal hbl hk
  | false => exact ch_two (k1 L hL) ha hb hk
/-- No chain has more hits than there are layers. -/
theorem ch_ary {ms : List (Int × Int)} {l : List Int} {T : List (List Int)} (h : ischB ms l = true) (k : aryB ms T = true) : l.length ≤ T.length := by
  obtain ⟨k1, k2⟩ := ary_parts k
  refine dual_le (ch_nodup h) (fun x hx => once_mem k2 ((isc_in h).2 x hx)) fun L hL a ha b hb hal hbl => ?_
  cases hk : knowI ms a b with
  | true => exact lay_two (k1 L hL) ha hb hk
  | false => exact ch_two h hal hbl hk
end Go.Proofs.Ytmlkdjcjfkfdiaa
