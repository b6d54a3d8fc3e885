/-
  Plain facts: the layers that come about are layers that have each hit just once.
-/
import Derived.Test.YtmlkdjcjfkfdiaaDual
import Derived.Test.YtmlkdjcjfkfdiaaLayers
namespace Go.Proofs.Ytmlkdjcjfkfdiaa
open Go.RowKit Go.Shelf

theorem count_parts (p : Int → Bool) (a : Int) : ∀ l : List Int, (l.filter p).count a + (l.filter fun x => !p x).count a = l.count a
  | [] => rfl
  | x :: l => by
    have := count_parts p a l
    cases h : p x <;> simp [h, List.count_cons] <;> omega
theorem rest_is (ms : List (Int × Int)) (l : List Int) : (l.filter fun a => !(firstOfL ms l).contains a) = l.filter fun a => !(!(l.any fun b => befI ms b a)) := by
  refine List.filter_congr fun a ha => ?_
  congr 1
  rw [Bool.eq_iff_iff, List.contains_iff_mem, firstOfL, List.mem_filter]
  exact ⟨fun h => h.2, fun h => ⟨ha, h⟩⟩
theorem lay_count (ms : List (Int × Int)) (a : Int) : ∀ (m : Nat) (l : List Int), l.length ≤ m → (layR ms m l).flatten.count a = l.count a
  | 0, l, h => by
    obtain rfl : l = [] := List.eq_nil_of_length_eq_zero (by omega)
    rfl
  | m + 1, l, h => by
    by_cases he : l = []
    · subst he
      rw [lay_nil]
      rfl
    · obtain ⟨k, hk, hs⟩ := lay_step (ms := ms) he h
      obtain rfl : k = m := by omega
      have hlt := rest_lt (ms := ms) he
      rw [hs, List.flatten_cons, List.count_append, lay_count ms a k _ (by omega), rest_is]
      exact count_parts _ a l
theorem lay_len (ms : List (Int × Int)) : ∀ (m : Nat) (l : List Int), (layR ms m l).length ≤ m
  | 0, _ => Nat.le_refl _
  | m + 1, l => by
    rw [layR]
    split
    · simp
    · have := lay_len ms m (l.filter fun a => !(firstOfL ms l).contains a)
      simp only [List.length_cons]
      omega
theorem first_lay {ms : List (Int × Int)} {l : List Int} (hn : ms.length ≤ 50) (hne : l ≠ []) (hs : l.Pairwise (· < ·)) (hin : ∀ a ∈ l, a ∈ allL ms.length) : islB ms (firstOfL ms l) = true := by
  have hmem : ∀ a ∈ firstOfL ms l, a ∈ allL ms.length := fun a ha => hin a (List.mem_filter.1 ha).1
  have hsf : (firstOfL ms l).Pairwise (· < ·) := hs.filter _
  have hlen : 1 ≤ (firstOfL ms l).length := by
    obtain ⟨a, _, ha⟩ := first_ne (ms := ms) hne
    exact List.length_pos_of_mem ha
  have hle : (firstOfL ms l).length ≤ 50 := Nat.le_trans (pigeon (hsf.imp fun h => by omega) fun a ha => allL_mem (hmem a ha)) hn
  unfold islB
  rw [Bool.and_eq_true]
  refine ⟨?_, ?_⟩
  · rw [listB, Bool.and_eq_true]
    exact ⟨decide_eq_true ⟨hlen, hle⟩, List.all_eq_true.2 fun a ha => allL_has (hmem a ha)⟩
  · rw [layK, List.all_eq_true]
    intro i hi
    have hi2 := List.mem_range.1 hi
    obtain ⟨b, hb⟩ : ∃ b, (firstOfL ms l)[i]? = some b := ⟨_, List.getElem?_eq_getElem hi2⟩
    rw [List.getD_eq_getElem?_getD, hb, okPre, List.all_eq_true]
    intro a ha
    obtain ⟨j, hj⟩ := List.mem_iff_getElem?.1 ha
    have hji : j < i := by
      have := (List.getElem?_eq_some_iff.1 hj).1
      rw [List.length_take] at this
      omega
    rw [List.getElem?_take_of_lt hji] at hj
    obtain ⟨h1, h2⟩ := List.getElem?_eq_some_iff.1 hj
    obtain ⟨h3, h4⟩ := List.getElem?_eq_some_iff.1 hb
    have hlt := List.pairwise_iff_getElem.1 hsf j i h1 h3 hji
    rw [h2, h4] at hlt
    have ha1 := List.mem_filter.1 (List.mem_of_getElem? hj)
    have hb1 := List.mem_filter.1 (List.mem_of_getElem? hb)
    have hno : ∀ x y : Int, x ∈ l → (!(l.any fun b => befI ms b y)) = true → befI ms x y = false := by
      intro x y hx hy
      rw [Bool.not_eq_true', List.any_eq_false] at hy
      have := hy x hx
      simpa using this
    have e1 := hno a b ha1.1 hb1.2
    have e2 := hno b a hb1.1 ha1.2
    show (decide (a < b) && !knowI ms a b) = true
    rw [knowI, e1, e2, decide_eq_true hlt]
    rfl
theorem lay_all {ms : List (Int × Int)} (hn : ms.length ≤ 50) : ∀ (m : Nat) (l : List Int), l.Pairwise (· < ·) → (∀ a ∈ l, a ∈ allL ms.length) → ∀ L ∈ layR ms m l, islB ms L = true
  | 0, _, _, _, L, hL => by cases hL
  | m + 1, l, hs, hin, L, hL => by
    by_cases he : l = []
    · subst he
      rw [lay_nil] at hL
      cases hL
    · rw [layR, if_neg (by have := List.length_pos_iff.2 he; omega), List.mem_cons] at hL
      rcases hL with rfl | hL
      · exact first_lay hn he hs hin
      · exact lay_all hn m _ (hs.filter _) (fun a ha => hin a (List.mem_filter.1 ha).1) L hL
theorem all_sorted (n : Nat) : (allL n).Pairwise (· < ·) := by
  refine pw_of _ fun i j a b hij ha hb => ?_
  have h1 := (List.getElem?_eq_some_iff.1 ha).1
  have h2 := (List.getElem?_eq_some_iff.1 hb).1
  rw [allL_len] at h1 h2
  rw [allL_get h1] at ha
  rw [allL_get h2] at hb
  cases ha
  cases hb
  omega
theorem ary_layers {ms : List (Int × Int)} (hn : ms.length ≤ 50) : aryB ms (layersL ms) = true := by
  unfold aryB
  rw [Bool.and_eq_true, Bool.and_eq_true]
  refine ⟨decide_eq_true (Nat.le_trans (lay_len ms _ _) hn), List.all_eq_true.2 (lay_all hn _ _ (all_sorted _) fun _ h => h), onceC_iff.2 fun k hk => ?_⟩
  rw [layersL, lay_count ms _ _ _ (by rw [allL_len]; exact Nat.le_refl _)]
  have h1 := nodup_count (allL ms.length) ((all_sorted _).imp fun h => by omega) (k : Int)
  have h2 : 0 < (allL ms.length).count (k : Int) := List.count_pos_iff.2 (List.mem_iff_getElem?.2 ⟨k, allL_get hk⟩)
  omega
end Go.Proofs.Ytmlkdjcjfkfdiaa
