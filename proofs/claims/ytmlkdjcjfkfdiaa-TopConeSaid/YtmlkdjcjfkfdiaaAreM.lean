/-
  Plain facts: lists that have each hit just once, told by counts, or by no number twice and as many numbers as hits.
-/
import Derived.Test.YtmlkdjcjfkfdiaaIsLayers
import Derived.Test.YtmlkdjcjfkfdiaaTables
namespace Go.Proofs.Ytmlkdjcjfkfdiaa
open Go.RowKit Go.Shelf

def onceC (n : Nat) (F : List Int) : Bool := (allL n).all fun a => decide (F.count a = 1)
def aryB (ms : List (Int × Int)) (T : List (List Int)) : Bool := decide (T.length ≤ 50) && (T.all (islB ms) && onceC ms.length T.flatten)
def aryF (ms : List (Int × Int)) (T : List (List Int)) : Bool := vhB ms && aryB ms T
theorem aryF_yes {ms : List (Int × Int)} {T : List (List Int)} (h : vhB ms = true) : aryF ms T = aryB ms T := by simp [aryF, h]
theorem aryF_no {ms : List (Int × Int)} {T : List (List Int)} (h : vhB ms = false) : aryF ms T = false := by simp [aryF, h]
def sumC : Nat → List Int → Nat
  | 0, _ => 0
  | n + 1, F => sumC n F + F.count (n : Int)
theorem sumC_nil : ∀ n, sumC n [] = 0
  | 0 => rfl
  | n + 1 => by rw [sumC, sumC_nil n]; rfl
theorem sumC_cons (x : Int) (F : List Int) : ∀ n, sumC n (x :: F) = sumC n F + if 0 ≤ x ∧ x < n then 1 else 0
  | 0 => by
    rw [if_neg (show ¬ (0 ≤ x ∧ x < ((0 : Nat) : Int)) by omega)]
    rfl
  | n + 1 => by
    rw [sumC, sumC_cons x F n, sumC, List.count_cons]
    by_cases h1 : x = (n : Int)
    · subst h1
      rw [if_neg (show ¬ (0 ≤ (n : Int) ∧ (n : Int) < (n : Int)) by omega), if_pos (show 0 ≤ (n : Int) ∧ (n : Int) < ((n + 1 : Nat) : Int) by omega), if_pos (by simp)]
      omega
    · have h2 : (x == (n : Int)) = false := by simpa using h1
      rw [h2]
      by_cases h3 : 0 ≤ x ∧ x < n
      · rw [if_pos h3, if_pos (show 0 ≤ x ∧ x < ((n + 1 : Nat) : Int) by omega), if_neg (by simp)]
        omega
      · rw [if_neg h3, if_neg (show ¬ (0 ≤ x ∧ x < ((n + 1 : Nat) : Int)) by omega), if_neg (by simp)]
        omega
theorem sum_len {n : Nat} : ∀ F : List Int, (∀ x ∈ F, 0 ≤ x ∧ x < n) → sumC n F = F.length
  | [], _ => sumC_nil n
  | x :: F, h => by rw [sumC_cons, sum_len F (fun y hy => h y (List.mem_cons_of_mem _ hy)), if_pos (h x (by simp)), List.length_cons]
theorem sum_ones {F : List Int} : ∀ n, (∀ k : Nat, k < n → F.count (k : Int) = 1) → sumC n F = n
  | 0, _ => rfl
  | n + 1, h => by rw [sumC, sum_ones n (fun k hk => h k (by omega)), h n (by omega)]
theorem sum_le {F : List Int} (h : ∀ a, F.count a ≤ 1) : ∀ n, sumC n F ≤ n ∧ (sumC n F = n → ∀ k : Nat, k < n → F.count (k : Int) = 1)
  | 0 => ⟨Nat.le_refl _, fun _ k hk => by omega⟩
  | n + 1 => by
    obtain ⟨h1, h2⟩ := sum_le h n
    have h3 := h (n : Int)
    rw [sumC]
    refine ⟨by omega, fun e k hk => ?_⟩
    rcases Nat.lt_or_ge k n with h4 | h4
    · exact h2 (by omega) k h4
    · obtain rfl : k = n := by omega
      omega
theorem nodup_count : ∀ F : List Int, F.Nodup → ∀ a, F.count a ≤ 1
  | [], _, a => by simp
  | x :: F, h, a => by
    have h1 := List.nodup_cons.1 h
    have h2 := nodup_count F h1.2 a
    rw [List.count_cons]
    by_cases e : x = a
    · subst e
      rw [List.count_eq_zero.2 h1.1]
      simp
    · have : (x == a) = false := by simpa using e
      rw [this]
      simpa using h2
theorem onceC_iff {n : Nat} {F : List Int} : onceC n F = true ↔ ∀ k : Nat, k < n → F.count (k : Int) = 1 := by
  rw [onceC, List.all_eq_true]
  constructor
  · intro h k hk
    exact of_decide_eq_true (h k (List.mem_iff_getElem?.2 ⟨k, allL_get hk⟩))
  · intro h a ha
    obtain ⟨h0, h1⟩ := allL_mem ha
    obtain ⟨k, rfl⟩ := Int.eq_ofNat_of_zero_le h0
    exact decide_eq_true (h k (by omega))
/-- No number twice: each hit just once if there are as many numbers as hits. -/
theorem once_len {n : Nat} {F : List Int} (hin : ∀ x ∈ F, 0 ≤ x ∧ x < n) (hnd : F.Nodup) : decide (F.length = n) = onceC n F := by
  rw [Bool.eq_iff_iff, onceC_iff, decide_eq_true_iff]
  have h1 := sum_len F hin
  constructor
  · intro h
    exact (sum_le (nodup_count F hnd) n).2 (by omega)
  · intro h
    have := sum_ones n h
    omega
theorem once_dup {n : Nat} {G R : List Int} {x : Int} (h : x ∈ G) (hx : 0 ≤ x ∧ x < n) : onceC n (G ++ x :: R) = false := by
  rw [Bool.eq_false_iff]
  intro e
  obtain ⟨k, rfl⟩ := Int.eq_ofNat_of_zero_le hx.1
  have h1 := onceC_iff.1 e k (by omega)
  have h2 := List.count_pos_iff.2 h
  rw [List.count_append, List.count_cons_self] at h1
  omega
theorem isl_in {ms : List (Int × Int)} {l : List Int} (h : islB ms l = true) : l.length ≤ 50 ∧ ∀ x ∈ l, 0 ≤ x ∧ x < ms.length := by
  unfold islB at h
  rw [Bool.and_eq_true] at h
  obtain ⟨h1, h2⟩ := listB_parts h.1
  refine ⟨h1.2, fun x hx => ?_⟩
  have := List.all_eq_true.1 h2 x hx
  simpa [hasB] using this
theorem flat_take {T : List (List Int)} {k : Nat} {l : List Int} (h : T[k]? = some l) : (T.take (k + 1)).flatten = (T.take k).flatten ++ l := by
  rw [take_snoc h, List.flatten_append]; simp
theorem flat_split {T : List (List Int)} {k k2 : Nat} {l : List Int} {x : Int} (h : T[k]? = some l) (hx : l[k2]? = some x) : ∃ R, T.flatten = ((T.take k).flatten ++ l.take k2) ++ x :: R := by
  have e1 : T = T.take k ++ l :: T.drop (k + 1) := by
    conv => lhs; rw [← List.take_append_drop k T]
    obtain ⟨h1, h2⟩ := List.getElem?_eq_some_iff.1 h
    rw [List.drop_eq_getElem_cons h1, h2]
  have e2 : l = l.take k2 ++ x :: l.drop (k2 + 1) := by
    conv => lhs; rw [← List.take_append_drop k2 l]
    obtain ⟨h1, h2⟩ := List.getElem?_eq_some_iff.1 hx
    rw [List.drop_eq_getElem_cons h1, h2]
  refine ⟨l.drop (k2 + 1) ++ (T.drop (k + 1)).flatten, ?_⟩
  conv => lhs; rw [e1, List.flatten_append, List.flatten_cons, e2]
  simp
theorem ary_many {ms : List (Int × Int)} {T : List (List Int)} (h : 50 < T.length) : false = aryB ms T := by
  rw [aryB, decide_eq_false (by omega)]; rfl
theorem ary_bad {ms : List (Int × Int)} {T : List (List Int)} {k : Nat} {l : List Int} (h : T[k]? = some l) (hb : islB ms l = false) : false = aryB ms T := by
  have : T.all (islB ms) = false := by
    rw [Bool.eq_false_iff]
    intro e
    have := List.all_eq_true.1 e l (List.mem_of_getElem? h)
    rw [hb] at this
    cases this
  rw [aryB, this]; simp
theorem ary_twice {ms : List (Int × Int)} {T : List (List Int)} {k k2 : Nat} {l : List Int} {x : Int} (h : T[k]? = some l) (hx : l[k2]? = some x) (hb : islB ms l = true) (hm : x ∈ (T.take k).flatten ++ l.take k2) : false = aryB ms T := by
  obtain ⟨R, e⟩ := flat_split h hx
  rw [aryB, e, once_dup hm ((isl_in hb).2 x (List.mem_of_getElem? hx))]; simp
theorem all_take {ms : List (Int × Int)} {T : List (List Int)} {k : Nat} {l : List Int} (h : T[k]? = some l) (ha : ∀ z ∈ T.take k, islB ms z = true) (hb : islB ms l = true) : ∀ z ∈ T.take (k + 1), islB ms z = true := by
  intro z hz
  rw [take_snoc h, List.mem_append, List.mem_singleton] at hz
  rcases hz with hz | rfl
  · exact ha z hz
  · exact hb
theorem flat_in {ms : List (Int × Int)} {T : List (List Int)} (ha : ∀ z ∈ T, islB ms z = true) : ∀ x ∈ T.flatten, 0 ≤ x ∧ x < ms.length := by
  intro x hx
  obtain ⟨l, hl, hxl⟩ := List.mem_flatten.1 hx
  exact (isl_in (ha l hl)).2 x hxl
theorem ary_yes {ms : List (Int × Int)} {T : List (List Int)} (h50 : T.length ≤ 50) (ha : ∀ z ∈ T, islB ms z = true) : onceC ms.length T.flatten = aryB ms T := by
  rw [aryB, decide_eq_true h50, List.all_eq_true.2 ha]; rfl
theorem nodup_next {F : List Int} {x : Int} (h : F.Nodup) (hx : x ∉ F) : (F ++ [x]).Nodup := by
  rw [List.nodup_append]
  exact ⟨h, by simp, fun a ha b hb => by simp at hb; subst hb; rintro rfl; exact hx ha⟩
end Go.Proofs.Ytmlkdjcjfkfdiaa
