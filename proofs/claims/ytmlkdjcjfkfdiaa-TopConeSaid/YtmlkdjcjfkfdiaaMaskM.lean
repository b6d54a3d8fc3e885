/-
  Plain words for the longest layer: the first one of all sets, the greatest first; nothing of the program.
-/
import Derived.Test.YtmlkdjcjfkfdiaaJoined
namespace Go.Proofs.Ytmlkdjcjfkfdiaa
open Go Go.RowKit

/-! ### the longest layer is the first one of the most hits -/
def Lay (ms : List (Int × Int)) (l : List Int) : Prop := ∀ a ∈ l, ∀ b ∈ l, knowI ms a b = false
def LexLe (T R : List Int) : Prop := T = R ∨ ∃ a, a ∉ T ∧ a ∈ R ∧ ∀ b, b < a → (b ∈ T ↔ b ∈ R)
theorem know_irr (ms : List (Int × Int)) (a : Int) : knowI ms a a = false := by simp [knowI, befI, bef_irr]
theorem know_comm (ms : List (Int × Int)) (a b : Int) : knowI ms a b = knowI ms b a := by rw [knowI, knowI, Bool.or_comm]
theorem Lay.tail {ms : List (Int × Int)} {f : Int} {l : List Int} (h : Lay ms (f :: l)) : Lay ms l := fun a ha b hb => h a (by simp [ha]) b (by simp [hb])
theorem lay_cons {ms : List (Int × Int)} {f : Int} {l : List Int} (h : Lay ms l) (hf : ∀ a ∈ l, knowI ms f a = false) : Lay ms (f :: l) := by
  intro a ha b hb
  rcases List.mem_cons.1 ha with e | ha <;> rcases List.mem_cons.1 hb with e2 | hb
  · rw [e, e2]; exact know_irr ms f
  · rw [e]; exact hf b hb
  · rw [e2, know_comm]; exact hf a ha
  · exact h a ha b hb
theorem lex_cons {f : Int} {T R : List Int} (h : LexLe T R) (hR : ∀ a ∈ R, f < a) : LexLe (f :: T) (f :: R) := by
  rcases h with rfl | ⟨a, h1, h2, h3⟩
  · exact .inl rfl
  · refine .inr ⟨a, ?_, by simp [h2], fun b hb => ?_⟩
    · have := hR a h2
      intro hm
      rcases List.mem_cons.1 hm with e | e
      · omega
      · exact h1 e
    · simp [h3 b hb]
theorem strangers_sub (ms : List (Int × Int)) (f : Int) (o : List Int) : (strangersL ms f o).Sublist o := List.filter_sublist
theorem sub_strangers {ms : List (Int × Int)} {f : Int} {T o : List Int} (h : T.Sublist o) (hk : ∀ a ∈ T, knowI ms f a = false) : T.Sublist (strangersL ms f o) := by
  have := h.filter (fun a => !knowI ms f a)
  rwa [List.filter_eq_self.2 (fun a ha => by simp [hk a ha])] at this
theorem long_main (ms : List (Int × Int)) : ∀ (m : Nat) (S : List Int), S.length ≤ m → S.Pairwise (· < ·) →
    (longL ms m S).Sublist S ∧ Lay ms (longL ms m S) ∧ ∀ T : List Int, T.Sublist S → Lay ms T → T.length < (longL ms m S).length ∨ T.length = (longL ms m S).length ∧ LexLe T (longL ms m S)
  | 0, S, h, _ => by
    have : S = [] := List.eq_nil_of_length_eq_zero (by omega)
    subst this
    refine ⟨List.Sublist.refl _, (fun a ha => by cases ha), fun T hT _ => .inr ?_⟩
    have : T = [] := List.sublist_nil.1 hT
    subst this; exact ⟨rfl, .inl rfl⟩
  | m + 1, [], _, _ => by
    refine ⟨List.Sublist.refl _, (fun a ha => by cases ha), fun T hT _ => .inr ?_⟩
    have : T = [] := List.sublist_nil.1 hT
    subst this; exact ⟨rfl, .inl rfl⟩
  | m + 1, f :: o, h, hp => by
    simp only [List.length_cons] at h
    obtain ⟨hlt, hpo⟩ := List.pairwise_cons.1 hp
    have hss := strangers_sub ms f o
    have hsl : (strangersL ms f o).length ≤ m := Nat.le_trans hss.length_le (by omega)
    obtain ⟨a1, a2, a3⟩ := long_main ms m (strangersL ms f o) hsl (hpo.sublist hss)
    obtain ⟨b1, b2, b3⟩ := long_main ms m o (by omega) hpo
    have w1 : (f :: longL ms m (strangersL ms f o)).Sublist (f :: o) := (a1.trans hss).cons_cons f
    have w2 : Lay ms (f :: longL ms m (strangersL ms f o)) := lay_cons a2 fun a ha => by
      have := a1.subset ha
      rw [strangersL, List.mem_filter] at this
      simpa using this.2
    have hgt : ∀ a ∈ longL ms m (strangersL ms f o), f < a := fun a ha => hlt a (hss.subset (a1.subset ha))
    -- what begins with f
    have k1 : ∀ T' : List Int, T'.Sublist o → Lay ms (f :: T') → (f :: T').length < (f :: longL ms m (strangersL ms f o)).length ∨ (f :: T').length = (f :: longL ms m (strangersL ms f o)).length ∧ LexLe (f :: T') (f :: longL ms m (strangersL ms f o)) := by
      intro T' hT hl
      rcases a3 T' (sub_strangers hT fun a ha => hl f (by simp) a (by simp [ha])) hl.tail with h1 | ⟨h1, h2⟩
      · exact .inl (by simp; omega)
      · exact .inr ⟨by simp [h1], lex_cons h2 hgt⟩
    rw [longL]
    split
    · rename_i he
      refine ⟨w1, w2, fun T hT hl => ?_⟩
      cases hT with
      | cons _ hT =>
        have e : strangersL ms f o = o := hss.eq_of_length he
        rcases a3 T (by rw [e]; exact hT) hl with h1 | ⟨h1, _⟩
        · exact .inl (by simp; omega)
        · exact .inl (by simp; omega)
      | cons_cons _ hT => exact k1 _ hT hl
    · split
      · rename_i hw
        refine ⟨b1.cons f, b2, fun T hT hl => ?_⟩
        cases hT with
        | cons _ hT => exact b3 T hT hl
        | cons_cons _ hT =>
          rcases k1 _ hT hl with h1 | ⟨h1, _⟩
          · exact .inl (by omega)
          · exact .inl (by omega)
      · rename_i hw
        refine ⟨w1, w2, fun T hT hl => ?_⟩
        cases hT with
        | cons _ hT =>
          have hf : f ∉ T := fun hm => by have := hlt f (hT.subset hm); omega
          have hbT : ∀ b ∈ T, f < b := fun b hb => hlt b (hT.subset hb)
          have hle : T.length ≤ (longL ms m o).length := by rcases b3 T hT hl with h1 | ⟨h1, _⟩ <;> omega
          by_cases e : T.length = (f :: longL ms m (strangersL ms f o)).length
          · refine .inr ⟨e, .inr ⟨f, hf, by simp, fun b hb => ?_⟩⟩
            constructor
            · intro hm; have := hbT b hm; omega
            · intro hm
              rcases List.mem_cons.1 hm with e2 | e2
              · omega
              · have := hgt b e2; omega
          · exact .inl (by omega)
        | cons_cons _ hT => exact k1 _ hT hl
theorem allL_pair (n : Nat) : (allL n).Pairwise (· < ·) := by
  rw [allL, List.pairwise_map]
  exact List.pairwise_lt_range.imp fun h => by simpa using h

/-! ### sets as numbers -/
def inS (n s : Nat) (a : Int) : Bool := s.testBit (n - 1 - a.toNat)
def setL (n s : Nat) : List Int := (allL n).filter (inS n s)
def maskL (n : Nat) (l : List Int) : Nat := l.foldr (fun a m => 2 ^ (n - 1 - a.toNat) ||| m) 0
theorem mask_bit (n : Nat) (i : Nat) : ∀ l : List Int, (maskL n l).testBit i = l.any fun a => decide (n - 1 - a.toNat = i)
  | [] => by simp [maskL]
  | a :: t => by
    have := mask_bit n i t
    rw [maskL, List.foldr_cons, Nat.testBit_or]
    rw [maskL] at this
    rw [this, List.any_cons, Nat.testBit_two_pow]
theorem mask_in {n : Nat} {l : List Int} (hl : ∀ a ∈ l, 0 ≤ a ∧ a < n) {a : Int} (ha : 0 ≤ a ∧ a < n) : inS n (maskL n l) a = true ↔ a ∈ l := by
  rw [inS, mask_bit, List.any_eq_true]
  constructor
  · rintro ⟨b, hb, e⟩
    simp at e
    have := hl b hb
    have : b = a := by omega
    rw [← this]; exact hb
  · intro h; exact ⟨a, h, by simp⟩
theorem mask_lt {n : Nat} {l : List Int} (hn : 0 < n) : maskL n l < 2 ^ n := by
  refine Nat.lt_pow_two_of_testBit _ fun i hi => ?_
  rw [mask_bit, List.any_eq_false]
  intro a _
  simp; omega
theorem filter_mem_sub {l S : List Int} (h : l.Sublist S) (hn : S.Pairwise (· < ·)) : (S.filter fun a => decide (a ∈ l)) = l := by
  induction h with
  | slnil => rfl
  | cons a h ih =>
    rename_i l1 l2
    obtain ⟨h1, h2⟩ := List.pairwise_cons.1 hn
    have : a ∉ l1 := fun hm => by have := h1 a (h.subset hm); omega
    rw [List.filter_cons_of_neg (by simpa using this)]
    exact ih h2
  | cons_cons a h ih =>
    rename_i l1 l2
    obtain ⟨h1, h2⟩ := List.pairwise_cons.1 hn
    rw [List.filter_cons_of_pos (by simp)]
    congr 1
    rw [← ih h2]
    refine List.filter_congr fun b hb => ?_
    have : b ≠ a := fun e => by have := h1 b hb; omega
    rw [ih h2]
    simp [this]
theorem set_mask {n : Nat} {l : List Int} (h : l.Sublist (allL n)) : setL n (maskL n l) = l := by
  have hl : ∀ a ∈ l, 0 ≤ a ∧ a < n := fun a ha => allL_mem (h.subset ha)
  rw [setL]
  refine Eq.trans (List.filter_congr fun a ha => ?_) (filter_mem_sub h (allL_pair n))
  rw [Bool.eq_iff_iff, mask_in hl (allL_mem ha)]; simp
theorem lt_of_bit {s r i : Nat} (h1 : s.testBit i = false) (h2 : r.testBit i = true) (h3 : ∀ j, i < j → s.testBit j = r.testBit j) : s < r := by
  have e : s / 2 ^ (i + 1) = r / 2 ^ (i + 1) := Nat.eq_of_testBit_eq fun j => by
    rw [Nat.testBit_div_two_pow, Nat.testBit_div_two_pow]; exact h3 _ (by omega)
  have a : s % 2 ^ (i + 1) < 2 ^ i := Nat.lt_pow_two_of_testBit _ fun j hj => by
    rw [Nat.testBit_mod_two_pow]
    by_cases ej : j = i
    · subst ej; simp [h1]
    · simp; omega
  have b : 2 ^ i ≤ r % 2 ^ (i + 1) := Nat.ge_two_pow_of_testBit (by rw [Nat.testBit_mod_two_pow]; simp [h2])
  have ds := Nat.div_add_mod s (2 ^ (i + 1))
  have dr := Nat.div_add_mod r (2 ^ (i + 1))
  rw [e] at ds
  omega
theorem lex_lt {n s r : Nat} (hs : s < 2 ^ n) (hr : r < 2 ^ n) (h : LexLe (setL n s) (setL n r)) : setL n s = setL n r ∨ s < r := by
  rcases h with h | ⟨a, h1, h2, h3⟩
  · exact .inl h
  · rw [setL, List.mem_filter] at h2
    have ha := allL_mem h2.1
    have mem : ∀ (t : Nat) (b : Int), 0 ≤ b ∧ b < n → (b ∈ setL n t ↔ inS n t b = true) := by
      intro t b hb
      rw [setL, List.mem_filter]
      obtain ⟨k, rfl⟩ := Int.eq_ofNat_of_zero_le hb.1
      exact ⟨fun h => h.2, fun h => ⟨List.mem_map.2 ⟨k, List.mem_range.2 (by omega), rfl⟩, h⟩⟩
    refine .inr (lt_of_bit (i := n - 1 - a.toNat) ?_ h2.2 fun j hj => ?_)
    · have := mt (mem s a ha).2 h1
      simpa [inS] using this
    · by_cases hjn : j < n
      · have hb : (0 : Int) ≤ ((n - 1 - j : Nat) : Int) ∧ ((n - 1 - j : Nat) : Int) < n := by omega
        have e := h3 ((n - 1 - j : Nat) : Int) (by omega)
        rw [mem s _ hb, mem r _ hb, inS, inS, Int.toNat_natCast, show n - 1 - (n - 1 - j) = j by omega] at e
        rw [Bool.eq_iff_iff]; exact e
      · rw [Nat.testBit_lt_two_pow (Nat.lt_of_lt_of_le hs (Nat.pow_le_pow_right (by omega) (by omega))), Nat.testBit_lt_two_pow (Nat.lt_of_lt_of_le hr (Nat.pow_le_pow_right (by omega) (by omega)))]
/-- What is known of the best set, those from s on looked at. -/
def BInv (ms : List (Int × Int)) (n s best most : Nat) : Prop :=
  (most = 0 ∧ best = 0 ∧ ∀ t, s ≤ t → t < 2 ^ n → Lay ms (setL n t) → (setL n t).length = 0) ∨
  (0 < most ∧ best < 2 ^ n ∧ Lay ms (setL n best) ∧ (setL n best).length = most ∧ ∀ t, s ≤ t → t < 2 ^ n → Lay ms (setL n t) → (setL n t).length < most ∨ (setL n t).length = most ∧ t ≤ best)
theorem binv_start (ms : List (Int × Int)) (n : Nat) : BInv ms n (2 ^ n) 0 0 := .inl ⟨rfl, rfl, fun t h1 h2 => absurd h1 (by omega)⟩
theorem binv_keep {ms : List (Int × Int)} {n s best most : Nat} (h : BInv ms n (s + 1) best most) (hs : s + 1 ≤ 2 ^ n) (hk : Lay ms (setL n s) → (setL n s).length ≤ most) (hb : 0 < most → s ≤ best) : BInv ms n s best most := by
  rcases h with ⟨rfl, rfl, h⟩ | ⟨h0, h1, h2, h3, h⟩
  · refine .inl ⟨rfl, rfl, fun t ht ht2 hl => ?_⟩
    by_cases e : t = s
    · subst e; have := hk hl; omega
    · exact h t (by omega) ht2 hl
  · refine .inr ⟨h0, h1, h2, h3, fun t ht ht2 hl => ?_⟩
    by_cases e : t = s
    · subst e; have := hk hl; have := hb h0; omega
    · exact h t (by omega) ht2 hl
theorem binv_new {ms : List (Int × Int)} {n s best most : Nat} (h : BInv ms n (s + 1) best most) (hs : s < 2 ^ n) (hl : Lay ms (setL n s)) (hm : most < (setL n s).length) : BInv ms n s s (setL n s).length := by
  refine .inr ⟨by omega, hs, hl, rfl, fun t ht ht2 hl2 => ?_⟩
  by_cases e : t = s
  · subst e; exact .inr ⟨rfl, Nat.le_refl _⟩
  · rcases h with ⟨rfl, rfl, h⟩ | ⟨h0, h1, h2, h3, h⟩
    · have := h t (by omega) ht2 hl2; omega
    · have := h t (by omega) ht2 hl2; omega
theorem binv_end {ms : List (Int × Int)} {best most : Nat} (hn : 1 ≤ ms.length) (h : BInv ms ms.length 1 best most) : setL ms.length best = layerL ms := by
  obtain ⟨r1, r2, r3⟩ := long_main ms ms.length (allL ms.length) (by rw [allL_len]; exact Nat.le_refl _) (allL_pair _)
  have hr := set_mask r1
  have hrl := mask_lt (l := longL ms ms.length (allL ms.length)) (show 0 < ms.length by omega)
  have hpos : 0 < (longL ms ms.length (allL ms.length)).length := by
    have h0 : [(0 : Int)].Sublist (allL ms.length) := by
      rw [List.singleton_sublist]; exact List.mem_map.2 ⟨0, List.mem_range.2 (by omega), rfl⟩
    rcases r3 [0] h0 (fun a ha b hb => by simp at ha hb; subst ha; subst hb; exact know_irr ms 0) with h1 | ⟨h1, _⟩
    · simp at h1; omega
    · simp at h1; omega
  have hr1 : 1 ≤ maskL ms.length (longL ms ms.length (allL ms.length)) := by
    rcases Nat.eq_zero_or_pos (maskL ms.length (longL ms ms.length (allL ms.length))) with e | e
    · rw [e] at hr
      have : setL ms.length 0 = [] := by rw [setL, List.filter_eq_nil_iff]; intro a _; simp [inS]
      rw [this] at hr
      rw [← hr] at hpos; simp at hpos
    · exact e
  show setL ms.length best = longL ms ms.length (allL ms.length)
  rcases h with ⟨_, _, h⟩ | ⟨h0, h1, h2, h3, h⟩
  · have := h _ hr1 hrl (by rw [hr]; exact r2)
    rw [hr] at this; omega
  · have k1 := h _ hr1 hrl (by rw [hr]; exact r2)
    rw [hr] at k1
    have hsub : (setL ms.length best).Sublist (allL ms.length) := List.filter_sublist
    rcases r3 _ hsub h2 with k2 | ⟨k2, k3⟩
    · omega
    · rw [← hr] at k3
      rcases lex_lt h1 hrl k3 with k4 | k4
      · rw [k4, hr]
      · omega
end Go.Proofs.Ytmlkdjcjfkfdiaa
