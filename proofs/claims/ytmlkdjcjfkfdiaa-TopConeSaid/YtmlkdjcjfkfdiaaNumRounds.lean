/-
  Numbers of chains, found by rounds in place; nothing of the program.
-/
import Derived.Test.YtmlkdjcjfkfdiaaNumStep
namespace Go.Proofs.Ytmlkdjcjfkfdiaa
open Go Go.RowKit

def Mono (J : Int → Int → Int) : Prop := ∀ x y x' y', 0 ≤ x → 0 ≤ y → x ≤ x' → y ≤ y' → 0 ≤ J x y ∧ J x y ≤ J x' y'
theorem mono_max : Mono max := fun x y x' y' h1 h2 h3 h4 => by
  show 0 ≤ max x y ∧ max x y ≤ max x' y'
  omega
theorem mono_add : Mono (fun a b => a + b) := fun x y x' y' h1 h2 h3 h4 => by
  show 0 ≤ x + y ∧ x + y ≤ x' + y'
  omega
theorem fold_mono {J : Int → Int → Int} (hJ : Mono J) {α : Type} (f g : α → Int) : ∀ (l : List α) (x y : Int), 0 ≤ x → x ≤ y → (∀ a ∈ l, 0 ≤ f a ∧ f a ≤ g a) → (l.map f).foldl J x ≤ (l.map g).foldl J y
  | [], _, _, _, h, _ => h
  | a :: t, x, y, hx, h, hf => by
    have h1 := hf a (by simp)
    have h2 := hJ x (f a) y (g a) hx h1.1 h h1.2
    exact fold_mono hJ f g t _ _ h2.1 h2.2 fun b hb => hf b (by simp [hb])
/-- The hits below b that a hit is before. -/
def aftB (ms : List (Int × Int)) (a : Int) (b : Nat) : List Int := (allL b).filter fun c => befI ms a c
theorem aftB_all (ms : List (Int × Int)) (a : Int) : aftB ms a ms.length = afterL ms a := rfl
theorem aftB_zero (ms : List (Int × Int)) (a : Int) : aftB ms a 0 = [] := rfl
theorem aftB_yes {ms : List (Int × Int)} {a : Int} {b : Nat} (h : befI ms a b = true) : aftB ms a (b + 1) = aftB ms a b ++ [(b : Int)] := by
  rw [aftB, allL_succ, List.filter_append]; simp [aftB, h]
theorem aftB_no {ms : List (Int × Int)} {a : Int} {b : Nat} (h : befI ms a b = false) : aftB ms a (b + 1) = aftB ms a b := by
  rw [aftB, allL_succ, List.filter_append]; simp [aftB, h]
theorem aftB_len (ms : List (Int × Int)) (a : Int) (b : Nat) : (aftB ms a b).length ≤ b := Nat.le_trans (List.length_filter_le _ _) (by rw [allL_len]; exact Nat.le_refl _)
theorem jX_app (J : Int → Int → Int) (xs l : List Int) (b : Int) : jX J xs (l ++ [b]) = J (jX J xs l) (xs.getD b.toNat 0) := by
  rw [jX, List.map_append, List.foldl_append]; rfl
structure InvK (ms : List (Int × Int)) (J : Int → Int → Int) (r k : Nat) (xs : List Int) : Prop where
  len : xs.length = ms.length
  box : ∀ a, a < ms.length → 0 ≤ xs.getD a 0 ∧ xs.getD a 0 ≤ numI ms J a
  done : ∀ a, a < ms.length → (afterL ms a).length < r + (if a < k then 1 else 0) → xs.getD a 0 = numI ms J a
theorem invK_start (ms : List (Int × Int)) {J : Int → Int → Int} (hJ : Small J) (hn : ms.length ≤ 14) : InvK ms J 0 0 (List.replicate ms.length 0) :=
  ⟨by simp, fun a ha => by
    rw [List.getD_eq_getElem?_getD, List.getElem?_replicate, if_pos ha]
    exact ⟨Int.le_refl _, (numI_small hJ hn).1⟩, fun a _ h => by simp at h⟩
theorem invK_next {ms : List (Int × Int)} {J : Int → Int → Int} {r : Nat} {xs : List Int} (h : InvK ms J r ms.length xs) : InvK ms J (r + 1) 0 xs :=
  ⟨h.len, h.box, fun a ha h2 => h.done a ha (by rw [if_pos ha]; simpa using h2)⟩
theorem set_getD {xs : List Int} {k a : Nat} {v : Int} (hk : k < xs.length) : (xs.set k v).getD a 0 = if a = k then v else xs.getD a 0 := by
  by_cases e : a = k
  · subst e; rw [if_pos rfl, List.getD_eq_getElem?_getD, List.getElem?_set_self hk]; rfl
  · rw [if_neg e, List.getD_eq_getElem?_getD, List.getElem?_set_ne (by omega), ← List.getD_eq_getElem?_getD]
theorem invK_step {ms : List (Int × Int)} {J : Int → Int → Int} {r k : Nat} {xs : List Int} (hm : Mono J) (hk : k < ms.length) (h : InvK ms J r k xs) : InvK ms J r (k + 1) (xs.set k (1 + jX J xs (afterL ms k))) := by
  have hka : ((k : Nat) : Int) ∈ allL ms.length := List.mem_map.2 ⟨k, List.mem_range.2 hk, rfl⟩
  have hn := numI_eq (J := J) hka
  have hb : ∀ b ∈ afterL ms k, ∃ j : Nat, b = (j : Int) ∧ j < ms.length := fun b hb => by
    have := allL_mem (mem_after.1 hb).1
    exact ⟨b.toNat, by omega, by omega⟩
  have hf : ∀ b ∈ afterL ms k, 0 ≤ xs.getD b.toNat 0 ∧ xs.getD b.toNat 0 ≤ numI ms J b := fun b hbm => by
    obtain ⟨j, rfl, hj⟩ := hb b hbm
    exact h.box j hj
  have h0 : 0 ≤ jX J xs (afterL ms k) := by
    have := fold_mono hm (fun _ : Int => (0 : Int)) (fun b => xs.getD b.toNat 0) (afterL ms k) 0 0 (Int.le_refl _) (Int.le_refl _) fun b hbm => ⟨Int.le_refl _, (hf b hbm).1⟩
    refine Int.le_trans ?_ this
    have : ∀ l : List Int, ∀ z, 0 ≤ z → 0 ≤ (l.map fun _ => (0 : Int)).foldl J z := by
      intro l
      induction l with
      | nil => intro z hz; exact hz
      | cons a t ih => intro z hz; exact ih _ (hm z 0 z 0 hz (Int.le_refl _) (Int.le_refl _) (Int.le_refl _)).1
    exact this _ 0 (Int.le_refl _)
  have h1 : jX J xs (afterL ms k) ≤ numI ms J k - 1 := by
    have := fold_mono hm (fun b : Int => xs.getD b.toNat 0) (numI ms J) (afterL ms k) 0 0 (Int.le_refl _) (Int.le_refl _) hf
    rw [jX]; omega
  have hkl : k < xs.length := by rw [h.len]; exact hk
  refine ⟨by rw [List.length_set]; exact h.len, fun a ha => ?_, fun a ha hl => ?_⟩
  · rw [set_getD hkl]
    split
    · rename_i e; subst e; omega
    · exact h.box a ha
  · rw [set_getD hkl]
    split
    · rename_i e; subst e
      rw [hn, jX]
      congr 2
      refine List.map_congr_left fun b hbm => ?_
      obtain ⟨j, rfl, hj⟩ := hb b hbm
      have := after_less hbm
      exact h.done j hj (by rw [if_pos (by omega)] at hl; omega)
    · rename_i e
      refine h.done a ha (Nat.lt_of_lt_of_le hl ?_)
      by_cases e2 : a < k
      · rw [if_pos e2, if_pos (by omega)]; exact Nat.le_refl _
      · rw [if_neg e2, if_neg (by omega)]; exact Nat.le_refl _
theorem invK_end {ms : List (Int × Int)} {J : Int → Int → Int} {xs : List Int} (h : InvK ms J ms.length 0 xs) : xs = (allL ms.length).map (numI ms J) := by
  refine List.ext_getElem (by rw [h.len, List.length_map, allL_len]) fun j h1 h2 => ?_
  have hj : j < ms.length := by rw [← h.len]; exact h1
  have := h.done j hj (by
    have := after_lt (ms := ms) (a := (j : Int)) (List.mem_map.2 ⟨j, List.mem_range.2 hj, rfl⟩)
    simpa using this)
  rw [List.getD_eq_getElem?_getD, List.getElem?_eq_getElem h1] at this
  rw [List.getElem_map]
  simp only [allL, List.getElem_map, List.getElem_range]
  exact this
theorem invK_small {ms : List (Int × Int)} {J : Int → Int → Int} (hJ : Small J) (hn : ms.length ≤ 14) {r k : Nat} {xs : List Int} (h : InvK ms J r k xs) : ∀ x ∈ xs, 0 ≤ x ∧ x ≤ 15 ^ 14 := by
  intro x hx
  obtain ⟨j, hj, rfl⟩ := List.getElem_of_mem hx
  have := h.box j (by rw [← h.len]; exact hj)
  rw [List.getD_eq_getElem?_getD, List.getElem?_eq_getElem hj] at this
  exact ⟨this.1, Int.le_trans this.2 (numI_small hJ hn).2⟩
end Go.Proofs.Ytmlkdjcjfkfdiaa
