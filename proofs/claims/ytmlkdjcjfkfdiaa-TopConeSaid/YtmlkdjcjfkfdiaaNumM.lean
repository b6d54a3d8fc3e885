/-
  Plain words for numbers of chains from each hit on; nothing of the program.
-/
import Derived.Test.YtmlkdjcjfkfdiaaJoined
namespace Go.Proofs.Ytmlkdjcjfkfdiaa
open Go Go.RowKit

def numF (ms : List (Int × Int)) (J : Int → Int → Int) : Nat → Int → Int
  | 0, _ => 0
  | f + 1, a => 1 + ((afterL ms a).map (numF ms J f)).foldl J 0
def numI (ms : List (Int × Int)) (J : Int → Int → Int) (a : Int) : Int := numF ms J ms.length a
theorem mem_after {ms : List (Int × Int)} {a b : Int} : b ∈ afterL ms a ↔ b ∈ allL ms.length ∧ befI ms a b = true := by rw [afterL, List.mem_filter]
theorem after_has {ms : List (Int × Int)} {a b : Int} (h : b ∈ afterL ms a) : hasB ms b = true := allL_has (mem_after.1 h).1
theorem filter_lt {α : Type} (p q : α → Bool) : ∀ (l : List α), (∀ x ∈ l, p x = true → q x = true) → ∀ x ∈ l, q x = true → p x = false → (l.filter p).length < (l.filter q).length
  | [], _, x, hx, _, _ => by cases hx
  | y :: t, h, x, hx, hq, hp => by
    have hle : ∀ (l : List α), (∀ x ∈ l, p x = true → q x = true) → (l.filter p).length ≤ (l.filter q).length := by
      intro l
      induction l with
      | nil => intro _; exact Nat.le_refl _
      | cons z t ih =>
        intro h
        have := ih fun x hx => h x (by simp [hx])
        cases ep : p z with
        | true => rw [List.filter_cons_of_pos ep, List.filter_cons_of_pos (h z (by simp) ep)]; simpa using this
        | false =>
          rw [List.filter_cons_of_neg (by simp [ep])]
          cases eq : q z with
          | true => rw [List.filter_cons_of_pos eq]; simp; omega
          | false => rw [List.filter_cons_of_neg (by simp [eq])]; exact this
    rcases List.mem_cons.1 hx with e | e
    · subst e
      rw [List.filter_cons_of_neg (by simp [hp]), List.filter_cons_of_pos hq]
      have := hle t fun x hx => h x (by simp [hx])
      simp; omega
    · have := filter_lt p q t (fun x hx => h x (by simp [hx])) x e hq hp
      cases ep : p y with
      | true => rw [List.filter_cons_of_pos ep, List.filter_cons_of_pos (h y (by simp) ep)]; simpa using this
      | false =>
        rw [List.filter_cons_of_neg (by simp [ep])]
        cases eq : q y with
        | true => rw [List.filter_cons_of_pos eq]; simp; omega
        | false => rw [List.filter_cons_of_neg (by simp [eq])]; exact this
theorem after_less {ms : List (Int × Int)} {a b : Int} (h : b ∈ afterL ms a) : (afterL ms b).length < (afterL ms a).length := by
  obtain ⟨h1, h2⟩ := mem_after.1 h
  exact filter_lt _ _ _ (fun x _ hx => bef_trans h2 hx) b h1 h2 (bef_irr _)
theorem after_lt {ms : List (Int × Int)} {a : Int} (ha : a ∈ allL ms.length) : (afterL ms a).length < ms.length := by
  have := filter_lt (fun b => befI ms a b) (fun _ => true) (allL ms.length) (fun _ _ _ => rfl) a ha rfl (bef_irr _)
  have e : (allL ms.length).filter (fun _ => true) = allL ms.length := List.filter_eq_self.2 (fun _ _ => rfl)
  rw [e, allL_len] at this
  exact this
theorem numF_stable (ms : List (Int × Int)) (J : Int → Int → Int) : ∀ (f g : Nat) (a : Int), (afterL ms a).length < f → (afterL ms a).length < g → numF ms J f a = numF ms J g a
  | 0, _, _, h, _ => absurd h (by omega)
  | _, 0, _, _, h => absurd h (by omega)
  | f + 1, g + 1, a, hf, hg => by
    rw [numF, numF]
    congr 2
    refine List.map_congr_left fun b hb => ?_
    have := after_less hb
    exact numF_stable ms J f g b (by omega) (by omega)
theorem numI_eq {ms : List (Int × Int)} {J : Int → Int → Int} {a : Int} (ha : a ∈ allL ms.length) : numI ms J a = 1 + ((afterL ms a).map (numI ms J)).foldl J 0 := by
  have hl := after_lt ha
  rw [numI, numF_stable ms J ms.length (ms.length + 1) a hl (by omega), numF]
  rfl

/-! ### how great they are -/
def Small (J : Int → Int → Int) : Prop := ∀ x y, 0 ≤ x → 0 ≤ y → 0 ≤ J x y ∧ J x y ≤ x + y
theorem small_max : Small max := fun x y hx hy => by
  show 0 ≤ max x y ∧ max x y ≤ x + y
  omega
theorem small_add : Small (fun a b => a + b) := fun x y hx hy => by
  show 0 ≤ x + y ∧ x + y ≤ x + y
  omega
theorem fold_small {J : Int → Int → Int} (hJ : Small J) (M : Int) (hM : 0 ≤ M) : ∀ (l : List Int) (z : Int), 0 ≤ z → (∀ x ∈ l, 0 ≤ x ∧ x ≤ M) → 0 ≤ l.foldl J z ∧ l.foldl J z ≤ z + l.length * M
  | [], z, hz, _ => by simp; exact hz
  | x :: t, z, hz, h => by
    have hx := h x (by simp)
    have h1 := hJ z x hz hx.1
    have h2 := fold_small hJ M hM t (J z x) h1.1 fun y hy => h y (by simp [hy])
    rw [List.foldl_cons]
    refine ⟨h2.1, Int.le_trans h2.2 ?_⟩
    rw [List.length_cons, Int.natCast_add, Int.add_mul]
    omega
theorem numF_small (ms : List (Int × Int)) {J : Int → Int → Int} (hJ : Small J) : ∀ (f : Nat) (a : Int), (afterL ms a).length ≤ 14 → f ≤ 14 → 0 ≤ numF ms J f a ∧ numF ms J f a ≤ 15 ^ f
  | 0, _, _, _ => ⟨Int.le_refl _, by simp [numF]⟩
  | f + 1, a, h, hf => by
    have hM : (0 : Int) ≤ 15 ^ f := Int.pow_nonneg (by omega)
    have h1 : (1 : Int) ≤ 15 ^ f := Int.add_one_le_of_lt (Int.pow_pos (by omega))
    have hm : ∀ x ∈ (afterL ms a).map (numF ms J f), 0 ≤ x ∧ x ≤ 15 ^ f := by
      intro x hx
      obtain ⟨b, hb, rfl⟩ := List.mem_map.1 hx
      exact numF_small ms hJ f b (by have := after_less hb; omega) (by omega)
    have h2 := fold_small hJ (15 ^ f) hM _ 0 (Int.le_refl _) hm
    rw [List.length_map] at h2
    have h3 : ((afterL ms a).length : Int) * 15 ^ f ≤ 14 * 15 ^ f := Int.mul_le_mul_of_nonneg_right (by omega) hM
    rw [numF, Int.pow_succ]
    exact ⟨by omega, by omega⟩
theorem numI_small {ms : List (Int × Int)} {J : Int → Int → Int} (hJ : Small J) (hn : ms.length ≤ 14) {a : Int} : 0 ≤ numI ms J a ∧ numI ms J a ≤ 15 ^ 14 := by
  have hl : (afterL ms a).length ≤ ms.length := Nat.le_trans (List.length_filter_le _ _) (by rw [allL_len]; exact Nat.le_refl _)
  have h := numF_small ms hJ ms.length a (by omega) hn
  have h2 : (15 : Int) ^ ms.length ≤ 15 ^ 14 := by
    have := Nat.pow_le_pow_right (n := 15) (by omega) hn
    exact_mod_cast this
  exact ⟨h.1, Int.le_trans h.2 h2⟩
/-- The join of the first k of those after a hit. -/
def joinK (ms : List (Int × Int)) (J : Int → Int → Int) (l : List Int) : Int := (l.map (numI ms J)).foldl J 0
theorem joinK_nil (ms : List (Int × Int)) (J : Int → Int → Int) : joinK ms J [] = 0 := rfl
theorem joinK_snoc (ms : List (Int × Int)) (J : Int → Int → Int) (l : List Int) (b : Int) : joinK ms J (l ++ [b]) = J (joinK ms J l) (numI ms J b) := by simp [joinK]
theorem joinK_small {ms : List (Int × Int)} {J : Int → Int → Int} (hJ : Small J) (hn : ms.length ≤ 14) {l : List Int} (hl : l.length ≤ 14) : 0 ≤ joinK ms J l ∧ joinK ms J l ≤ 14 * 15 ^ 14 := by
  have h := fold_small hJ (15 ^ 14) (by decide) (l.map (numI ms J)) 0 (Int.le_refl _) fun x hx => by
    obtain ⟨b, _, rfl⟩ := List.mem_map.1 hx
    exact numI_small hJ hn
  rw [List.length_map] at h
  have h3 : (l.length : Int) * 15 ^ 14 ≤ 14 * 15 ^ 14 := Int.mul_le_mul_of_nonneg_right (by omega) (by decide)
  exact ⟨h.1, by rw [joinK]; omega⟩
theorem after_len14 {ms : List (Int × Int)} (hn : ms.length ≤ 14) (a : Int) : (afterL ms a).length ≤ 14 :=
  Nat.le_trans (Nat.le_trans (List.length_filter_le _ _) (by rw [allL_len]; exact Nat.le_refl _)) hn
end Go.Proofs.Ytmlkdjcjfkfdiaa
