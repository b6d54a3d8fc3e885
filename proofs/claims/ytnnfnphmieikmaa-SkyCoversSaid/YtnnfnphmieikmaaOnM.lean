/-
  Plain: what stands on a ring, laid pixel by pixel; nothing of the program.
-/
import Derived.Test.YtnnfnphmieikmaaSkyM
import Derived.Test.YtnnfnphmieikmaaPlain
namespace Go.Proofs.Ytnnfnphmieikmaa
open Go

def onL (k r : Nat) : List Int := (List.range (lenN k r)).map fun q => ((TT k (bef k (r - 1) + q) : Nat) : Int)
theorem onL_len (k r : Nat) : (onL k r).length = lenN k r := by simp [onL]
/-- A list in which all pixels of a ring for which D holds stand at their places. -/
def InvO (k r : Nat) (D : Nat → Prop) (xs : List Int) : Prop := xs.length = lenN k r ∧ ∀ p, p < pxN k → RT k p = r → D p → xs[PT k p - 1]? = some (p : Int)
theorem invO_start (k r : Nat) {D : Nat → Prop} (h : ∀ p, p < pxN k → RT k p = r → ¬ D p) : InvO k r D (List.replicate (lenN k r) 0) :=
  ⟨by simp, fun p h1 h2 h3 => absurd h3 (h p h1 h2)⟩
theorem same_place {k p q : Nat} (hk : k < 5) (hp : p < pxN k) (hq : q < pxN k) (hr : RT k p = RT k q) (hP : PT k p = PT k q) : p = q := by
  have a := (fact_of hk hp).t
  have b := (fact_of hk hq).t
  rw [← a, ← b, NT, NT, hr, hP]
theorem invO_step {k r p0 : Nat} {D D' : Nat → Prop} {xs : List Int} (hk : k < 5) (h : InvO k r D xs) (h0 : p0 < pxN k) (hr0 : RT k p0 = r) (hD : ∀ p, p < pxN k → RT k p = r → D' p → D p ∨ p = p0) :
    InvO k r D' (xs.set (PT k p0 - 1) (p0 : Int)) := by
  refine ⟨by rw [List.length_set]; exact h.1, fun p hp hr hd => ?_⟩
  have F0 := fact_of hk h0
  have F := fact_of hk hp
  rw [List.getElem?_set]
  by_cases e : p = p0
  · subst e
    rw [if_pos rfl, if_pos (by have := F.p1; have := F.p2; have := h.1; rw [hr] at *; omega)]
  · rw [if_neg]
    · exact h.2 p hp hr ((hD p hp hr hd).resolve_right e)
    · intro hh
      have a1 := F0.p1
      have a2 := F.p1
      exact e (same_place hk hp h0 (hr.trans hr0.symm) (by omega))
theorem invO_keep {k r : Nat} {D D' : Nat → Prop} {xs : List Int} (h : InvO k r D xs) (hD : ∀ p, p < pxN k → RT k p = r → D' p → D p) : InvO k r D' xs :=
  ⟨h.1, fun p hp hr hd => h.2 p hp hr (hD p hp hr hd)⟩
theorem invO_end {k r : Nat} {D : Nat → Prop} {xs : List Int} (hk : k < 5) (h1 : 1 ≤ r) (h2 : r ≤ 4 * 2 ^ k - 1) (h : InvO k r D xs) (hD : ∀ p, p < pxN k → RT k p = r → D p) : xs = onL k r := by
  refine List.ext_getElem? fun q => ?_
  by_cases hq : q < lenN k r
  · obtain ⟨a1, a2, a3⟩ := at_of hk h1 h2 hq
    have := h.2 _ a1 a2 (hD _ a1 a2)
    rw [a3] at this
    simp only [Nat.add_sub_cancel] at this
    rw [this, onL, List.getElem?_map, List.getElem?_range hq]; rfl
  · rw [List.getElem?_eq_none (by rw [h.1]; omega), List.getElem?_eq_none (by rw [onL_len]; omega)]
theorem onL_get {k r q : Nat} (hq : q < lenN k r) : (onL k r)[q]? = some ((TT k (bef k (r - 1) + q) : Nat) : Int) := by
  rw [onL, List.getElem?_map, List.getElem?_range hq]; rfl

/-- What stands on the ring in the rows before the row x of the face f. -/
def DoneO (k f x : Nat) (p : Nat) : Prop := fB k p < f ∨ fB k p = f ∧ xB k p < x
theorem done_start (k p : Nat) : ¬ DoneO k 0 0 p := by simp [DoneO]
theorem done_face {k f p : Nat} (hk : k < 5) (hp : p < pxN k) (h : DoneO k (f + 1) 0 p) : DoneO k f (2 ^ k) p := by
  have := (fact_of hk hp).x
  simp only [DoneO] at *; omega
theorem done_all {k p : Nat} (hk : k < 5) (hp : p < pxN k) : DoneO k 12 0 p := .inl (fact_of hk hp).f
theorem ring_y {k p : Nat} (hk : k < 5) (hp : p < pxN k) : ringI k (fB k p) (xB k p) 0 - (RT k p : Nat) = (yB k p : Nat) := by
  have := (fact_of hk hp).ring
  unfold ringI at *; omega
/-- A row that the ring does not meet. -/
theorem done_none {k f x r : Nat} (hk : k < 5) (h : ringI k f x 0 - (r : Int) < 0 ∨ 2 ^ k ≤ ringI k f x 0 - (r : Int)) (p : Nat) (hp : p < pxN k) (hr : RT k p = r) (hd : DoneO k f (x + 1) p) : DoneO k f x p := by
  rcases hd with hd | ⟨h1, h2⟩
  · exact .inl hd
  · refine .inr ⟨h1, ?_⟩
    rcases Nat.lt_or_ge (xB k p) x with h3 | h3
    · exact h3
    · obtain rfl : xB k p = x := by omega
      subst h1
      have a := ring_y hk hp
      have b := (fact_of hk hp).y
      have c : ((2 ^ k : Nat) : Int) = (2 : Int) ^ k := by simp
      rw [hr] at a
      rw [a] at h
      omega
/-- The pixel at which the ring meets a row. -/
theorem done_one {k f x y r : Nat} (hk : k < 5) (hf : f < 12) (hx : x < 2 ^ k) (hy : y < 2 ^ k) (h : ringI k f x 0 - (r : Int) = y) :
    f * 2 ^ (2 * k) + bI k x y < pxN k ∧ RT k (f * 2 ^ (2 * k) + bI k x y) = r ∧ placeI k f x y = (PT k (f * 2 ^ (2 * k) + bI k x y) : Nat) ∧
      ∀ p, p < pxN k → RT k p = r → DoneO k f (x + 1) p → DoneO k f x p ∨ p = f * 2 ^ (2 * k) + bI k x y := by
  obtain ⟨s1, s2, s3, s4⟩ := spot_of hk hf hx hy
  have F := fact_of hk s1
  have a := F.ring
  have b := F.place
  rw [s2, s3, s4] at a b
  refine ⟨s1, ?_, b, fun p hp hr hd => ?_⟩
  · unfold ringI at *; omega
  · rcases hd with hd | ⟨h1, h2⟩
    · exact .inl (.inl hd)
    · rcases Nat.lt_or_ge (xB k p) x with h3 | h3
      · exact .inl (.inr ⟨h1, h3⟩)
      · obtain rfl : xB k p = x := by omega
        subst h1
        refine .inr ?_
        have c := ring_y hk hp
        rw [hr, h] at c
        obtain rfl : y = yB k p := by omega
        exact (fact_of hk hp).nest.symm
end Go.Proofs.Ytnnfnphmieikmaa
