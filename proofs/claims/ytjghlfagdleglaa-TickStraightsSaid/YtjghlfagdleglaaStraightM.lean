/-
  Plain arithmetic of a clock without needless marks (for TickStraights): it is straight no more, and it goes as the clock does.
-/
import Derived.Test.YtjghlfagdleglaaApartM2
import Derived.Test.YtjghlfagdleglaaStraight
namespace Go.Proofs.Ytjghlfagdleglaa
open Go.RowKit

def St (M : List (Int × Int)) : Prop := ∀ j, j + 2 < M.length → spdL M j ≠ spdL M (j + 1)
def onL (M : List (Int × Int)) (j : Nat) (m : Int × Int) : Prop := (m.2 - (mA M j).2) * spD M j = (m.1 - (mA M j).1) * spN M j
theorem onL_0 (M : List (Int × Int)) (j : Nat) : onL M j (mA M j) := by rw [onL, Int.sub_self, Int.sub_self, Int.zero_mul, Int.zero_mul]
theorem onL_1 (M : List (Int × Int)) (j : Nat) : onL M j (mA M (j + 1)) := by rw [onL, spD, spN]; exact Int.mul_comm _ _
theorem lines_eq {ms M : List (Int × Int)} {i j : Nat} (h1 : onL M j (mA ms i)) (h2 : onL M j (mA ms (i + 1))) (x : Int) : gG ms M i j x = 0 := by
  rw [onL] at h1 h2
  rw [gG, lnN, lnN]
  have e1 : spN ms i = (mA ms (i + 1)).2 - (mA ms i).2 := rfl
  have e2 : spD ms i = (mA ms (i + 1)).1 - (mA ms i).1 := rfl
  rw [e1, e2]
  generalize (mA ms (i + 1)).1 = q1 at *
  generalize (mA ms (i + 1)).2 = q2 at *
  generalize (mA ms i).1 = p1 at *
  generalize (mA ms i).2 = p2 at *
  generalize spN M j = Y at *
  generalize spD M j = X at *
  generalize (mA M j).1 = a1 at *
  generalize (mA M j).2 = a2 at *
  grind
theorem low_inv {n d n' d' : Int} (h1 : lowN n d = lowN n' d') (h2 : lowD n d = lowD n' d') : n * d' = n' * d := by
  obtain ⟨m1, m2⟩ := low_mulg (n := n) (d := d)
  obtain ⟨m3, m4⟩ := low_mulg (n := n') (d := d')
  rw [h1] at m1
  rw [h2] at m2
  generalize (Int.gcd n d : Int) = g at *
  generalize (Int.gcd n' d' : Int) = f at *
  generalize lowN n' d' = u at *
  generalize lowD n' d' = v at *
  subst m1 m2 m3 m4
  grind
theorem mA_app1 {L : List (Int × Int)} {m : Int × Int} {j : Nat} (h : j < L.length) : mA (L ++ [m]) j = mA L j := by
  rw [mA, mA, List.getD_eq_getElem?_getD, List.getD_eq_getElem?_getD, List.getElem?_append_left h]
theorem mA_app2 {L : List (Int × Int)} {m : Int × Int} : mA (L ++ [m]) L.length = m := by
  rw [mA, List.getD_eq_getElem?_getD]; simp
theorem asc_build : ∀ (M : List (Int × Int)) (o : Option (Int × Int)), (∀ j, j < M.length → okM (mA M j) = true) → (∀ j, j + 1 < M.length → (mA M j).1 < (mA M (j + 1)).1 ∧ (mA M j).2 < (mA M (j + 1)).2) →
    (∀ p, o = some p → 0 < M.length → p.1 < (mA M 0).1 ∧ p.2 < (mA M 0).2) → ascFrom o M = true
  | [], o, _, _, _ => by cases o <;> rfl
  | m :: t, o, h1, h2, h3 => by
    have ht : ascFrom (some m) t = true := asc_build t (some m) (fun j hj => h1 (j + 1) (by simp; omega)) (fun j hj => h2 (j + 1) (by simp; omega))
      (fun p hp hl => by cases hp; exact h2 0 (by simp; omega))
    have hm := h1 0 (by simp)
    have hm' : okM m = true := hm
    cases o with
    | none => rw [ascFrom, hm', ht]; rfl
    | some p =>
      have := h3 p rfl (by simp)
      have h4 : p.1 < m.1 ∧ p.2 < m.2 := this
      rw [ascFrom, hm', ht, decide_eq_true h4]; rfl
theorem spd_congr {M N : List (Int × Int)} {i j : Nat} (h1 : mA M i = mA N j) (h2 : mA M (i + 1) = mA N (j + 1)) : spN M i = spN N j ∧ spD M i = spD N j ∧ spdL M i = spdL N j := by
  have e1 : spN M i = spN N j := by rw [spN, spN, h1, h2]
  have e2 : spD M i = spD N j := by rw [spD, spD, h1, h2]
  exact ⟨e1, e2, by rw [spdL, spdL, e1, e2]⟩
theorem onL_congr {M N : List (Int × Int)} {i j : Nat} {m : Int × Int} (h1 : mA M i = mA N j) (h2 : mA M (i + 1) = mA N (j + 1)) (h : onL M i m) : onL N j m := by
  obtain ⟨e1, e2, _⟩ := spd_congr h1 h2
  rw [onL, ← e1, ← e2, ← h1]; exact h
/-- What is known of the marks kept so far, with the next one behind them. -/
structure Kept (ms : List (Int × Int)) (k : Nat) (M : List (Int × Int)) : Prop where
  len : 2 ≤ M.length ∧ M.length ≤ k + 2
  first : mA M 0 = mA ms 0
  last : mA M (M.length - 1) = mA ms (k + 1)
  asc : ∀ j, j + 1 < M.length → (mA M j).1 < (mA M (j + 1)).1 ∧ (mA M j).2 < (mA M (j + 1)).2
  rng : ∀ j, j < M.length → okM (mA M j) = true
  speed : spdL M (M.length - 2) = spdL ms k
  str : St M
  cov : ∀ i, i ≤ k → ∃ j, j + 1 < M.length ∧ (mA M j).1 ≤ (mA ms i).1 ∧ (mA ms (i + 1)).1 ≤ (mA M (j + 1)).1 ∧ onL M j (mA ms i) ∧ onL M j (mA ms (i + 1)) ∧ (i = 0 → j = 0) ∧ (i = k → j = M.length - 2)
theorem okM_at {ms : List (Int × Int)} {k : Nat} (hv : vkB ms = true) (hk : k < ms.length) : okM (mA ms k) = true := by
  have := mA_bd hv hk
  rw [okM, tickB, tickB, decide_eq_true this.1, decide_eq_true this.2]; rfl
theorem kept_base {ms : List (Int × Int)} (hv : vkB ms = true) : Kept ms 0 ([mA ms 0] ++ [mA ms 1]) := by
  have hn := (vk_parts hv).1
  have e0 : mA ([mA ms 0] ++ [mA ms 1]) 0 = mA ms 0 := rfl
  have e1 : mA ([mA ms 0] ++ [mA ms 1]) (0 + 1) = mA ms (0 + 1) := rfl
  refine ⟨by simp, rfl, rfl, ?_, ?_, ?_, ?_, ?_⟩
  · intro j hj
    have : j = 0 := by simp at hj; omega
    subst this
    exact asc_mono hv (show 0 < 0 + 1 by omega) (by omega)
  · intro j hj
    simp at hj
    rcases (show j = 0 ∨ j = 1 by omega) with rfl | rfl
    · exact okM_at (ms := ms) (k := 0) hv (by omega)
    · exact okM_at (ms := ms) (k := 1) hv (by omega)
  · exact (spd_congr e0 e1).2.2
  · intro j hj; simp at hj; omega
  · intro i hi
    obtain rfl : i = 0 := by omega
    exact ⟨0, by simp, Int.le_refl _, Int.le_refl _, onL_0 _ _, onL_1 _ _, fun _ => rfl, fun _ => rfl⟩
theorem kept_more {ms M : List (Int × Int)} {k : Nat} (hv : vkB ms = true) (hk : k + 2 < ms.length) (h : Kept ms k M) (hne : spdL ms k ≠ spdL ms (k + 1)) : Kept ms (k + 1) (M ++ [mA ms (k + 1 + 1)]) := by
  obtain ⟨⟨l2, lk⟩, hf, hl, ha, hr, hs, hst, hc⟩ := h
  have hlen : (M ++ [mA ms (k + 1 + 1)]).length = M.length + 1 := by simp
  have old : ∀ j, j < M.length → mA (M ++ [mA ms (k + 1 + 1)]) j = mA M j := fun j hj => mA_app1 hj
  have new : mA (M ++ [mA ms (k + 1 + 1)]) M.length = mA ms (k + 1 + 1) := mA_app2
  have hlast : mA (M ++ [mA ms (k + 1 + 1)]) (M.length - 1) = mA ms (k + 1) := by rw [old _ (by omega)]; exact hl
  have hlast2 : mA (M ++ [mA ms (k + 1 + 1)]) (M.length - 1 + 1) = mA ms (k + 1 + 1) := by rw [show M.length - 1 + 1 = M.length by omega]; exact new
  have hm := asc_mono hv (show k + 1 < k + 1 + 1 by omega) (by omega)
  have hsp : spdL (M ++ [mA ms (k + 1 + 1)]) (M.length - 1) = spdL ms (k + 1) := (spd_congr hlast hlast2).2.2
  refine ⟨by omega, by rw [old 0 (by omega)]; exact hf, by rw [hlen, Nat.add_sub_cancel]; exact new, ?_, ?_, by rw [hlen]; exact hsp, ?_, ?_⟩
  · intro j hj
    rcases Nat.lt_or_ge (j + 1) M.length with h1 | h1
    · rw [old j (by omega), old (j + 1) h1]; exact ha j h1
    · obtain rfl : j = M.length - 1 := by omega
      rw [hlast, hlast2]; exact hm
  · intro j hj
    rcases Nat.lt_or_ge j M.length with h1 | h1
    · rw [old j h1]; exact hr j h1
    · obtain rfl : j = M.length := by omega
      rw [new]; exact okM_at hv (by omega)
  · intro j hj
    rw [hlen] at hj
    rcases Nat.lt_or_ge (j + 2) M.length with h1 | h1
    · rw [(spd_congr (N := M) (old j (by omega)) (old (j + 1) (by omega))).2.2, (spd_congr (N := M) (old (j + 1) (by omega)) (old (j + 1 + 1) (by omega))).2.2]
      exact hst j h1
    · have e : j + 1 = M.length - 1 := by omega
      rw [e, hsp, (spd_congr (N := M) (old j (by omega)) (old (j + 1) (by omega))).2.2, show j = M.length - 2 by omega, hs]
      exact hne
  · intro i hi
    rcases Nat.lt_or_ge i (k + 1) with h1 | h1
    · obtain ⟨j, j1, j2, j3, j4, j5, j6, j7⟩ := hc i (by omega)
      refine ⟨j, by omega, by rw [old j (by omega)]; exact j2, by rw [old (j + 1) j1]; exact j3, ?_, ?_, j6, fun h => by omega⟩
      · exact onL_congr (old j (by omega)).symm (old (j + 1) j1).symm j4
      · exact onL_congr (old j (by omega)).symm (old (j + 1) j1).symm j5
    · obtain rfl : i = k + 1 := by omega
      refine ⟨M.length - 1, by omega, by rw [hlast]; exact Int.le_refl _, by rw [hlast2]; exact Int.le_refl _, ?_, ?_, fun h => by omega, fun _ => by omega⟩
      · have := onL_0 (M ++ [mA ms (k + 1 + 1)]) (M.length - 1)
        rw [hlast] at this; exact this
      · have := onL_1 (M ++ [mA ms (k + 1 + 1)]) (M.length - 1)
        rw [hlast2] at this; exact this
theorem onL_longer {p1 p2 m1 m2 N1 D1 N2 D2 : Int} (hD : 0 < D1) (hc : N1 * D2 = N2 * D1) (h : (m2 - p2) * D1 = (m1 - p1) * N1) : (m2 - p2) * (D1 + D2) = (m1 - p1) * (N1 + N2) := by
  refine Int.eq_of_mul_eq_mul_right (show D1 ≠ 0 by omega) ?_
  grind
theorem kept_less {ms L : List (Int × Int)} {k : Nat} (hv : vkB ms = true) (hk : k + 2 < ms.length) (hL : 0 < L.length) (h : Kept ms k (L ++ [mA ms (k + 1)])) (he : spdL ms k = spdL ms (k + 1)) : Kept ms (k + 1) (L ++ [mA ms (k + 1 + 1)]) := by
  obtain ⟨⟨l2, lk⟩, hf, hl, ha, hr, hs, hst, hc⟩ := h
  have hlenM : (L ++ [mA ms (k + 1)]).length = L.length + 1 := by simp
  have hlen : (L ++ [mA ms (k + 1 + 1)]).length = L.length + 1 := by simp
  rw [hlenM] at l2 lk hl hs
  rw [show L.length + 1 - 2 = L.length - 1 by omega] at hs
  have oldM : ∀ j, j < L.length → mA (L ++ [mA ms (k + 1)]) j = mA L j := fun j hj => mA_app1 hj
  have newM : mA (L ++ [mA ms (k + 1)]) (L.length - 1 + 1) = mA ms (k + 1) := by rw [show L.length - 1 + 1 = L.length by omega]; exact mA_app2
  have old : ∀ j, j < L.length → mA (L ++ [mA ms (k + 1 + 1)]) j = mA L j := fun j hj => mA_app1 hj
  have new : mA (L ++ [mA ms (k + 1 + 1)]) (L.length - 1 + 1) = mA ms (k + 1 + 1) := by rw [show L.length - 1 + 1 = L.length by omega]; exact mA_app2
  have same : ∀ j, j < L.length → mA (L ++ [mA ms (k + 1 + 1)]) j = mA (L ++ [mA ms (k + 1)]) j := fun j hj => (old j hj).trans (oldM j hj).symm
  have hm := asc_mono hv (show k + 1 < k + 1 + 1 by omega) (by omega)
  have hal := ha (L.length - 1) (by omega)
  rw [newM] at hal
  -- the last line: its start, the mark that goes, the new end
  have sN : spN (L ++ [mA ms (k + 1)]) (L.length - 1) = (mA ms (k + 1)).2 - (mA L (L.length - 1)).2 := by rw [spN, newM, oldM _ (by omega)]
  have sD : spD (L ++ [mA ms (k + 1)]) (L.length - 1) = (mA ms (k + 1)).1 - (mA L (L.length - 1)).1 := by rw [spD, newM, oldM _ (by omega)]
  have tN' : spN (L ++ [mA ms (k + 1 + 1)]) (L.length - 1) = spN (L ++ [mA ms (k + 1)]) (L.length - 1) + spN ms (k + 1) := by rw [sN, spN, spN, new, old _ (by omega)]; omega
  have tD' : spD (L ++ [mA ms (k + 1 + 1)]) (L.length - 1) = spD (L ++ [mA ms (k + 1)]) (L.length - 1) + spD ms (k + 1) := by rw [sD, spD, spD, new, old _ (by omega)]; omega
  have hD1 : 0 < spD (L ++ [mA ms (k + 1)]) (L.length - 1) := by rw [sD]; rw [oldM _ (by omega)] at hal; omega
  have hD2 := (spD_pos hv (show k + 1 + 1 < ms.length by omega)).1
  have hcr : spN (L ++ [mA ms (k + 1)]) (L.length - 1) * spD ms (k + 1) = spN ms (k + 1) * spD (L ++ [mA ms (k + 1)]) (L.length - 1) := by
    have := hs.trans he
    rw [spdL, spdL] at this
    injection this with h1 h2
    exact low_inv h1 h2
  have hsp : spdL (L ++ [mA ms (k + 1 + 1)]) (L.length - 1) = spdL ms (k + 1) := by
    have := low_cross (n := spN (L ++ [mA ms (k + 1 + 1)]) (L.length - 1)) (d := spD (L ++ [mA ms (k + 1 + 1)]) (L.length - 1)) (n' := spN ms (k + 1)) (d' := spD ms (k + 1)) (by rw [tD']; omega) hD2 (by rw [tN', tD']; grind)
    rw [spdL, spdL, this.1, this.2]
  have hon : ∀ m, onL (L ++ [mA ms (k + 1)]) (L.length - 1) m → onL (L ++ [mA ms (k + 1 + 1)]) (L.length - 1) m := by
    intro m hm'
    rw [onL] at hm' ⊢
    rw [tN', tD', same _ (by omega)]
    exact onL_longer hD1 hcr hm'
  refine ⟨by omega, by rw [same 0 hL]; exact hf, by rw [hlen, Nat.add_sub_cancel]; exact mA_app2, ?_, ?_, by rw [hlen]; exact hsp, ?_, ?_⟩
  · intro j hj
    rw [hlen] at hj
    rcases Nat.lt_or_ge (j + 1) L.length with h1 | h1
    · rw [same j (by omega), same (j + 1) h1]; exact ha j (by omega)
    · obtain rfl : j = L.length - 1 := by omega
      rw [new, same _ (by omega)]; omega
  · intro j hj
    rw [hlen] at hj
    rcases Nat.lt_or_ge j L.length with h1 | h1
    · rw [same j h1]; exact hr j (by omega)
    · obtain rfl : j = L.length := by omega
      rw [mA_app2]; exact okM_at hv (by omega)
  · intro j hj
    rw [hlen] at hj
    have hold := hst j (by omega)
    rcases Nat.lt_or_ge (j + 2) L.length with h1 | h1
    · rw [(spd_congr (same j (by omega)) (same (j + 1) (by omega))).2.2, (spd_congr (same (j + 1) (by omega)) (same (j + 1 + 1) (by omega))).2.2]
      exact hold
    · have e : j + 1 = L.length - 1 := by omega
      rw [(spd_congr (same j (by omega)) (same (j + 1) (by omega))).2.2]
      rw [e] at hold ⊢
      rw [hsp, ← he, ← hs]
      exact hold
  · intro i hi
    rcases Nat.lt_or_ge i (k + 1) with h1 | h1
    · obtain ⟨j, j1, j2, j3, j4, j5, j6, j7⟩ := hc i (by omega)
      rw [hlenM] at j1
      rcases Nat.lt_or_ge (j + 1) L.length with h3 | h3
      · refine ⟨j, by omega, by rw [same j (by omega)]; exact j2, by rw [same (j + 1) h3]; exact j3, ?_, ?_, j6, fun h => by omega⟩
        · exact onL_congr (same j (by omega)).symm (same (j + 1) h3).symm j4
        · exact onL_congr (same j (by omega)).symm (same (j + 1) h3).symm j5
      · obtain rfl : j = L.length - 1 := by omega
        rw [newM] at j3
        exact ⟨L.length - 1, by omega, by rw [same _ (by omega)]; exact j2, by rw [new]; omega, hon _ j4, hon _ j5, j6, fun h => by omega⟩
    · obtain rfl : i = k + 1 := by omega
      refine ⟨L.length - 1, by omega, by rw [same _ (by omega)]; omega, by rw [new]; exact Int.le_refl _, ?_, ?_, fun h => by omega, fun _ => by omega⟩
      · have := onL_1 (L ++ [mA ms (k + 1)]) (L.length - 1)
        rw [newM] at this
        exact hon _ this
      · have := onL_1 (L ++ [mA ms (k + 1 + 1)]) (L.length - 1)
        rw [new] at this; exact this
theorem keepK_pos (ms : List (Int × Int)) : ∀ k, 0 < (keepK ms k).length
  | 0 => by simp [keepK]
  | k + 1 => by
    have := keepK_pos ms k
    rw [keepK]; split <;> simp <;> omega
theorem kept_all {ms : List (Int × Int)} (hv : vkB ms = true) : ∀ k, k + 1 < ms.length → Kept ms k (keepK ms k ++ [mA ms (k + 1)])
  | 0, _ => kept_base hv
  | k + 1, hk => by
    have ih := kept_all hv k (by omega)
    rw [keepK]
    by_cases he : spdL ms k = spdL ms (k + 1)
    · rw [if_pos he]; exact kept_less hv hk (keepK_pos ms k) ih he
    · rw [if_neg he]; exact kept_more hv hk ih he
theorem straight_kept {ms : List (Int × Int)} (hv : vkB ms = true) : Kept ms (ms.length - 2) (straightF ms) := by
  have hn := (vk_parts hv).1
  have := kept_all hv (ms.length - 2) (by omega)
  rw [straightF, if_pos hv]
  rw [show ms.length - 2 + 1 = ms.length - 1 by omega] at this
  exact this
theorem straight_vk {ms : List (Int × Int)} (hv : vkB ms = true) : vkB (straightF ms) = true := by
  have h := straight_kept hv
  have hn := vk_parts hv
  have hl := h.len
  rw [vkB, asc_build (straightF ms) none h.rng h.asc (fun p hp => by cases hp), decide_eq_true (by omega)]; rfl
theorem keepK_take {M : List (Int × Int)} (hs : St M) : ∀ k, k + 1 < M.length → keepK M k = M.take (k + 1)
  | 0, h => by
    rw [keepK]
    cases M with
    | nil => simp at h
    | cons a t => rfl
  | k + 1, h => by
    rw [keepK, if_neg (hs k (by omega)), keepK_take hs k (by omega)]
    obtain ⟨a, b, hx⟩ := getM_of_lt (show k + 1 < M.length by omega)
    rw [take_snoc hx, mA_of hx]
theorem straight_id {M : List (Int × Int)} (hv : vkB M = true) (hs : St M) : straightF M = M := by
  have hn := (vk_parts hv).1
  rw [straightF, if_pos hv, keepK_take hs _ (by omega), show M.length - 2 + 1 = M.length - 1 by omega]
  obtain ⟨a, b, hx⟩ := getM_of_lt (show M.length - 1 < M.length by omega)
  rw [mA_of hx, ← take_snoc hx, List.take_of_length_le (by omega)]
theorem straight_twice {ms : List (Int × Int)} (hv : vkB ms = true) : straightF (straightF ms) = straightF ms := straight_id (straight_vk hv) (straight_kept hv).str
theorem lineOk_seg {ms : List (Int × Int)} (hv : vkB ms = true) (x : Int) : lineOk ms (segL ms x 1) x := by
  have hn := (vk_parts hv).1
  obtain ⟨a0, b0⟩ := segL_spec (ms := ms) (x := x)
  exact ⟨seg_lt hn x 1, a0, fun h => by have := b0 (segL ms x 1 + 1) (by omega) h; omega⟩
theorem straight_eqT {ms : List (Int × Int)} (hv : vkB ms = true) (x : Int) : eqT ms (straightF ms) x = true := by
  have h := straight_kept hv
  have hl := lineOk_seg hv x
  have hn := (vk_parts hv).1
  obtain ⟨j, j1, j2, j3, j4, j5, j6, j7⟩ := h.cov (segL ms x 1) (by have := hl.1; omega)
  have hl2 : lineOk (straightF ms) j x := by
    refine ⟨j1, fun hj => ?_, fun hj => ?_⟩
    · have : 1 ≤ segL ms x 1 := by
        rcases Nat.eq_zero_or_pos (segL ms x 1) with h0 | h0
        · have := j6 h0; omega
        · exact h0
      have := hl.2.1 this; omega
    · have : segL ms x 1 + 1 ≤ ms.length - 2 := by
        rcases Nat.lt_or_ge (segL ms x 1) (ms.length - 2) with h0 | h0
        · omega
        · have := j7 (by have := hl.1; omega); omega
      have := hl.2.2 this; omega
  rw [eqT_iff hv (straight_vk hv) hl hl2]
  exact lines_eq j4 j5 x
theorem sameV_iff {ms ns : List (Int × Int)} (hv : vkB ms = true) (hv' : vkB ns = true) : sameV ms ns = true ↔ ∀ x, 0 ≤ x → x ≤ 100000 → eqT ms ns x = true := by
  have e : sameV ms ns = (cornersL ms ns 0 100000).all (eqT ms ns) := by rw [sameV, hv, hv']; rfl
  rw [e]
  refine ⟨fun h x h1 h2 => eq_inside hv hv' h h1 h2, fun h => ?_⟩
  rw [List.all_eq_true]
  intro x hx
  have := corner_in (by omega) hx
  exact h x this.1 this.2
theorem straight_same {ms : List (Int × Int)} (hv : vkB ms = true) : sameV ms (straightF ms) = true := (sameV_iff hv (straight_vk hv)).2 fun x _ _ => straight_eqT hv x
end Go.Proofs.Ytjghlfagdleglaa
