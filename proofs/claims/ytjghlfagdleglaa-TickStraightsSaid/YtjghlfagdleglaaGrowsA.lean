/-
  Plain arithmetic of a clock that grows (for TickGrows and TickOthers): a step between two local times, the least and the greatest of the speeds.
-/
import Derived.Test.YtjghlfagdleglaaBacks
namespace Go.Proofs.Ytjghlfagdleglaa
open Go.RowKit

theorem low_scale {n d k : Int} (hk : 0 < k) : lowN (n * k) (d * k) = lowN n d ∧ lowD (n * k) (d * k) = lowD n d := by
  have e : (Int.gcd (n * k) (d * k) : Int) = (Int.gcd n d : Int) * k := by
    rw [Int.gcd_mul_right, Int.natCast_mul, Int.natAbs_of_nonneg (by omega)]
  rw [lowN, lowD, lowN, lowD, e]
  exact ⟨Int.mul_ediv_mul_of_pos_left _ _ hk, Int.mul_ediv_mul_of_pos_left _ _ hk⟩
theorem low_cross {n d n' d' : Int} (hd : 0 < d) (hd' : 0 < d') (h : n * d' = n' * d) : lowN n d = lowN n' d' ∧ lowD n d = lowD n' d' := by
  obtain ⟨a1, a2⟩ := low_scale (n := n) (d := d) hd'
  obtain ⟨b1, b2⟩ := low_scale (n := n') (d := d') hd
  rw [h] at a1 a2
  rw [Int.mul_comm d' d] at b1 b2
  exact ⟨a1.symm.trans b1, a2.symm.trans b2⟩
/-- The step of a line between two local times, from the times in lowest terms. -/
theorem low_step {n0 n1 P Q u0 v0 g0 u1 v1 g1 : Int} (hg0 : 0 < g0) (hg1 : 0 < g1) (h0 : u0 * g0 = n0) (h0' : v0 * g0 = P) (h1 : u1 * g1 = n1) (h1' : v1 * g1 = P) (hs : n1 = n0 + Q) :
    (u1 * v0 - u0 * v1) * P = Q * (v0 * v1) := by
  have hg : g0 * g1 ≠ 0 := Int.mul_ne_zero (by omega) (by omega)
  refine Int.eq_of_mul_eq_mul_right hg ?_
  subst hs h0
  grind
/-- The time at a local time by the line numbered j. -/
def lnN (ms : List (Int × Int)) (j : Nat) (x : Int) : Int := (mA ms j).2 * spD ms j + (x - (mA ms j).1) * spN ms j
theorem atND' (ms : List (Int × Int)) (x : Int) : atN ms x = lnN ms (segL ms x 1) x ∧ atD ms x = spD ms (segL ms x 1) := atND x
theorem seg_succ {ms : List (Int × Int)} {x : Int} (hv : vkB ms = true) :
    segL ms (x + 1) 1 = segL ms x 1 ∨ (segL ms (x + 1) 1 = segL ms x 1 + 1 ∧ (mA ms (segL ms x 1 + 1)).1 = x + 1) := by
  have hn := (vk_parts hv).1
  have s0 := seg_lt hn x 1
  have s1 := seg_lt hn (x + 1) 1
  obtain ⟨a0, b0⟩ := segL_spec (ms := ms) (x := x)
  obtain ⟨a1, b1⟩ := segL_spec (ms := ms) (x := x + 1)
  generalize segL ms x 1 = j at *
  generalize segL ms (x + 1) 1 = k at *
  rcases Nat.lt_trichotomy k j with h | h | h
  · have h1 := b1 j h (by omega)
    have h2 := a0 (by omega)
    omega
  · exact .inl h
  · have h1 := b0 (j + 1) (by omega) (by omega)
    have h2 := a1 (by omega)
    rcases Nat.lt_or_ge (j + 1) k with h3 | h3
    · have := (asc_mono hv h3 (by omega)).1
      omega
    · obtain rfl : k = j + 1 := by omega
      exact .inr ⟨rfl, by omega⟩
theorem spD_pos {ms : List (Int × Int)} {j : Nat} (hv : vkB ms = true) (hj : j + 1 < ms.length) : 0 < spD ms j ∧ 0 < spN ms j := by
  have := asc_mono hv (show j < j + 1 by omega) hj
  rw [spD, spN]
  omega
theorem at_succ {ms : List (Int × Int)} {x : Int} (hv : vkB ms = true) :
    lowN (atN ms (x + 1)) (atD ms (x + 1)) = lowN (lnN ms (segL ms x 1) (x + 1)) (spD ms (segL ms x 1)) ∧
    lowD (atN ms (x + 1)) (atD ms (x + 1)) = lowD (lnN ms (segL ms x 1) (x + 1)) (spD ms (segL ms x 1)) := by
  have hn := (vk_parts hv).1
  have s0 := seg_lt hn x 1
  have s1 := seg_lt hn (x + 1) 1
  obtain ⟨e1, e2⟩ := atND' ms (x + 1)
  have p0 := spD_pos hv s0
  have p1 := spD_pos hv s1
  rw [e1, e2]
  rcases seg_succ (x := x) hv with h | ⟨h, hx⟩
  · rw [h]; exact ⟨rfl, rfl⟩
  · rw [h] at p1 ⊢
    have k1 : lnN ms (segL ms x 1 + 1) (x + 1) = (mA ms (segL ms x 1 + 1)).2 * spD ms (segL ms x 1 + 1) := by
      rw [lnN, hx, Int.sub_self, Int.zero_mul, Int.add_zero]
    have k0 : lnN ms (segL ms x 1) (x + 1) = (mA ms (segL ms x 1 + 1)).2 * spD ms (segL ms x 1) := by
      rw [lnN, ← hx, spN, spD]
      grind
    obtain ⟨u1, v1⟩ := low_mulB (L := (mA ms (segL ms x 1 + 1)).2) p1.1
    obtain ⟨u0, v0⟩ := low_mulB (L := (mA ms (segL ms x 1 + 1)).2) p0.1
    rw [k1, k0, u1, v1, u0, v0]
    exact ⟨rfl, rfl⟩
/-- A clock's time grows, up to the next local time, by its speed. -/
theorem grow_step {ms : List (Int × Int)} {x : Int} (hv : vkB ms = true) (hx : tickB x = true) (hx' : tickB (x + 1) = true) :
    lowN (atRN ms (x + 1) * atRD ms x - atRN ms x * atRD ms (x + 1)) (atRD ms x * atRD ms (x + 1)) = spRN ms x ∧
    lowD (atRN ms (x + 1) * atRD ms x - atRN ms x * atRD ms (x + 1)) (atRD ms x * atRD ms (x + 1)) = spRD ms x := by
  have k0 : okAt ms x = true := by simp [okAt, hv, hx]
  have k1 : okAt ms (x + 1) = true := by simp [okAt, hv, hx']
  have bd0 := atR_bd hv hx
  have bd1 := atR_bd hv hx'
  have s0 := seg_lt (vk_parts hv).1 x 1
  have p0 := spD_pos hv s0
  obtain ⟨e1, e2⟩ := at_succ (x := x) hv
  obtain ⟨f1, f2⟩ := atND' ms x
  rw [atRN, atRD, if_pos k0, if_pos k0] at bd0
  rw [atRN, atRD, if_pos k1, if_pos k1] at bd1
  rw [atRN, atRD, atRN, atRD, spRN, spRD, if_pos k0, if_pos k0, if_pos k1, if_pos k1, if_pos k0, if_pos k0]
  rw [e1, e2] at bd1 ⊢
  rw [f1, f2] at bd0 ⊢
  have g0 := gcd_pos (n := lnN ms (segL ms x 1) x) p0.1
  have g1 := gcd_pos (n := lnN ms (segL ms x 1) (x + 1)) p0.1
  obtain ⟨m0, m0'⟩ := low_mulg (n := lnN ms (segL ms x 1) x) (d := spD ms (segL ms x 1))
  obtain ⟨m1, m1'⟩ := low_mulg (n := lnN ms (segL ms x 1) (x + 1)) (d := spD ms (segL ms x 1))
  have key := low_step g0 g1 m0 m0' m1 m1' (Q := spN ms (segL ms x 1)) (by rw [lnN, lnN]; grind)
  refine low_cross (Int.mul_pos (by omega) (by omega)) p0.1 key

/-- The speed of the line numbered j. -/
def spdL (ms : List (Int × Int)) (j : Nat) : Int × Int := (lowN (spN ms j) (spD ms j), lowD (spN ms j) (spD ms j))
def ltR (a b : Int × Int) : Bool := decide (a.1 * b.2 < b.1 * a.2)
def leastK (ms : List (Int × Int)) : Nat → Int × Int
  | 0 => spdL ms 0
  | k + 1 => if ltR (spdL ms (k + 1)) (leastK ms k) then spdL ms (k + 1) else leastK ms k
def mostK (ms : List (Int × Int)) : Nat → Int × Int
  | 0 => spdL ms 0
  | k + 1 => if ltR (mostK ms k) (spdL ms (k + 1)) then spdL ms (k + 1) else mostK ms k
def okSp (v : Int × Int) : Prop := (1 ≤ v.1 ∧ v.1 ≤ 100000) ∧ (1 ≤ v.2 ∧ v.2 ≤ 100000)
theorem lowN_pos {n d : Int} (hn : 0 < n) (hd : 0 < d) : 1 ≤ lowN n d ∧ lowN n d ≤ n := by
  have hg := gcd_pos (n := n) hd
  have e := (low_mulg (n := n) (d := d)).1
  generalize (Int.gcd n d : Int) = g at *
  generalize lowN n d = u at *
  subst e
  by_cases h : u < 1
  · have := Int.mul_le_mul_of_nonneg_right (show u ≤ 0 by omega) (show 0 ≤ g by omega)
    omega
  · have := Int.mul_le_mul_of_nonneg_left (show 1 ≤ g by omega) (show 0 ≤ u by omega)
    omega
theorem mA_bd {ms : List (Int × Int)} {j : Nat} (hv : vkB ms = true) (hj : j < ms.length) : (0 ≤ (mA ms j).1 ∧ (mA ms j).1 ≤ 100000) ∧ (0 ≤ (mA ms j).2 ∧ (mA ms j).2 ≤ 100000) := by
  obtain ⟨a, b, h⟩ := getM_of_lt hj
  rw [mA_of h]
  exact vk_at hv h
theorem spdL_ok {ms : List (Int × Int)} {j : Nat} (hv : vkB ms = true) (hj : j + 1 < ms.length) : okSp (spdL ms j) := by
  have hp := spD_pos hv hj
  have b0 := mA_bd hv (show j < ms.length by omega)
  have b1 := mA_bd hv hj
  have h1 := lowN_pos hp.2 hp.1
  have h2 := lowD_bd (n := spN ms j) hp.1
  have h3 : spN ms j ≤ 100000 := by rw [spN]; omega
  have h4 : spD ms j ≤ 100000 := by rw [spD]; omega
  exact ⟨⟨h1.1, by simp only [spdL]; omega⟩, ⟨h2.1, by simp only [spdL]; omega⟩⟩
theorem leastK_ok {ms : List (Int × Int)} (hv : vkB ms = true) : ∀ {k : Nat}, k + 1 < ms.length → okSp (leastK ms k)
  | 0, h => spdL_ok hv h
  | k + 1, h => by
    rw [leastK]; split
    · exact spdL_ok hv h
    · exact leastK_ok hv (by omega)
theorem mostK_ok {ms : List (Int × Int)} (hv : vkB ms = true) : ∀ {k : Nat}, k + 1 < ms.length → okSp (mostK ms k)
  | 0, h => spdL_ok hv h
  | k + 1, h => by
    rw [mostK]; split
    · exact spdL_ok hv h
    · exact mostK_ok hv (by omega)
theorem ltR_trans {a b c : Int × Int} (ha : 0 < a.2) (hb : 0 < b.2) (hc : 0 < c.2) (h1 : ltR a b = false) (h2 : ltR b c = false) : ltR a c = false := by
  obtain ⟨a1, a2⟩ := a
  obtain ⟨b1, b2⟩ := b
  obtain ⟨c1, c2⟩ := c
  have h1 := Int.not_lt.1 (of_decide_eq_false h1)
  have h2 := Int.not_lt.1 (of_decide_eq_false h2)
  simp only at ha hb hc h1 h2
  refine decide_eq_false (Int.not_lt.2 ?_)
  simp only
  refine Int.le_of_mul_le_mul_right ?_ hb
  have e1 := Int.mul_le_mul_of_nonneg_right h1 (show 0 ≤ c2 by omega)
  have e2 := Int.mul_le_mul_of_nonneg_right h2 (show 0 ≤ a2 by omega)
  rw [show c1 * a2 * b2 = c1 * b2 * a2 from Int.mul_right_comm _ _ _, show a1 * c2 * b2 = a1 * b2 * c2 from Int.mul_right_comm _ _ _]
  rw [show b1 * c2 * a2 = b1 * a2 * c2 from Int.mul_right_comm _ _ _] at e2
  omega
theorem ltR_self (a : Int × Int) : ltR a a = false := decide_eq_false (by omega)
theorem ltR_asymm {a b : Int × Int} (h : ltR a b = true) : ltR b a = false := by
  have := of_decide_eq_true h
  exact decide_eq_false (by omega)
theorem least_le {ms : List (Int × Int)} (hv : vkB ms = true) : ∀ {k j : Nat}, j ≤ k → k + 1 < ms.length → ltR (spdL ms j) (leastK ms k) = false
  | 0, j, h, _ => by obtain rfl : j = 0 := by omega
                     exact ltR_self _
  | k + 1, j, h, hk => by
    have o1 := spdL_ok hv hk
    rw [leastK]
    by_cases hc : ltR (spdL ms (k + 1)) (leastK ms k) = true
    · rw [if_pos hc]
      rcases Nat.lt_or_ge j (k + 1) with h1 | h1
      · have oj := spdL_ok hv (show j + 1 < ms.length by omega)
        have ok := leastK_ok hv (show k + 1 < ms.length by omega)
        exact ltR_trans (by have := oj.2; omega) (by have := ok.2; omega) (by have := o1.2; omega) (least_le hv (show j ≤ k by omega) (by omega)) (ltR_asymm hc)
      · obtain rfl : j = k + 1 := by omega
        exact ltR_self _
    · rw [if_neg hc]
      rcases Nat.lt_or_ge j (k + 1) with h1 | h1
      · exact least_le hv (show j ≤ k by omega) (by omega)
      · obtain rfl : j = k + 1 := by omega
        simpa using hc
theorem most_ge {ms : List (Int × Int)} (hv : vkB ms = true) : ∀ {k j : Nat}, j ≤ k → k + 1 < ms.length → ltR (mostK ms k) (spdL ms j) = false
  | 0, j, h, _ => by obtain rfl : j = 0 := by omega
                     exact ltR_self _
  | k + 1, j, h, hk => by
    have o1 := spdL_ok hv hk
    rw [mostK]
    by_cases hc : ltR (mostK ms k) (spdL ms (k + 1)) = true
    · rw [if_pos hc]
      rcases Nat.lt_or_ge j (k + 1) with h1 | h1
      · have oj := spdL_ok hv (show j + 1 < ms.length by omega)
        have ok := mostK_ok hv (show k + 1 < ms.length by omega)
        exact ltR_trans (by have := o1.2; omega) (by have := ok.2; omega) (by have := oj.2; omega) (ltR_asymm hc) (most_ge hv (show j ≤ k by omega) (by omega))
      · obtain rfl : j = k + 1 := by omega
        exact ltR_self _
    · rw [if_neg hc]
      rcases Nat.lt_or_ge j (k + 1) with h1 | h1
      · exact most_ge hv (show j ≤ k by omega) (by omega)
      · obtain rfl : j = k + 1 := by omega
        simpa using hc
theorem spR_eq {ms : List (Int × Int)} {x : Int} (hv : vkB ms = true) (hx : tickB x = true) : (spRN ms x, spRD ms x) = spdL ms (segL ms x 1) := by
  have k0 : okAt ms x = true := by simp [okAt, hv, hx]
  rw [spRN, spRD, if_pos k0, if_pos k0]; rfl
end Go.Proofs.Ytjghlfagdleglaa
