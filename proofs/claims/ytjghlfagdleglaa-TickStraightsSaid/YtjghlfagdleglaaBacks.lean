/-
  Plain arithmetic of a clock there and back (for TickBacks).
-/
import Derived.Test.YtjghlfagdleglaaLawMoves
import Derived.Test.YtjghlfagdleglaaBack
namespace Go.Proofs.Ytjghlfagdleglaa
open Go.RowKit

theorem core1 {a b n d g x P Q : Int} (h1 : n * g = b * P + (x - a) * Q) (h2 : d * g = P) : (a * d * Q + (n - b * d) * P) * g = x * (d * Q) * g := by
  grind
theorem core2 {a b t x P Q : Int} (ht : t ≤ b) (hx : a ≤ x) (hP : 0 < P) (hQ : 0 < Q) : t * P ≤ b * P + (x - a) * Q := by
  have h1 := Int.mul_le_mul_of_nonneg_right ht (Int.le_of_lt hP)
  have h2 := Int.mul_nonneg (show 0 ≤ x - a by omega) (Int.le_of_lt hQ)
  omega
theorem core3 {a b t x P Q : Int} (ht : b + Q ≤ t) (hx : x < a + P) (hP : 0 < P) (hQ : 0 < Q) : b * P + (x - a) * Q < t * P := by
  have h1 := Int.mul_le_mul_of_nonneg_right ht (Int.le_of_lt hP)
  have h2 := Int.mul_lt_mul_of_pos_right (show x - a < P by omega) hQ
  rw [Int.add_mul] at h1
  rw [Int.mul_comm Q P] at h1
  omega
theorem low_mulB {L X : Int} (hX : 0 < X) : lowN (L * X) X = L ∧ lowD (L * X) X = 1 := by
  have hg : (Int.gcd (L * X) X : Int) = X := by
    rw [Int.gcd_mul_left_left]
    exact Int.natAbs_of_nonneg (by omega)
  rw [lowN, lowD, hg]
  exact ⟨Int.mul_ediv_cancel _ (by omega), Int.ediv_self (by omega)⟩
theorem segI_congrB {p q : Nat → Bool} : ∀ {k : Nat}, (∀ j, 1 ≤ j → j ≤ k → p j = q j) → segI p k = segI q k
  | 0, _ => rfl
  | k + 1, h => by
    rw [segI, segI, h (k + 1) (by omega) (by omega), segI_congrB (k := k) fun j a b => h j a (by omega)]
theorem segI_spec (p : Nat → Bool) : ∀ k, (1 ≤ segI p k → p (segI p k) = true) ∧ ∀ j, segI p k < j → j ≤ k → p j = false
  | 0 => ⟨fun h => by simp [segI] at h, fun j h1 h2 => by simp [segI] at h1; omega⟩
  | k + 1 => by
    by_cases h : p (k + 1) = true
    · rw [segI_yes h]; exact ⟨fun _ => h, fun j a b => by omega⟩
    · rw [segI_no h]
      obtain ⟨h1, h2⟩ := segI_spec p k
      refine ⟨h1, fun j a b => ?_⟩
      rcases Nat.lt_or_ge j (k + 1) with hlt | hge
      · exact h2 j a (by omega)
      · obtain rfl : j = k + 1 := by omega
        simpa using h
theorem low_mulg {n d : Int} : lowN n d * (Int.gcd n d : Int) = n ∧ lowD n d * (Int.gcd n d : Int) = d :=
  ⟨Int.ediv_mul_cancel (Int.gcd_dvd_left n d), Int.ediv_mul_cancel (Int.gcd_dvd_right n d)⟩
theorem low_le {n d t : Int} (hd : 0 < d) : t * lowD n d ≤ lowN n d ↔ t * d ≤ n := by
  have hg := gcd_pos (n := n) hd
  obtain ⟨e1, e2⟩ := low_mulg (n := n) (d := d)
  generalize lowN n d = u at *
  generalize lowD n d = v at *
  generalize (Int.gcd n d : Int) = g at *
  rw [← e1, ← e2, ← Int.mul_assoc]
  exact ⟨fun h => Int.mul_le_mul_of_nonneg_right h (by omega), fun h => Int.le_of_mul_le_mul_right h hg⟩
/-- The line by which a clock goes at a local time: where it starts and ends, and what is behind it. -/
theorem segL_spec {ms : List (Int × Int)} {x : Int} : (1 ≤ segL ms x 1 → (mA ms (segL ms x 1)).1 ≤ x) ∧ ∀ j, segL ms x 1 < j → j ≤ ms.length - 2 → x < (mA ms j).1 := by
  have h := segI_spec (fun i => decide ((ms.getD i (0, 0)).1 * 1 ≤ x)) (ms.length - 2)
  refine ⟨fun h1 => ?_, fun j h1 h2 => ?_⟩
  · have := of_decide_eq_true (h.1 h1)
    rw [Int.mul_one] at this
    exact this
  · have := of_decide_eq_false (h.2 j h1 h2)
    rw [Int.mul_one] at this
    exact Int.not_le.1 this
theorem atND {ms : List (Int × Int)} (x : Int) : atN ms x = (mA ms (segL ms x 1)).2 * ((mA ms (segL ms x 1 + 1)).1 - (mA ms (segL ms x 1)).1) + (x - (mA ms (segL ms x 1)).1) * ((mA ms (segL ms x 1 + 1)).2 - (mA ms (segL ms x 1)).2)
    ∧ atD ms x = (mA ms (segL ms x 1 + 1)).1 - (mA ms (segL ms x 1)).1 := by
  rw [atN, atD, lineN, lineD, Int.mul_one, Int.mul_one, Int.one_mul]
  exact ⟨rfl, rfl⟩
theorem segT_at {ms : List (Int × Int)} {x : Int} (hv : vkB ms = true) : segT ms (lowN (atN ms x) (atD ms x)) (lowD (atN ms x) (atD ms x)) = segL ms x 1 := by
  have hdp := atD_pos hv x
  have hs := seg_lt (vk_parts hv).1 x 1
  obtain ⟨hlo, hhi⟩ := segL_spec (ms := ms) (x := x)
  obtain ⟨eN, eD⟩ := atND (ms := ms) x
  have hm := asc_mono hv (show segL ms x 1 < segL ms x 1 + 1 by omega) hs
  refine segI_congrB (p := fun i => decide ((ms.getD i (0, 0)).2 * lowD (atN ms x) (atD ms x) ≤ lowN (atN ms x) (atD ms x))) (q := fun i => decide ((ms.getD i (0, 0)).1 * 1 ≤ x)) fun j j1 j2 => ?_
  refine decide_eq_decide.2 ?_
  rw [low_le hdp, Int.mul_one]
  show (mA ms j).2 * _ ≤ _ ↔ (mA ms j).1 ≤ x
  rw [eN, eD]
  rcases Nat.lt_or_ge (segL ms x 1) j with h | h
  · have h1 := hhi j h j2
    have h2 := hhi (segL ms x 1 + 1) (by omega) (by omega)
    have h3 : (mA ms (segL ms x 1 + 1)).2 ≤ (mA ms j).2 := by
      rcases Nat.lt_or_ge (segL ms x 1 + 1) j with h4 | h4
      · exact Int.le_of_lt (asc_mono hv h4 (by omega)).2
      · obtain rfl : segL ms x 1 + 1 = j := by omega
        exact Int.le_refl _
    refine ⟨fun h4 => ?_, fun h4 => by omega⟩
    have := core3 (a := (mA ms (segL ms x 1)).1) (b := (mA ms (segL ms x 1)).2) (t := (mA ms j).2) (x := x) (P := (mA ms (segL ms x 1 + 1)).1 - (mA ms (segL ms x 1)).1) (Q := (mA ms (segL ms x 1 + 1)).2 - (mA ms (segL ms x 1)).2) (by omega) (by omega) (by omega) (by omega)
    omega
  · have h1 := hlo (by omega)
    have h3 : (mA ms j).1 ≤ (mA ms (segL ms x 1)).1 ∧ (mA ms j).2 ≤ (mA ms (segL ms x 1)).2 := by
      rcases Nat.lt_or_ge j (segL ms x 1) with h4 | h4
      · have := asc_mono hv h4 (by omega); omega
      · obtain rfl : j = segL ms x 1 := by omega
        exact ⟨Int.le_refl _, Int.le_refl _⟩
    exact ⟨fun _ => by omega, fun _ => core2 h3.2 h1 (by omega) (by omega)⟩
theorem okT_at {ms : List (Int × Int)} {x : Int} (hv : vkB ms = true) (hx : tickB x = true) : okT (atRN ms x) (atRD ms x) = true := by
  have := atR_bd hv hx
  exact decide_eq_true (by omega)
theorem back_at {ms : List (Int × Int)} {x : Int} (hv : vkB ms = true) (hx : tickB x = true) :
    backRN ms (atRN ms x) (atRD ms x) = x ∧ backRD ms (atRN ms x) (atRD ms x) = 1 ∧ backE ms (atRN ms x) (atRD ms x) = 0 := by
  have hk := okT_at hv hx
  have hok : okBack ms (atRN ms x) (atRD ms x) = true := by simp [okBack, hv, hk]
  have bd := atR_bd hv hx
  have k1 : okAt ms x = true := by simp [okAt, hv, hx]
  have hs := seg_lt (vk_parts hv).1 x 1
  have hm := asc_mono hv (show segL ms x 1 < segL ms x 1 + 1 by omega) hs
  obtain ⟨eN, eD⟩ := atND (ms := ms) x
  have eT := segT_at (x := x) hv
  have hg := gcd_pos (n := atN ms x) (atD_pos hv x)
  obtain ⟨g1, g2⟩ := low_mulg (n := atN ms x) (d := atD ms x)
  rw [backRN, backRD, if_pos hok, if_pos hok, backE, if_pos hv, if_pos hk]
  rw [atRN, atRD, if_pos k1, if_pos k1] at bd ⊢
  rw [eT]
  generalize lowN (atN ms x) (atD ms x) = n at *
  generalize lowD (atN ms x) (atD ms x) = d at *
  generalize (Int.gcd (atN ms x) (atD ms x) : Int) = g at *
  have key : backNj ms (segL ms x 1) n d = x * backDj ms (segL ms x 1) d := by
    rw [backNj, backDj, lineN, lineD]
    refine Int.eq_of_mul_eq_mul_right (show g ≠ 0 by omega) ?_
    exact core1 (g1.trans eN) (g2.trans eD)
  have hpos : 0 < backDj ms (segL ms x 1) d := by
    rw [backDj, lineD]
    exact Int.mul_pos (by omega) (by omega)
  rw [key]
  exact ⟨(low_mulB hpos).1, (low_mulB hpos).2, rfl⟩

theorem asc_swap : ∀ (ms : List (Int × Int)) (o : Option (Int × Int)), ascFrom (o.map swapM) (ms.map swapM) = ascFrom o ms
  | [], o => by cases o <;> rfl
  | m :: t, none => by
    show (okM (swapM m) && ascFrom ((some m).map swapM) (t.map swapM)) = _
    rw [asc_swap t (some m), ascFrom, okM, okM, swapM, Bool.and_comm (tickB m.2)]
  | m :: t, some p => by
    show (okM (swapM m) && decide ((swapM p).1 < (swapM m).1 ∧ (swapM p).2 < (swapM m).2) && ascFrom ((some m).map swapM) (t.map swapM)) = _
    rw [asc_swap t (some m), ascFrom, okM, okM, swapM, swapM, Bool.and_comm (tickB m.2)]
    congr 2
    exact decide_eq_decide.2 And.comm
theorem vk_swap (ms : List (Int × Int)) : vkB (ms.map swapM) = vkB ms := by
  rw [vkB, vkB, List.length_map]
  rw [show ascFrom none (ms.map swapM) = ascFrom none ms from asc_swap ms none]
theorem mA_swap (ms : List (Int × Int)) (k : Nat) : mA (ms.map swapM) k = swapM (mA ms k) := by
  rw [mA, mA, List.getD_eq_getElem?_getD, List.getD_eq_getElem?_getD, List.getElem?_map]
  cases ms[k]? <;> rfl
theorem inv_twice {ms : List (Int × Int)} (hv : vkB ms = true) : inverseF ms = ms.map swapM ∧ inverseF (inverseF ms) = ms ∧ clkE (inverseF ms) = 0 ∧ clkE ms = 0 := by
  have h1 : inverseF ms = ms.map swapM := by rw [inverseF, if_pos hv]
  have h2 : vkB (ms.map swapM) = true := by rw [vk_swap]; exact hv
  rw [h1]
  refine ⟨rfl, ?_, by rw [clkE, if_pos h2], by rw [clkE, if_pos hv]⟩
  rw [inverseF, if_pos h2, List.map_map]
  conv => rhs; rw [← List.map_id ms]
  rfl
theorem segT_swap (ms : List (Int × Int)) (x : Int) : segT (ms.map swapM) x 1 = segL ms x 1 := by
  rw [segT, segL, List.length_map]
  congr 1
  funext i
  have := mA_swap ms i
  rw [mA, mA] at this
  rw [this]; rfl
theorem back_swap {ms : List (Int × Int)} {x : Int} (hv : vkB ms = true) (hx : tickB x = true) :
    backRN (inverseF ms) x 1 = atRN ms x ∧ backRD (inverseF ms) x 1 = atRD ms x ∧ backE (inverseF ms) x 1 = 0 := by
  obtain ⟨hx0, hx1⟩ : 0 ≤ x ∧ x ≤ 100000 := by simpa [tickB] using hx
  have hk : okT x 1 = true := decide_eq_true (by omega)
  have h2 : vkB (ms.map swapM) = true := by rw [vk_swap]; exact hv
  have hok : okBack (ms.map swapM) x 1 = true := by simp [okBack, h2, hk]
  have k1 : okAt ms x = true := by simp [okAt, hv, hx]
  rw [(inv_twice hv).1, backRN, backRD, if_pos hok, if_pos hok, backE, if_pos h2, if_pos hk, atRN, atRD, if_pos k1, if_pos k1, segT_swap, backNj, backDj, mA_swap, mA_swap]
  exact ⟨rfl, rfl, rfl⟩
end Go.Proofs.Ytjghlfagdleglaa
