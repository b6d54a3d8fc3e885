/-
  Contract: More (firnref01).
-/
import Derived.Test.YtjghlfagdleglaaDiff
namespace Go.Proofs.Ytjghlfagdleglaa
open Go.RowKit

theorem quo_lt {a b c d : Int} (hb : 1 ≤ b) (hd : 1 ≤ d) (h : c / d < a / b) : c * b < a * d := by
  have e1 := Int.mul_ediv_add_emod a b
  have e2 := Int.mul_ediv_add_emod c d
  have r1 := Int.emod_nonneg a (show b ≠ 0 by omega)
  have r2 := Int.emod_lt_of_pos c (show 0 < d by omega)
  generalize a / b = p at *
  generalize c / d = q at *
  generalize a % b = x at *
  generalize c % d = y at *
  have h1 : d * (q + 1) ≤ d * p := Int.mul_le_mul_of_nonneg_left (by omega) (by omega)
  rw [Int.mul_add, Int.mul_one] at h1
  have h2 : c < d * p := by omega
  have h3 := Int.mul_lt_mul_of_pos_right h2 (show 0 < b by omega)
  have h4 : b * p ≤ a := by omega
  have h5 := Int.mul_le_mul_of_nonneg_right h4 (show 0 ≤ d by omega)
  have h6 : d * p * b = b * p * d := by rw [Int.mul_comm d p, Int.mul_assoc, Int.mul_comm d b, ← Int.mul_assoc, Int.mul_comm p b]
  omega
theorem quo_eq {a b c d : Int} (h : a / b = c / d) : (c * b < a * d ↔ c % d * b < a % b * d) := by
  have e1 := Int.mul_ediv_add_emod a b
  have e2 := Int.mul_ediv_add_emod c d
  rw [h] at e1
  generalize c / d = q at *
  generalize a % b = x at *
  generalize c % d = y at *
  have h1 : c * b - y * b = a * d - x * d := by
    rw [← e1, ← e2]
    grind
  omega
theorem more_ne {a b c d : Int} (hb : 1 ≤ b) (hd : 1 ≤ d) (h : a / b ≠ c / d) : decide (c / d < a / b) = ltR (c, d) (a, b) := by
  refine decide_eq_decide.2 ⟨fun h1 => quo_lt hb hd h1, fun h1 => ?_⟩
  simp only at h1
  rcases Int.lt_or_le (c / d) (a / b) with h2 | h2
  · exact h2
  · have := quo_lt (a := c) (b := d) (c := a) (d := b) hd hb (by omega)
    omega
theorem more_rec {a b c d : Int} (h : a / b = c / d) : ltR (b, a % b) (d, c % d) = ltR (c, d) (a, b) := by
  refine decide_eq_decide.2 ?_
  rw [quo_eq h]
  simp only
  rw [Int.mul_comm b, Int.mul_comm d]
theorem more_x0 {a b c d : Int} (hb : 1 ≤ b) (hd : 1 ≤ d) (h : a / b = c / d) (hx : a % b = 0) : false = ltR (c, d) (a, b) := by
  refine (decide_eq_false ?_).symm
  rw [quo_eq h, hx]
  have := Int.mul_nonneg (Int.emod_nonneg c (show d ≠ 0 by omega)) (show 0 ≤ b by omega)
  omega
theorem more_y0 {a b c d : Int} (hb : 1 ≤ b) (hd : 1 ≤ d) (h : a / b = c / d) (hx : a % b ≠ 0) (hy : c % d = 0) : true = ltR (c, d) (a, b) := by
  refine (decide_eq_true ?_).symm
  rw [quo_eq h, hy]
  have := Int.emod_nonneg a (show b ≠ 0 by omega)
  have := Int.mul_pos (show 0 < a % b by omega) (show 0 < d by omega)
  omega

set_option maxRecDepth 100000 in
set_option maxHeartbeats 1600000 in
theorem more_any : ∀ (m : Nat) (a b c d : Int) (w : World), (b + d).toNat ≤ m → (0 ≤ a ∧ a ≤ 4611686018427387904) → (1 ≤ b ∧ b ≤ 4611686018427387904) → (0 ≤ c ∧ c ≤ 4611686018427387904) → (1 ≤ d ∧ d ≤ 4611686018427387904) →
    Calls Try.prog 55 #[.agg #[.int .i64 a, .int .i64 b], .agg #[.int .i64 c, .int .i64 d]] w fun e w' => e = .returned (.bool (ltR (c, d) (a, b))) ∧ Below w.heap.size w w'
  | 0, a, b, c, d, w, hm, ha, hb, hc, hd => by omega
  | m + 1, a, b, c, d, w, hm, ha, hb, hc, hd => by
    have IH := Lib.hid (more_any m)
    have hb0 : b ≠ 0 := by omega
    have hd0 : d ≠ 0 := by omega
    obtain ⟨ha0, ha1⟩ := ha
    obtain ⟨hb1, hb2⟩ := hb
    obtain ⟨hc0, hc1⟩ := hc
    obtain ⟨hd1, hd2⟩ := hd
    have hbb : (b == 0) = false := by simpa using hb0
    have hdd : (d == 0) = false := by simpa using hd0
    have hx0 := Int.emod_nonneg a hb0
    have hx1 := Int.emod_lt_of_pos a (show 0 < b by omega)
    have hy0 := Int.emod_nonneg c hd0
    have hy1 := Int.emod_lt_of_pos c (show 0 < d by omega)
    by_cases hq : a / b = c / d
    · have tq : (a / b != c / d) = false := by simpa using hq
      have HQ := Lib.hid hq
      clear hq
      by_cases hx : a % b = 0
      · have tx : (a % b == 0) = true := by simpa using hx
        have fin := Lib.hid (more_x0 hb1 hd1 HQ.out hx)
        have HX := Lib.hid hx
        clear hx
        go_enter Try.func55, Try.ntmps55
        go_wp2
        go_quiet (fail)
        go_wp2
        go_quiet (fail)
        go_wp2
        all_goals go_ret
        all_goals refine ⟨ret_bool ?_, (by repeat (first | with_reducible exact Below.refl _ _ | with_reducible assumption | refine below_drewN ?_ _ | with_reducible refine Below.drew ?_ | (refine Below.setCell ?_ (by first | (simp; done) | (simp; omega) | omega) _) | (refine Below.alloc ?_ (by first | (simp; done) | (simp; omega) | omega) _)))⟩
        all_goals rw [← fin.out]
        all_goals exact decide_eq_false (by have := HX.out; omega)
      · have tx : (a % b == 0) = false := by simpa using hx
        by_cases hy : c % d = 0
        · have ty : (c % d == 0) = true := by simpa using hy
          have fin := Lib.hid (more_y0 hb1 hd1 HQ.out hx hy)
          have HXY := Lib.hid (And.intro hx hy)
          clear hx hy
          go_enter Try.func55, Try.ntmps55
          go_wp2
          go_quiet (fail)
          go_wp2
          go_quiet (fail)
          go_wp2
          all_goals go_ret
          all_goals refine ⟨ret_bool ?_, (by repeat (first | with_reducible exact Below.refl _ _ | with_reducible assumption | refine below_drewN ?_ _ | with_reducible refine Below.drew ?_ | (refine Below.setCell ?_ (by first | (simp; done) | (simp; omega) | omega) _) | (refine Below.alloc ?_ (by first | (simp; done) | (simp; omega) | omega) _)))⟩
          all_goals rw [← fin.out]
          all_goals exact decide_eq_true (by have := HXY.out.1; omega)
        · have ty : (c % d == 0) = false := by simpa using hy
          have fin := Lib.hid (more_rec (b := b) (d := d) HQ.out)
          have HXY := Lib.hid (And.intro hx hy)
          clear hx hy
          go_enter Try.func55, Try.ntmps55
          go_wp2
          go_quiet (fail)
          go_wp2
          go_quiet (fail)
          go_wp2_with (go_at_call 55; refine (IH.out d (c % d) b (a % b) _ (by omega) (by omega) (by have := HXY.out; omega) (by omega) (by have := HXY.out; omega)).mono ?_; rintro e w1 ⟨rfl, hB1⟩)
          go_ret
          exact ⟨ret_bool fin.out, Below.trans (by exact (by repeat (first | with_reducible exact Below.refl _ _ | with_reducible assumption | refine below_drewN ?_ _ | with_reducible refine Below.drew ?_ | (refine Below.setCell ?_ (by first | (simp; done) | (simp; omega) | omega) _) | (refine Below.alloc ?_ (by first | (simp; done) | (simp; omega) | omega) _)))) (hB1.mono (by first | (simp; done) | (simp; omega) | omega))⟩
    · have tq : (a / b != c / d) = true := by simpa using hq
      have fin := Lib.hid (more_ne hb1 hd1 hq)
      clear hq
      go_enter Try.func55, Try.ntmps55
      go_wp2
      go_quiet (fail)
      go_wp2
      go_quiet (fail)
      go_wp2
      go_ret
      refine ⟨ret_bool fin.out, (by repeat (first | with_reducible exact Below.refl _ _ | with_reducible assumption | refine below_drewN ?_ _ | with_reducible refine Below.drew ?_ | (refine Below.setCell ?_ (by first | (simp; done) | (simp; omega) | omega) _) | (refine Below.alloc ?_ (by first | (simp; done) | (simp; omega) | omega) _)))⟩
end Go.Proofs.Ytjghlfagdleglaa
