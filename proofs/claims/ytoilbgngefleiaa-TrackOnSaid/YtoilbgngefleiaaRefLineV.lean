/-
  Contract: ValidLine (firnref05).
-/
import Derived.Test.YtoilbgngefleiaaOnT
namespace Go.Proofs.Ytoilbgngefleiaa
open Go Go.RowKit Go.Shelf

theorem lnB_is (a b d : Int) : lnB a b d = decide (-1000000 ≤ a ∧ a ≤ 1000000 ∧ -100000000 ≤ b ∧ b ≤ 100000000 ∧ 1 ≤ d ∧ d ≤ 10000) := by
  rw [Bool.eq_iff_iff]
  simp [lnB, inB]
  omega
set_option maxRecDepth 100000 in
set_option maxHeartbeats 1000000 in
theorem refValidLine_any (a b d : Int) (w : World) :
    Calls Try.prog 22 #[.agg #[.int .i64 a, .int .i64 b, .int .i64 d]] w fun e w' => e = .returned (.bool (lnB a b d)) ∧ Below w.heap.size w w' := by
  by_cases h0 : ¬ (-1000000 ≤ a)
  · have t0 : decide ((-1000000 : Int) ≤ a) = false := decide_eq_false h0
    have HE : Hid (false = lnB a b d) := Lib.hid (by rw [lnB_is]; exact (decide_eq_false (by omega)).symm)
    go_enter Try.func22, Try.ntmps22
    go_wp2
    go_ret
    exact ⟨ret_bool HE.out, (by repeat (first | with_reducible exact Below.refl _ _ | with_reducible assumption | refine below_drewN ?_ _ | with_reducible refine Below.drew ?_ | (refine Below.setCell ?_ (by first | (simp; done) | (simp; omega) | omega) _) | (refine Below.alloc ?_ (by first | (simp; done) | (simp; omega) | omega) _)))⟩
  have t0 : decide ((-1000000 : Int) ≤ a) = true := decide_eq_true (Decidable.not_not.1 h0)
  by_cases h1 : ¬ (a ≤ 1000000)
  · have t1 : decide ((a : Int) ≤ 1000000) = false := decide_eq_false h1
    have HE : Hid (false = lnB a b d) := Lib.hid (by rw [lnB_is]; exact (decide_eq_false (by omega)).symm)
    go_enter Try.func22, Try.ntmps22
    go_wp2
    go_ret
    exact ⟨ret_bool HE.out, (by repeat (first | with_reducible exact Below.refl _ _ | with_reducible assumption | refine below_drewN ?_ _ | with_reducible refine Below.drew ?_ | (refine Below.setCell ?_ (by first | (simp; done) | (simp; omega) | omega) _) | (refine Below.alloc ?_ (by first | (simp; done) | (simp; omega) | omega) _)))⟩
  have t1 : decide ((a : Int) ≤ 1000000) = true := decide_eq_true (Decidable.not_not.1 h1)
  by_cases h2 : ¬ (-100000000 ≤ b)
  · have t2 : decide ((-100000000 : Int) ≤ b) = false := decide_eq_false h2
    have HE : Hid (false = lnB a b d) := Lib.hid (by rw [lnB_is]; exact (decide_eq_false (by omega)).symm)
    go_enter Try.func22, Try.ntmps22
    go_wp2
    go_ret
    exact ⟨ret_bool HE.out, (by repeat (first | with_reducible exact Below.refl _ _ | with_reducible assumption | refine below_drewN ?_ _ | with_reducible refine Below.drew ?_ | (refine Below.setCell ?_ (by first | (simp; done) | (simp; omega) | omega) _) | (refine Below.alloc ?_ (by first | (simp; done) | (simp; omega) | omega) _)))⟩
  have t2 : decide ((-100000000 : Int) ≤ b) = true := decide_eq_true (Decidable.not_not.1 h2)
  by_cases h3 : ¬ (b ≤ 100000000)
  · have t3 : decide ((b : Int) ≤ 100000000) = false := decide_eq_false h3
    have HE : Hid (false = lnB a b d) := Lib.hid (by rw [lnB_is]; exact (decide_eq_false (by omega)).symm)
    go_enter Try.func22, Try.ntmps22
    go_wp2
    go_ret
    exact ⟨ret_bool HE.out, (by repeat (first | with_reducible exact Below.refl _ _ | with_reducible assumption | refine below_drewN ?_ _ | with_reducible refine Below.drew ?_ | (refine Below.setCell ?_ (by first | (simp; done) | (simp; omega) | omega) _) | (refine Below.alloc ?_ (by first | (simp; done) | (simp; omega) | omega) _)))⟩
  have t3 : decide ((b : Int) ≤ 100000000) = true := decide_eq_true (Decidable.not_not.1 h3)
  by_cases h4 : ¬ (1 ≤ d)
  · have t4 : decide ((1 : Int) ≤ d) = false := decide_eq_false h4
    have HE : Hid (false = lnB a b d) := Lib.hid (by rw [lnB_is]; exact (decide_eq_false (by omega)).symm)
    go_enter Try.func22, Try.ntmps22
    go_wp2
    go_ret
    exact ⟨ret_bool HE.out, (by repeat (first | with_reducible exact Below.refl _ _ | with_reducible assumption | refine below_drewN ?_ _ | with_reducible refine Below.drew ?_ | (refine Below.setCell ?_ (by first | (simp; done) | (simp; omega) | omega) _) | (refine Below.alloc ?_ (by first | (simp; done) | (simp; omega) | omega) _)))⟩
  have t4 : decide ((1 : Int) ≤ d) = true := decide_eq_true (Decidable.not_not.1 h4)
  by_cases h5 : ¬ (d ≤ 10000)
  · have t5 : decide ((d : Int) ≤ 10000) = false := decide_eq_false h5
    have HE : Hid (false = lnB a b d) := Lib.hid (by rw [lnB_is]; exact (decide_eq_false (by omega)).symm)
    go_enter Try.func22, Try.ntmps22
    go_wp2
    go_ret
    exact ⟨ret_bool HE.out, (by repeat (first | with_reducible exact Below.refl _ _ | with_reducible assumption | refine below_drewN ?_ _ | with_reducible refine Below.drew ?_ | (refine Below.setCell ?_ (by first | (simp; done) | (simp; omega) | omega) _) | (refine Below.alloc ?_ (by first | (simp; done) | (simp; omega) | omega) _)))⟩
  have t5 : decide ((d : Int) ≤ 10000) = true := decide_eq_true (Decidable.not_not.1 h5)
  have HE : Hid (true = lnB a b d) := Lib.hid (by rw [lnB_is]; exact (decide_eq_true (by omega)).symm)
  go_enter Try.func22, Try.ntmps22
  go_wp2
  go_ret
  exact ⟨ret_bool HE.out, (by repeat (first | with_reducible exact Below.refl _ _ | with_reducible assumption | refine below_drewN ?_ _ | with_reducible refine Below.drew ?_ | (refine Below.setCell ?_ (by first | (simp; done) | (simp; omega) | omega) _) | (refine Below.alloc ?_ (by first | (simp; done) | (simp; omega) | omega) _)))⟩
end Go.Proofs.Ytoilbgngefleiaa
