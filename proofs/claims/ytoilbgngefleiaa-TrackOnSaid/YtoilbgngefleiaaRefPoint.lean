/-
  Contract: IsPoint (firnref05).
-/
import Derived.Test.YtoilbgngefleiaaRestsT
namespace Go.Proofs.Ytoilbgngefleiaa
open Go Go.RowKit Go.Shelf

theorem ptB_is (a b : Int) : ptB (a, b) = decide (-100 ≤ a ∧ a ≤ 100 ∧ -1000 ≤ b ∧ b ≤ 1000) := by
  rw [Bool.eq_iff_iff]
  simp [ptB, inB]
  omega
set_option maxRecDepth 100000 in
set_option maxHeartbeats 1000000 in
theorem isPoint_any (a b : Int) (w : World) :
    Calls Try.prog 54 #[.agg #[.int .i64 a, .int .i64 b]] w fun e w' => e = .returned (.bool (ptB (a, b))) ∧ Below w.heap.size w w' := by
  by_cases h0 : ¬ (-100 ≤ a)
  · have t0 : decide ((-100 : Int) ≤ a) = false := decide_eq_false h0
    have HE : Hid (false = ptB (a, b)) := Lib.hid (by rw [ptB_is]; exact (decide_eq_false (by omega)).symm)
    go_enter Try.func54, Try.ntmps54
    go_wp2
    go_ret
    exact ⟨ret_bool HE.out, (by repeat (first | with_reducible exact Below.refl _ _ | with_reducible assumption | refine below_drewN ?_ _ | with_reducible refine Below.drew ?_ | (refine Below.setCell ?_ (by first | (simp; done) | (simp; omega) | omega) _) | (refine Below.alloc ?_ (by first | (simp; done) | (simp; omega) | omega) _)))⟩
  have t0 : decide ((-100 : Int) ≤ a) = true := decide_eq_true (Decidable.not_not.1 h0)
  by_cases h1 : ¬ (a ≤ 100)
  · have t1 : decide ((a : Int) ≤ 100) = false := decide_eq_false h1
    have HE : Hid (false = ptB (a, b)) := Lib.hid (by rw [ptB_is]; exact (decide_eq_false (by omega)).symm)
    go_enter Try.func54, Try.ntmps54
    go_wp2
    go_ret
    exact ⟨ret_bool HE.out, (by repeat (first | with_reducible exact Below.refl _ _ | with_reducible assumption | refine below_drewN ?_ _ | with_reducible refine Below.drew ?_ | (refine Below.setCell ?_ (by first | (simp; done) | (simp; omega) | omega) _) | (refine Below.alloc ?_ (by first | (simp; done) | (simp; omega) | omega) _)))⟩
  have t1 : decide ((a : Int) ≤ 100) = true := decide_eq_true (Decidable.not_not.1 h1)
  by_cases h2 : ¬ (-1000 ≤ b)
  · have t2 : decide ((-1000 : Int) ≤ b) = false := decide_eq_false h2
    have HE : Hid (false = ptB (a, b)) := Lib.hid (by rw [ptB_is]; exact (decide_eq_false (by omega)).symm)
    go_enter Try.func54, Try.ntmps54
    go_wp2
    go_ret
    exact ⟨ret_bool HE.out, (by repeat (first | with_reducible exact Below.refl _ _ | with_reducible assumption | refine below_drewN ?_ _ | with_reducible refine Below.drew ?_ | (refine Below.setCell ?_ (by first | (simp; done) | (simp; omega) | omega) _) | (refine Below.alloc ?_ (by first | (simp; done) | (simp; omega) | omega) _)))⟩
  have t2 : decide ((-1000 : Int) ≤ b) = true := decide_eq_true (Decidable.not_not.1 h2)
  by_cases h3 : ¬ (b ≤ 1000)
  · have t3 : decide ((b : Int) ≤ 1000) = false := decide_eq_false h3
    have HE : Hid (false = ptB (a, b)) := Lib.hid (by rw [ptB_is]; exact (decide_eq_false (by omega)).symm)
    go_enter Try.func54, Try.ntmps54
    go_wp2
    go_ret
    exact ⟨ret_bool HE.out, (by repeat (first | with_reducible exact Below.refl _ _ | with_reducible assumption | refine below_drewN ?_ _ | with_reducible refine Below.drew ?_ | (refine Below.setCell ?_ (by first | (simp; done) | (simp; omega) | omega) _) | (refine Below.alloc ?_ (by first | (simp; done) | (simp; omega) | omega) _)))⟩
  have t3 : decide ((b : Int) ≤ 1000) = true := decide_eq_true (Decidable.not_not.1 h3)
  have HE : Hid (true = ptB (a, b)) := Lib.hid (by rw [ptB_is]; exact (decide_eq_true (by omega)).symm)
  go_enter Try.func54, Try.ntmps54
  go_wp2
  go_ret
  exact ⟨ret_bool HE.out, (by repeat (first | with_reducible exact Below.refl _ _ | with_reducible assumption | refine below_drewN ?_ _ | with_reducible refine Below.drew ?_ | (refine Below.setCell ?_ (by first | (simp; done) | (simp; omega) | omega) _) | (refine Below.alloc ?_ (by first | (simp; done) | (simp; omega) | omega) _)))⟩
end Go.Proofs.Ytoilbgngefleiaa
