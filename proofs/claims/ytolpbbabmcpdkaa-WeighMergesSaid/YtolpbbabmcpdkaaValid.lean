/-
  Contracts: Valid (weigh, firnref07).
-/
import Derived.Test.YtolpbbabmcpdkaaSum
import Derived.Deep.RegionHeld3
set_option linter.unusedVariables false
set_option linter.unusedSimpArgs false
namespace Go.Proofs.Ytolpbbabmcpdkaa
open Go.RowKit

theorem odB_ne {ns ss : List Int} (h : ns.length ≠ ss.length) : odB ns ss = false := by unfold odB; rw [decide_eq_false h]; rfl
theorem odB_gt {ns ss : List Int} (h : ¬ ns.length ≤ 10) : odB ns ss = false := by unfold odB; rw [decide_eq_false h, Bool.and_false]; rfl
theorem odB_in {ns ss : List Int} (h : ns.length = ss.length) (h2 : ns.length ≤ 10) : odB ns ss = (wsB ns && wsB ss) := by unfold odB; rw [decide_eq_true h, decide_eq_true h2]; rfl

set_option maxRecDepth 100000 in
theorem valid_any (ns ss : List Int) (A B : Option Addr) (c d : Nat) (w : World) (hA : Ints w A ns) (hB : Ints w B ss) (hl : ns.length ≤ 1000) (hl2 : ss.length ≤ 1000) :
    Calls Try.prog 21 #[.agg #[.slice A ns.length c, .slice B ss.length d]] w fun e w' => e = .returned (.bool (odB ns ss)) ∧ Below w.heap.size w w' := by
  have HA := Lib.hid hA
  have HB := Lib.hid hB
  clear hA hB
  go_enter Try.func21, Try.ntmps21
  by_cases h1 : ns.length = ss.length
  · have t1 : ((ns.length : Int) != (ss.length : Int)) = false := by rw [h1]; simp
    have HL := Lib.hid h1
    clear h1
    by_cases h2 : ns.length ≤ 10
    · have t2 : decide ((10 : Int) < (ns.length : Int)) = false := decide_eq_false (by omega)
      have HR := Lib.hid (odB_in HL.out h2)
      obtain ⟨b1, hb1⟩ : ∃ b, b = wsB ns := ⟨_, rfl⟩
      have HB1 := Lib.hid hb1
      clear hb1
      cases b1
      · have HR2 : Hid (odB ns ss = false) := Lib.hid (by rw [HR.out, ← HB1.out]; rfl)
        go_wp2_with (go_at_call 70; refine (validWeights_any ns _ _ _ (HA.out.below (by repeat (first | with_reducible exact Below.refl _ _ | with_reducible assumption | refine below_drewN ?_ _ | with_reducible refine Below.drew ?_ | (refine Below.setCell ?_ (by first | (simp; done) | (simp; omega) | omega) _) | (refine Below.alloc ?_ (by first | (simp; done) | (simp; omega) | omega) _)))) hl).mono ?_; rintro e w1 ⟨rfl, rfl⟩; rw [← HB1.out])
        go_ret
        exact ⟨ret_bool HR2.out.symm, (by repeat (first | with_reducible exact Below.refl _ _ | with_reducible assumption | refine below_drewN ?_ _ | with_reducible refine Below.drew ?_ | (refine Below.setCell ?_ (by first | (simp; done) | (simp; omega) | omega) _) | (refine Below.alloc ?_ (by first | (simp; done) | (simp; omega) | omega) _)))⟩
      · have HR2 : Hid (odB ns ss = wsB ss) := Lib.hid (by rw [HR.out, ← HB1.out]; rfl)
        go_wp2_with (go_at_call 70; first | (with_reducible refine (validWeights_any ns _ _ _ (HA.out.below (by repeat (first | with_reducible exact Below.refl _ _ | with_reducible assumption | refine below_drewN ?_ _ | with_reducible refine Below.drew ?_ | (refine Below.setCell ?_ (by first | (simp; done) | (simp; omega) | omega) _) | (refine Below.alloc ?_ (by first | (simp; done) | (simp; omega) | omega) _)))) hl).mono ?_; rintro e w1 ⟨rfl, rfl⟩; rw [← HB1.out]) | (with_reducible refine (validWeights_any ss _ _ _ (HB.out.below (by repeat (first | with_reducible exact Below.refl _ _ | with_reducible assumption | refine below_drewN ?_ _ | with_reducible refine Below.drew ?_ | (refine Below.setCell ?_ (by first | (simp; done) | (simp; omega) | omega) _) | (refine Below.alloc ?_ (by first | (simp; done) | (simp; omega) | omega) _)))) hl2).mono ?_; rintro e w1 ⟨rfl, rfl⟩))
        go_ret
        exact ⟨ret_bool HR2.out.symm, (by repeat (first | with_reducible exact Below.refl _ _ | with_reducible assumption | refine below_drewN ?_ _ | with_reducible refine Below.drew ?_ | (refine Below.setCell ?_ (by first | (simp; done) | (simp; omega) | omega) _) | (refine Below.alloc ?_ (by first | (simp; done) | (simp; omega) | omega) _)))⟩
    · have t2 : decide ((10 : Int) < (ns.length : Int)) = true := decide_eq_true (by omega)
      have HR := Lib.hid (odB_gt (ns := ns) (ss := ss) h2)
      go_wp2
      go_ret
      exact ⟨ret_bool HR.out.symm, (by repeat (first | with_reducible exact Below.refl _ _ | with_reducible assumption | refine below_drewN ?_ _ | with_reducible refine Below.drew ?_ | (refine Below.setCell ?_ (by first | (simp; done) | (simp; omega) | omega) _) | (refine Below.alloc ?_ (by first | (simp; done) | (simp; omega) | omega) _)))⟩
  · have t1 : ((ns.length : Int) != (ss.length : Int)) = true := by simp; omega
    have HR := Lib.hid (odB_ne h1)
    go_wp2
    go_ret
    exact ⟨ret_bool HR.out.symm, (by repeat (first | with_reducible exact Below.refl _ _ | with_reducible assumption | refine below_drewN ?_ _ | with_reducible refine Below.drew ?_ | (refine Below.setCell ?_ (by first | (simp; done) | (simp; omega) | omega) _) | (refine Below.alloc ?_ (by first | (simp; done) | (simp; omega) | omega) _)))⟩

set_option maxRecDepth 100000 in
theorem refValid_any (ns ss : List Int) (A B : Option Addr) (c d : Nat) (w : World) (hA : Ints w A ns) (hB : Ints w B ss) (hl : ns.length ≤ 1000) (hl2 : ss.length ≤ 1000) :
    Calls Try.prog 22 #[.agg #[.slice A ns.length c, .slice B ss.length d]] w fun e w' => e = .returned (.bool (odB ns ss)) ∧ Below w.heap.size w w' := by
  have HA := Lib.hid hA
  have HB := Lib.hid hB
  clear hA hB
  go_enter Try.func22, Try.ntmps22
  by_cases h1 : ns.length = ss.length
  · have t1 : ((ns.length : Int) == (ss.length : Int)) = true := by rw [h1]; simp
    have HL := Lib.hid h1
    have HR : Hid (odB ns ss = ((decide (ns.length ≤ 10) && wsB ns) && (decide (ss.length ≤ 10) && wsB ss))) := Lib.hid (by
      have e : decide (ss.length ≤ 10) = decide (ns.length ≤ 10) := by rw [h1]
      unfold odB; rw [decide_eq_true h1, e]
      cases decide (ns.length ≤ 10) <;> cases wsB ns <;> cases wsB ss <;> rfl)
    clear h1
    obtain ⟨b1, hb1⟩ : ∃ b, b = (decide (ns.length ≤ 10) && wsB ns) := ⟨_, rfl⟩
    have HB1 := Lib.hid hb1
    clear hb1
    cases b1
    · have HR2 : Hid (odB ns ss = false) := Lib.hid (by rw [HR.out, ← HB1.out]; rfl)
      go_wp2_with (go_at_call 71; refine (areWeights_any ns _ _ _ (HA.out.below (by repeat (first | with_reducible exact Below.refl _ _ | with_reducible assumption | refine below_drewN ?_ _ | with_reducible refine Below.drew ?_ | (refine Below.setCell ?_ (by first | (simp; done) | (simp; omega) | omega) _) | (refine Below.alloc ?_ (by first | (simp; done) | (simp; omega) | omega) _)))) hl).mono ?_; rintro e w1 ⟨rfl, rfl⟩; rw [← HB1.out])
      go_ret
      exact ⟨ret_bool HR2.out.symm, (by repeat (first | with_reducible exact Below.refl _ _ | with_reducible assumption | refine below_drewN ?_ _ | with_reducible refine Below.drew ?_ | (refine Below.setCell ?_ (by first | (simp; done) | (simp; omega) | omega) _) | (refine Below.alloc ?_ (by first | (simp; done) | (simp; omega) | omega) _)))⟩
    · obtain ⟨b2, hb2⟩ : ∃ b, b = (decide (ss.length ≤ 10) && wsB ss) := ⟨_, rfl⟩
      have HR2 : Hid (odB ns ss = b2) := Lib.hid (by rw [HR.out, ← HB1.out, hb2]; rfl)
      have HB2 := Lib.hid hb2
      clear hb2
      go_wp2_with (go_at_call 71; first | (with_reducible refine (areWeights_any ns _ _ _ (HA.out.below (by repeat (first | with_reducible exact Below.refl _ _ | with_reducible assumption | refine below_drewN ?_ _ | with_reducible refine Below.drew ?_ | (refine Below.setCell ?_ (by first | (simp; done) | (simp; omega) | omega) _) | (refine Below.alloc ?_ (by first | (simp; done) | (simp; omega) | omega) _)))) hl).mono ?_; rintro e w1 ⟨rfl, rfl⟩; rw [← HB1.out]) | (with_reducible refine (areWeights_any ss _ _ _ (HB.out.below (by repeat (first | with_reducible exact Below.refl _ _ | with_reducible assumption | refine below_drewN ?_ _ | with_reducible refine Below.drew ?_ | (refine Below.setCell ?_ (by first | (simp; done) | (simp; omega) | omega) _) | (refine Below.alloc ?_ (by first | (simp; done) | (simp; omega) | omega) _)))) hl2).mono ?_; rintro e w1 ⟨rfl, rfl⟩; rw [← HB2.out]))
      go_ret
      exact ⟨ret_bool HR2.out.symm, (by repeat (first | with_reducible exact Below.refl _ _ | with_reducible assumption | refine below_drewN ?_ _ | with_reducible refine Below.drew ?_ | (refine Below.setCell ?_ (by first | (simp; done) | (simp; omega) | omega) _) | (refine Below.alloc ?_ (by first | (simp; done) | (simp; omega) | omega) _)))⟩
  · have t1 : ((ns.length : Int) == (ss.length : Int)) = false := by simp; omega
    have HR := Lib.hid (odB_ne h1)
    go_wp2
    go_ret
    exact ⟨ret_bool HR.out.symm, (by repeat (first | with_reducible exact Below.refl _ _ | with_reducible assumption | refine below_drewN ?_ _ | with_reducible refine Below.drew ?_ | (refine Below.setCell ?_ (by first | (simp; done) | (simp; omega) | omega) _) | (refine Below.alloc ?_ (by first | (simp; done) | (simp; omega) | omega) _)))⟩
end Go.Proofs.Ytolpbbabmcpdkaa
