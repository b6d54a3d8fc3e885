/-
  Contracts: Awake, Long (firnlaw07).
-/
import Derived.Test.YtolpbbabmcpdkaaArea
set_option linter.unusedVariables false
set_option linter.unusedSimpArgs false
namespace Go.Proofs.Ytolpbbabmcpdkaa
open Go.RowKit Go.Shelf

theorem awake_fact : arN [1, 2, 1] [3, 0, 1] = 13 ∧ arD [1, 2, 1] [3, 0, 1] = 16 ∧ odB [1, 2, 1] [3, 0, 1] = true := by decide +kernel
theorem ints_new3 (w : World) (x y z : Int) : Ints (w.alloc (.cells #[.int .i64 x, .int .i64 y, .int .i64 z] 3)) (some ⟨w.heap.size, 0, none⟩) [x, y, z] :=
  ⟨rfl, fun _ => ⟨_, rfl, by simp, fun j u hj => by
    have := cells_new w [.int .i64 x, .int .i64 y, .int .i64 z] 3 j u hj
    exact this⟩⟩
set_option maxRecDepth 100000 in
theorem awake_any (w : World) :
    Calls Try.prog 16 #[] w fun e w' => e = .returned (.bool true) ∧ Below w.heap.size w w' := by
  have C : Hid (∀ W : World, W = (w.alloc (.cells #[.int .i64 1, .int .i64 2, .int .i64 1] 3)).alloc (.cells #[.int .i64 3, .int .i64 0, .int .i64 1] 3) → Calls Try.prog 40 #[.agg #[.slice (some ⟨w.heap.size, 0, none⟩) 3 3, .slice (some ⟨w.heap.size + 1, 0, none⟩) 3 3]] W fun e w' => e = .returned (.tuple #[.agg #[.int .i64 13, .int .i64 16], .int .i64 0]) ∧ Below w.heap.size w w') := Lib.hid (by
    intro W hW
    have hB1 : Below w.heap.size w (w.alloc (.cells #[.int .i64 1, .int .i64 2, .int .i64 1] 3)) := (Below.refl _ _).alloc (Nat.le_refl _) _
    have hs : (w.alloc (.cells #[.int .i64 1, .int .i64 2, .int .i64 1] 3)).heap.size = w.heap.size + 1 := by simp
    have h1 := (ints_new3 w 1 2 1).below ((Below.refl _ _).alloc (Nat.le_refl _) (.cells #[.int .i64 3, .int .i64 0, .int .i64 1] 3))
    have h2 := ints_new3 (w.alloc (.cells #[.int .i64 1, .int .i64 2, .int .i64 1] 3)) 3 0 1
    rw [hs] at h2
    have hB2 : Below w.heap.size w W := by rw [hW]; exact Below.alloc hB1 (by simp) _
    rw [← hW] at h1 h2
    have := area_yes [1, 2, 1] [3, 0, 1] _ _ 3 3 W h1 h2 awake_fact.2.2
    rw [awake_fact.1, awake_fact.2.1] at this
    exact this.mono fun _ _ h => ⟨h.1, below_step hB2 h.2⟩)
  go_enter Try.func16, Try.ntmps16
  go_wp2_with (go_at_call 40; refine (C.out _ rfl).mono ?_; rintro e w1 ⟨rfl, HW0⟩; have HW := Lib.hid HW0; clear HW0)
  go_ret
  exact ⟨rfl, (by repeat (first | with_reducible exact HW.out | with_reducible exact Below.refl _ _ | with_reducible refine below_drewN ?_ _ | with_reducible refine Below.drew ?_ | (with_reducible refine Below.setCell ?_ (by first | exact Nat.le_refl _ | exact Nat.le_succ _ | (simp; done) | (simp; omega) | omega) _) | (with_reducible refine Below.alloc ?_ (by first | exact HW.out.size | (simp; done) | (simp; omega) | omega) _)))⟩
set_option maxRecDepth 100000 in
theorem long_any (ns ss : List Int) (A B : Option Addr) (c d : Nat) (w : World) :
    Calls Try.prog 15 #[.agg #[.slice A ns.length c, .slice B ss.length d]] w fun e w' => e = .returned (.bool (decide (60 < ns.length) || decide (60 < ss.length))) ∧ Below w.heap.size w w' := by
  have e1 : decide ((60 : Int) < (ns.length : Int)) = decide (60 < ns.length) := decide_eq_decide.2 (by omega)
  have e2 : decide ((60 : Int) < (ss.length : Int)) = decide (60 < ss.length) := decide_eq_decide.2 (by omega)
  by_cases h1 : 60 < ns.length
  · have t1 : decide ((60 : Int) < (ns.length : Int)) = true := decide_eq_true (by omega)
    have HR : Hid ((decide (60 < ns.length) || decide (60 < ss.length)) = true) := Lib.hid (by rw [decide_eq_true h1]; rfl)
    clear e1 e2
    go_enter Try.func15, Try.ntmps15
    go_wp2
    go_ret
    exact ⟨ret_bool HR.out.symm, (by repeat (first | with_reducible exact Below.refl _ _ | with_reducible assumption | refine below_drewN ?_ _ | with_reducible refine Below.drew ?_ | (refine Below.setCell ?_ (by first | (simp; done) | (simp; omega) | omega) _) | (refine Below.alloc ?_ (by first | (simp; done) | (simp; omega) | omega) _)))⟩
  · have t1 : decide ((60 : Int) < (ns.length : Int)) = false := decide_eq_false (by omega)
    have HR : Hid ((decide (60 < ns.length) || decide (60 < ss.length)) = decide ((60 : Int) < (ss.length : Int))) := Lib.hid (by rw [decide_eq_false h1, e2]; rfl)
    clear e1 e2
    go_enter Try.func15, Try.ntmps15
    go_wp2
    go_ret
    exact ⟨ret_bool HR.out.symm, (by repeat (first | with_reducible exact Below.refl _ _ | with_reducible assumption | refine below_drewN ?_ _ | with_reducible refine Below.drew ?_ | (refine Below.setCell ?_ (by first | (simp; done) | (simp; omega) | omega) _) | (refine Below.alloc ?_ (by first | (simp; done) | (simp; omega) | omega) _)))⟩
end Go.Proofs.Ytolpbbabmcpdkaa
