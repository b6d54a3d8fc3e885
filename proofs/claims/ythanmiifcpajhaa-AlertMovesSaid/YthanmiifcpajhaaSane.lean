/-
  Contract: Sane (the chapter's second example): it is true.
-/
import Derived.Test.YthanmiifcpajhaaStrs2
set_option linter.unusedVariables false
set_option linter.unusedSimpArgs false
namespace Go.Proofs.Ythanmiifcpajhaa
open Go Go.RowKit Go.Shelf

def exT : List (Int × Int × Int) := [(0, 2, 2), (1, 3, 2)]
theorem ex_va : vaB exT = true := by decide +kernel
theorem ex_ov : ovA exT = 0 ∧ ovB exT = 3 ∧ ovE exT = 0 := by decide +kernel
theorem two_tasks (w : World) : Marks (w.alloc (.cells #[.int .i64 0, .int .i64 2, .int .i64 2, .int .i64 1, .int .i64 3, .int .i64 2] 53)) (some ⟨w.heap.size, 0, none⟩) exT :=
  ⟨rfl, fun _ => ⟨_, rfl, by simp, fun j u hj => cells_new w [.int .i64 0, .int .i64 2, .int .i64 2, .int .i64 1, .int .i64 3, .int .i64 2] 53 j u hj⟩⟩
set_option maxRecDepth 100000 in
theorem sane_any (w : World) : Calls Try.prog 16 #[] w fun e w' => e = .returned (.bool true) ∧ Below w.heap.size w w' := by
  have HO := Lib.hid ex_ov
  have HV := Lib.hid ex_va
  have HC : Hid (Calls Try.prog 40 #[.slice (some ⟨w.heap.size, 0, none⟩) 2 2] (w.alloc (.cells #[.int .i64 0, .int .i64 2, .int .i64 2, .int .i64 1, .int .i64 3, .int .i64 2] 53)) fun e w' => e = .returned (.tuple #[.int .i64 0, .int .i64 3, .int .i64 0]) ∧ Below w.heap.size w w') := Lib.hid ((over_any exT (some ⟨w.heap.size, 0, none⟩) 2 _ (two_tasks w) ex_va).mono fun e w' h => ⟨by rw [h.1, ex_ov.1, ex_ov.2.1, ex_ov.2.2], Below.trans (by repeat (first | with_reducible exact Below.refl _ _ | with_reducible assumption | refine below_drewN ?_ _ | with_reducible refine Below.drew ?_ | (refine Below.setCell ?_ (by first | (simp; done) | (simp; omega) | omega) _) | (refine Below.alloc ?_ (by first | (simp; done) | (simp; omega) | omega) _))) (h.2.mono (by simp))⟩)
  go_enter Try.func16, Try.ntmps16
  go_wp2_with (go_at_call 40; refine HC.out.mono ?_; rintro e w1 ⟨rfl, hB1⟩)
  go_ret
  exact ⟨rfl, hB1⟩
end Go.Proofs.Ythanmiifcpajhaa
