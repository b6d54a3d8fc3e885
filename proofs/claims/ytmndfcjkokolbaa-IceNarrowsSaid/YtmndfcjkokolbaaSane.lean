/-
  Contracts: Long, Sane (firnlaw04).
-/
import Derived.Test.YtmndfcjkokolbaaRef3
namespace Go.Proofs.Ytmndfcjkokolbaa
open Go.RowKit Go.Shelf

theorem lawLong_any (ms : List (Int × Int)) (A : Option Addr) (c : Nat) (w : World) :
    Calls Try.prog 17 #[.slice A ms.length c] w fun e w' => e = .returned (.bool (decide (60 < ms.length))) ∧ w = w' := by
  go_enter Try.func17, Try.ntmps17
  go_wp2
  go_ret
  exact ⟨ret_bool (by simp; omega), rfl⟩

theorem lay_lit (w : World) : Clk (w.alloc (.cells #[.int .i64 2, .int .i64 1, .int .i64 3, .int .i64 4] 65)) (some ⟨w.heap.size, 0, none⟩) 2 [(2, 1), (3, 4)] :=
  ⟨⟨rfl, fun _ => ⟨_, rfl, by simp, cells_new w [.int .i64 2, .int .i64 1, .int .i64 3, .int .i64 4] 65⟩⟩, Nat.le_refl _, by unfold maxLen; simp⟩
theorem loss_lit : lossR [(2, 1), (3, 4)] 0 3 = 6 ∧ lossE [(2, 1), (3, 4)] 0 3 = 0 := by decide +kernel
set_option maxRecDepth 100000 in
theorem sane_any (w : World) :
    Calls Try.prog 18 #[] w fun e w' => e = .returned (.bool true) ∧ Below w.heap.size w w' := by
  go_enter Try.func18, Try.ntmps18
  go_wp2_with (go_at_call 25; refine (iceLoss_any [(2, 1), (3, 4)] _ 2 _ _ _ (lay_lit w)).mono ?_; rintro e w1 ⟨r, E, rfl, hB, hy⟩; obtain rfl : r = 6 := hy.out.1.trans loss_lit.1; obtain rfl : E = 0 := hy.out.2.trans loss_lit.2)
  go_ret
  exact ⟨rfl, Below.trans ((Below.refl _ _).alloc (Nat.le_refl _) _) (hB.mono (by simp))⟩
end Go.Proofs.Ytmndfcjkokolbaa
