/-
  Contracts: validBits, IsBits, size, ValidReadings (tick and firnref01).
-/
import Derived.Test.YtjghlfagdleglaaBase
namespace Go.Proofs.Ytjghlfagdleglaa
open Go.RowKit

theorem ret_bool {a b : Bool} (h : a = b) : Ending.returned (.bool a) = .returned (.bool b) := by rw [h]
theorem ret_int {k : IntKind} {a b : Int} (h : a = b) : Ending.returned (.int k a) = .returned (.int k b) := by rw [h]

/-- Whether a counter can have so many bits. -/
def bitsB (b : Int) : Bool := decide (4 ≤ b ∧ b ≤ 32)

theorem validBits_any (b : Int) (w : World) :
    Calls Try.prog 57 #[.int .i64 b] w fun e w' => e = .returned (.bool (bitsB b)) ∧ w = w' := by
  go_enter Try.func57, Try.ntmps57
  go_wp2
  all_goals
    go_ret
    exact ⟨ret_bool (by simp [bitsB]; try omega), rfl⟩

theorem isBits_any (b : Int) (w : World) :
    Calls Try.prog 51 #[.int .i64 b] w fun e w' => e = .returned (.bool (bitsB b)) ∧ w = w' := by
  go_enter Try.func51, Try.ntmps51
  go_wp2
  all_goals
    go_ret
    exact ⟨ret_bool (by simp [bitsB]; try omega), rfl⟩
end Go.Proofs.Ytjghlfagdleglaa
