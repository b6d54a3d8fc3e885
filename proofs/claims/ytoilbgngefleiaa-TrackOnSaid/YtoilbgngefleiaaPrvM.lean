/-
  What Proves answers, in plain words.
-/
import Derived.Test.YtoilbgngefleiaaWei1
import Derived.Test.YtoilbgngefleiaaAwake
namespace Go.Proofs.Ytoilbgngefleiaa
open Go.RowKit
set_option linter.unusedVariables false
set_option linter.unusedSimpArgs false

def prA (ms : List (Int × Int)) (ws : List Int) (m n d : Int) : Bool := (decide (1 ≤ m) && decide (m ≤ 10000) && decide (ws.length = ms.length) && decide (1 ≤ d) && decide (d ≤ 10000) && decide (0 ≤ n) && decide (n ≤ 1000000000)) && ws.all (inB m)
def prE (ms : List (Int × Int)) (ws : List Int) (m n d : Int) : Int := if viP ms then (if prA ms ws m n d then 0 else 2) else 50
def prB (ms : List (Int × Int)) (ws : List Int) (m n d : Int) : Bool := viP ms && (prA ms ws m n d && decide (ws.sum = 0 ∧ turL ms ws = 0 ∧ n * m ≤ upL ms ws * d))
section
variable {ms : List (Int × Int)} {ws : List Int} {m n d : Int}
theorem pr_inv (h : viP ms = false) : false = prB ms ws m n d ∧ 50 = prE ms ws m n d := by rw [prB, prE, h]; exact ⟨rfl, rfl⟩
theorem pr_no (h : viP ms = true) (h2 : prA ms ws m n d = false) : false = prB ms ws m n d ∧ 2 = prE ms ws m n d := by rw [prB, prE, h, h2]; exact ⟨rfl, rfl⟩
theorem pr_yes (h : viP ms = true) (h2 : prA ms ws m n d = true) : decide (ws.sum = 0 ∧ turL ms ws = 0 ∧ n * m ≤ upL ms ws * d) = prB ms ws m n d ∧ 0 = prE ms ws m n d := by rw [prB, prE, h, h2]; exact ⟨rfl, rfl⟩
theorem pr_parts (h : prA ms ws m n d = true) : (1 ≤ m ∧ m ≤ 10000) ∧ ws.length = ms.length ∧ (1 ≤ d ∧ d ≤ 10000) ∧ (0 ≤ n ∧ n ≤ 1000000000) ∧ ∀ z ∈ ws, -m ≤ z ∧ z ≤ m := by
  simp [prA, inB] at h
  exact ⟨⟨h.1.1.1.1.1.1.1, h.1.1.1.1.1.1.2⟩, h.1.1.1.1.1.2, ⟨h.1.1.1.1.2, h.1.1.1.2⟩, ⟨h.1.1.2, h.1.2⟩, h.2⟩
theorem prA_mk (h1 : 1 ≤ m ∧ m ≤ 10000) (h2 : ws.length = ms.length) (h3 : 1 ≤ d ∧ d ≤ 10000) (h4 : 0 ≤ n ∧ n ≤ 1000000000) (h5 : ws.all (inB m) = true) : prA ms ws m n d = true := by
  simp only [prA, h1, h2, h3, h4, h5, and_self, decide_true, Bool.and_self]
def upK (ms : List (Int × Int)) (ws : List Int) (k : Nat) : Int := sm (fun i => ws.getD i 0 * (ms.getD i (0, 0)).2) (List.range k)
theorem up_next {k : Nat} {z x y : Int} (h : ws[k]? = some z) (h2 : ms[k]? = some (x, y)) : upK ms ws (k + 1) = upK ms ws k + z * y := by
  unfold upK
  rw [List.range_succ, sm_append, sm_cons, sm_nil, List.getD_eq_getElem?_getD, h, List.getD_eq_getElem?_getD, h2]; simp
theorem pr_val {T U Z x y : Int} (h1 : ws.sum = T) (h2 : turL ms ws = U) (h3 : upL ms ws = Z) (h4 : n * m = x) (h5 : Z * d = y) (hT : T = 0) (hU : U = 0) : decide (x ≤ y) = decide (ws.sum = 0 ∧ turL ms ws = 0 ∧ n * m ≤ upL ms ws * d) := by
  rw [h1, h2, h3, h4, h5, hT, hU]; simp
theorem pr_sum {T : Int} (h1 : ws.sum = T) (hT : T ≠ 0) : false = decide (ws.sum = 0 ∧ turL ms ws = 0 ∧ n * m ≤ upL ms ws * d) := by
  rw [h1, eq_comm, decide_eq_false_iff_not]; exact fun h => hT h.1
theorem pr_tur {U : Int} (h1 : turL ms ws = U) (hT : U ≠ 0) : false = decide (ws.sum = 0 ∧ turL ms ws = 0 ∧ n * m ≤ upL ms ws * d) := by
  rw [h1, eq_comm, decide_eq_false_iff_not]; exact fun h => hT h.2.1
end
theorem ret_be {a b : Bool} {x y : Int} (h : a = b ∧ x = y) : Ending.returned (.tuple #[.bool a, .int .i64 x]) = .returned (.tuple #[.bool b, .int .i64 y]) := by rw [h.1, h.2]
end Go.Proofs.Ytoilbgngefleiaa
