/-
  A cut behind one statement, wherever it stands: what it leaves of the world, and that of the frame only some slots have changed.
-/
import Derived.Test.YtmlkdjcjfkfdiaaJoined
import Derived.Deep.Cut
namespace Go.Proofs.Ytmlkdjcjfkfdiaa
open Go Go.RowKit

def putFrom (a : Act) (m n : Nat) (us : List Value) : Act := ⟨(a.tmps.toList.take m ++ us ++ a.tmps.toList.drop (m + n)).toArray, a.defers⟩
def CutPost (R : World → Prop) (a : Act) (m n : Nat) : Exit → Act → World → Prop
  | .normal, a', w' => R w' ∧ ∃ us : List Value, us.length = n ∧ a' = putFrom a m n us
  | _, _, _ => False
theorem wp_cut_from {P : Program} {s : Code} {Q : Exit → Act → World → Prop} {a : Act} {w : World} (m n : Nat) (R : World → Prop)
    (first : s.wp P (CutPost R a m n) a w) (rest : ∀ us : List Value, us.length = n → ∀ w', R w' → Q .normal (putFrom a m n us) w') : s.wp P Q a w := by
  refine Code.wp_mono ?_ first
  intro e a' w' h
  cases e with
  | normal =>
    obtain ⟨h1, us, h2, h3⟩ := h
    rw [h3]
    exact rest us h2 w' h1
  | _ => exact h.elim
theorem list_next {us : List Value} {n : Nat} (h : us.length = n + 1) : ∃ u vs, us = u :: vs ∧ vs.length = n := by
  cases us with
  | nil => cases h
  | cons u vs => exact ⟨u, vs, rfl, by simpa using h⟩
theorem list_end {us : List Value} (h : us.length = 0) : us = [] := List.eq_nil_of_length_eq_zero h
end Go.Proofs.Ytmlkdjcjfkfdiaa
