/-
  Contract: WriteString of a builder that the call made, out of the laying of strings.Repeat; Repeat of one byte.
-/
import Derived.Test.YtcmnjmhedmneiaaDoorShelf
import Derived.Test.YtcmnjmhedmneiaaDoorOwn
import Derived.Test.YtcmnjmhedmneiaaDoorSpec
namespace Go.Proofs.YtcmnjmhedmneiaaDoor
open Go.RowKit Go.Shelf

/-- A text as a value. -/
abbrev sv (l : List UInt8) : Value := .string ⟨l.toArray⟩
theorem write_any (B b : Nat) (l m : List UInt8) (w : World) (h : Lib.IsBuilder 85 5 B b (Lib.byteCells l) w) (hl : l.length + m.length ≤ 100000) (hB : B ≤ w.heap.size) :
    Calls Tryd.prog 87 #[.pointer (some ⟨b, 0, none⟩), sv m] w fun e w' => e = .returned (.tuple #[.int .i64 m.length, .nilIface]) ∧ Lib.IsBuilder 85 5 B b (Lib.byteCells (l ++ m)) w' ∧ Below B w w' := by
  have hs : (⟨m.toArray⟩ : ByteArray).size = m.length := by simp [ByteArray.size]
  refine (Any.Builder_WriteString { lays105 with } { Builder_Extra_105 with } B b (Lib.byteCells l) ⟨m.toArray⟩ w h (by rw [hs, Lib.byteCells_length]; omega) hB).mono ?_
  rintro e w' ⟨rfl, h1, h2⟩
  refine ⟨by rw [hs], .inr ?_, h2⟩
  rw [Lib.byteCells_append]
  exact h1
end Go.Proofs.YtcmnjmhedmneiaaDoor
