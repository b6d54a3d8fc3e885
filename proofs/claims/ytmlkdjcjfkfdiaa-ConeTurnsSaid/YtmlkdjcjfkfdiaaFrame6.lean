/-
  From the reading of an array of two words to what the walks are told of it.
-/
import Derived.Test.YtmlkdjcjfkfdiaaFrame2
import Derived.WideKeyArr2
import Derived.Laws.IdiomArrays
namespace Go.Proofs.Ytmlkdjcjfkfdiaa
open Go.ChangeShapes Go.WideShapes Go.ChangeAt Go.RowKit Go.Joins Go.WideMaps

section
variable {H : Type} {enc : TypeId × Value → H} {W : World}
theorem take_one {P : Program} {fuel : Nat} {t e : TypeId} {a b : Value} {x : DataW H × List MemPlace} {w : World} {base : Nat} {sp : Nat → Bool} {held : Bool} (ht : P.underlying t = some (.array 2 e)) (hc : P.cellsOf e = 1)
    (h : DataW.trod enc P w base sp held fuel t [a, b] = some x) : ∃ y0 y1 n, DataW.trod enc P w base sp held n e [a] = some y0 ∧ DataW.trod enc P w base sp held n e [b] = some y1 := by
  obtain ⟨xs, m, _, _, _, hl, hi⟩ := DataW.trod_array ht h
  have h0 := hi 0 (by omega)
  have h1 := hi 1 (by omega)
  rw [hc] at h0 h1
  rw [List.getElem?_eq_getElem (by omega)] at h0 h1
  exact ⟨_, _, m, h0, h1⟩
theorem b2_key : ArrKey Try.prog 57 5 2 := ⟨Try.underlying57, by kernel_rfl, by kernel_rfl, by kernel_rfl⟩
set_option maxRecDepth 100000 in
theorem arg_b2 {v : Value} {base : Nat} {d : DataW H} {p : List MemPlace} (hv : Value.okWide Try.prog W .any base 57 v)
    (h : DataW.Trod enc Try.prog W 0 (fun _ => true) true 57 v d p) :
    ∃ a b : Int, v = .agg #[.int .u8 a, .int .u8 b] ∧ (Lit.int .u8 a).wf = true ∧ (Lit.int .u8 b).wf = true := by
  obtain ⟨xs, rfl, hs⟩ := okWide_arr b2_key hv
  obtain ⟨c0, c1, rfl⟩ := Go.Joins.array2 hs
  obtain ⟨fuel, hf⟩ := h
  obtain ⟨y0, y1, n, h0, h1⟩ := take_one Try.underlying57 b2_key.one (by simpa [Value.cells] using hf)
  obtain ⟨a, ha, _, wa⟩ := DataW.trod_int Try.underlying5 h0
  obtain ⟨b, hb, _, wb⟩ := DataW.trod_int Try.underlying5 h1
  simp at ha hb
  subst ha; subst hb
  exact ⟨a, b, rfl, wa, wb⟩
theorem i2_key : ArrKey Try.prog 56 3 2 := ⟨Try.underlying56, by kernel_rfl, by kernel_rfl, by kernel_rfl⟩
set_option maxRecDepth 100000 in
theorem arg_i2 {v : Value} {base : Nat} {d : DataW H} {p : List MemPlace} (hv : Value.okWide Try.prog W .any base 56 v)
    (h : DataW.Trod enc Try.prog W 0 (fun _ => true) true 56 v d p) :
    ∃ a b : Int, v = .agg #[.int .i64 a, .int .i64 b] ∧ (Lit.int .i64 a).wf = true ∧ (Lit.int .i64 b).wf = true := by
  obtain ⟨xs, rfl, hs⟩ := okWide_arr i2_key hv
  obtain ⟨c0, c1, rfl⟩ := Go.Joins.array2 hs
  obtain ⟨fuel, hf⟩ := h
  obtain ⟨y0, y1, n, h0, h1⟩ := take_one Try.underlying56 i2_key.one (by simpa [Value.cells] using hf)
  obtain ⟨a, ha, _, wa⟩ := DataW.trod_int Try.underlying3 h0
  obtain ⟨b, hb, _, wb⟩ := DataW.trod_int Try.underlying3 h1
  simp at ha hb
  subst ha; subst hb
  exact ⟨a, b, rfl, wa, wb⟩
end
end Go.Proofs.Ytmlkdjcjfkfdiaa
