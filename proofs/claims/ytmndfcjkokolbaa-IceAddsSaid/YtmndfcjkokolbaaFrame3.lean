/-
  From the reading of an array of three words to what the walks are told of it.
-/
import Derived.Test.YtmndfcjkokolbaaFrame2
import Derived.Laws.IdiomArrays
import Derived.WideKeyArr2
namespace Go.Proofs.Ytmndfcjkokolbaa
open Go.ChangeShapes Go.WideShapes Go.ChangeAt Go.RowKit Go.Joins Go.WideMaps

section
variable {H : Type} {enc : TypeId × Value → H} {W : World}
theorem w3_key : ArrKey Try.prog 55 54 3 := ⟨Try.underlying55, by kernel_rfl, by kernel_rfl, by kernel_rfl⟩
set_option maxRecDepth 100000 in
theorem arg_w3 {v : Value} {base : Nat} {d : DataW H} {p : List MemPlace} (hv : Value.okWide Try.prog W .any base 55 v)
    (h : DataW.Trod enc Try.prog W 0 (fun _ => true) true 55 v d p) :
    ∃ a b c : Int, v = .agg #[.int .u16 a, .int .u16 b, .int .u16 c] ∧ (Lit.int .u16 a).wf = true ∧ (Lit.int .u16 b).wf = true ∧ (Lit.int .u16 c).wf = true := by
  obtain ⟨xs, rfl, hs⟩ := okWide_arr w3_key hv
  obtain ⟨c0, c1, c2, rfl⟩ := Go.Joins.array3 hs
  obtain ⟨fuel, hf⟩ := h
  obtain ⟨y0, y1, y2, n, _, h0, h1, h2⟩ := trod_array3 Try.underlying55 w3_key.one (by simpa [Value.cells] using hf)
  obtain ⟨a, ha, _, wa⟩ := DataW.trod_int Try.underlying54 h0
  obtain ⟨b, hb, _, wb⟩ := DataW.trod_int Try.underlying54 h1
  obtain ⟨c, hc, _, wc⟩ := DataW.trod_int Try.underlying54 h2
  simp at ha hb hc
  subst ha; subst hb; subst hc
  exact ⟨a, b, c, rfl, wa, wb, wc⟩
end
end Go.Proofs.Ytmndfcjkokolbaa
