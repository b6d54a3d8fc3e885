/-
  From the reading of an array of three bytes to what the walks are told of it.
-/
import Derived.Test.YticokhiehejljaaFrame2
import Derived.Laws.IdiomArrays
import Derived.WideKeyArr2
namespace Go.Proofs.Yticokhiehejljaa
open Go.ChangeShapes Go.WideShapes Go.ChangeAt Go.RowKit Go.Joins Go.WideMaps

section
variable {H : Type} {enc : TypeId × Value → H} {W : World}
theorem v3_key : ArrKey Try.prog 53 5 3 := ⟨Try.underlying53, by kernel_rfl, by kernel_rfl, by kernel_rfl⟩
set_option maxRecDepth 100000 in
theorem arg_v3 {v : Value} {base : Nat} {d : DataW H} {p : List MemPlace} (hv : Value.okWide Try.prog W .any base 53 v)
    (h : DataW.Trod enc Try.prog W 0 (fun _ => true) true 53 v d p) :
    ∃ a b c : Int, v = .agg #[.int .u8 a, .int .u8 b, .int .u8 c] ∧ (Lit.int .u8 a).wf = true ∧ (Lit.int .u8 b).wf = true ∧ (Lit.int .u8 c).wf = true := by
  obtain ⟨xs, rfl, hs⟩ := okWide_arr v3_key hv
  obtain ⟨c0, c1, c2, rfl⟩ := Go.Joins.array3 hs
  obtain ⟨fuel, hf⟩ := h
  obtain ⟨y0, y1, y2, n, _, h0, h1, h2⟩ := trod_array3 Try.underlying53 v3_key.one (by simpa [Value.cells] using hf)
  obtain ⟨a, ha, _, wa⟩ := DataW.trod_int Try.underlying5 h0
  obtain ⟨b, hb, _, wb⟩ := DataW.trod_int Try.underlying5 h1
  obtain ⟨c, hc, _, wc⟩ := DataW.trod_int Try.underlying5 h2
  simp at ha hb hc
  subst ha; subst hb; subst hc
  exact ⟨a, b, c, rfl, wa, wb, wc⟩
end
end Go.Proofs.Yticokhiehejljaa
