/-
  From the reading of odds and of a ratio to what the walks are told of it.
-/
import Derived.Test.YtolpbbabmcpdkaaJoined
import Derived.Lib.SmallJoins
import Derived.Deep.SlicePairs
set_option linter.unusedVariables false
set_option linter.unusedSimpArgs false
namespace Go.Proofs.Ytolpbbabmcpdkaa
open Go.ChangeShapes Go.WideShapes Go.ChangeAt Go.RowKit Go.Joins

section
variable {H : Type} {enc : TypeId × Value → H} {W : World}
theorem cell_ints {v : Value} {fuel : Nat} {y : DataW H × List MemPlace}
    (hf : DataW.trod enc Try.prog W 0 (fun _ => true) true fuel 22 [v] = some y) :
    ∃ (a : Option Addr) (cap : Nat) (zs : List Int), v = .slice a zs.length cap ∧ Ints W a zs ∧ zs.length ≤ cap ∧ cap ≤ maxLen := by
  obtain ⟨d, p⟩ := y
  have hv : ∃ a l c, v = .slice a l c := by
    rcases open_ints Try.underlying22 Try.underlying3 (by kernel_rfl) hf with ⟨hcs, _⟩ | ⟨x, l, c, rest⟩
    · simp at hcs
      exact ⟨_, _, _, hcs⟩
    · obtain ⟨zs, hcs, _⟩ := rest
      simp at hcs
      exact ⟨_, _, _, hcs⟩
  obtain ⟨a, l, c, rfl⟩ := hv
  obtain ⟨zs, rfl, h1, h2, h3⟩ := arg_ints (d := d) (p := p) (a := a) (len := l) (cap := c) ⟨fuel, by simpa [Value.cells] using hf⟩
  exact ⟨a, c, zs, rfl, h1, h2, h3⟩
set_option maxRecDepth 100000 in
theorem arg_odds {v : Value} {base : Nat} {d : DataW H} {p : List MemPlace} (hv : Value.okWide Try.prog W .any base 24 v)
    (h : DataW.Trod enc Try.prog W 0 (fun _ => true) true 24 v d p) :
    ∃ (a : Option Addr) (ca : Nat) (xs : List Int) (b : Option Addr) (cb : Nat) (ys : List Int), v = .agg #[.slice a xs.length ca, .slice b ys.length cb] ∧ Ints W a xs ∧ xs.length ≤ ca ∧ ca ≤ maxLen ∧ Ints W b ys ∧ ys.length ≤ cb ∧ cb ≤ maxLen := by
  obtain ⟨v0, v1, y0, y1, k, rfl, _, _, t0, t1⟩ := open_agg2 Try.underlying24 (by kernel_rfl) (by kernel_rfl) hv h
  obtain ⟨a, ca, xs, rfl, hx, hx1, hx2⟩ := cell_ints t0
  obtain ⟨b, cb, ys, rfl, hy, hy1, hy2⟩ := cell_ints t1
  exact ⟨a, ca, xs, b, cb, ys, rfl, hx, hx1, hx2, hy, hy1, hy2⟩
set_option maxRecDepth 100000 in
theorem arg_ratio {v : Value} {base : Nat} {d : DataW H} {p : List MemPlace} (hv : Value.okWide Try.prog W .any base 28 v)
    (h : DataW.Trod enc Try.prog W 0 (fun _ => true) true 28 v d p) :
    ∃ n m : Int, v = .agg #[.int .i64 n, .int .i64 m] ∧ (Lit.int .i64 n).wf = true ∧ (Lit.int .i64 m).wf = true := by
  obtain ⟨v0, v1, y0, y1, k, rfl, _, _, t0, t1⟩ := open_agg2 Try.underlying28 (by kernel_rfl) (by kernel_rfl) hv h
  obtain ⟨n, hn, _, wn⟩ := DataW.trod_int Try.underlying3 t0
  obtain ⟨m, hm, _, wm⟩ := DataW.trod_int Try.underlying3 t1
  simp at hn hm
  subst hn; subst hm
  exact ⟨n, m, rfl, wn, wm⟩
end
end Go.Proofs.Ytolpbbabmcpdkaa
