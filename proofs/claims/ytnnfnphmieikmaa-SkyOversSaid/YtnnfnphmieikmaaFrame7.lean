/-
  From the reading of an array of three lists of cells to what the walks are told of it.
-/
import Derived.Test.YtnnfnphmieikmaaFrame4
namespace Go.Proofs.Ytnnfnphmieikmaa
open Go.ChangeShapes Go.WideShapes Go.ChangeAt Go.RowKit Go.Joins Go.WideMaps

section
variable {H : Type} {enc : TypeId × Value → H} {W : World}
theorem cell_cells {v : Value} {fuel : Nat} {y : DataW H × List MemPlace}
    (hf : DataW.trod enc Try.prog W 0 (fun _ => true) true fuel 41 [v] = some y) :
    ∃ (a : Option Addr) (cap : Nat) (ms : List (Int × Int)), v = .slice a ms.length cap ∧ Marks W a ms ∧ ms.length ≤ cap ∧ cap ≤ maxLen := by
  obtain ⟨d, p⟩ := y
  have hv : ∃ a l c, v = .slice a l c := by
    rcases Go.Deep.open_slice_pairs Try.underlying41 Try.underlying43 (by kernel_rfl) (by kernel_rfl) (by kernel_rfl) (by kernel_rfl) (by kernel_rfl) hf with ⟨hcs, _⟩ | ⟨x, l, c, rest⟩
    · simp at hcs
      exact ⟨_, _, _, hcs⟩
    · obtain ⟨m, n, V0, V1, D0, D1, P0, P1, hcs, _⟩ := rest
      simp at hcs
      exact ⟨_, _, _, hcs⟩
  obtain ⟨a, l, c, rfl⟩ := hv
  obtain ⟨ms, rfl, h1, h2, h3⟩ := arg_cells (d := d) (p := p) (a := a) (len := l) (cap := c) ⟨fuel, by simpa [Value.cells] using hf⟩
  exact ⟨a, c, ms, rfl, h1, h2, h3⟩
set_option maxRecDepth 100000 in
theorem arg_c3 {v : Value} {base : Nat} {d : DataW H} {p : List MemPlace} (hv : Value.okWide Try.prog W .any base 60 v)
    (h : DataW.Trod enc Try.prog W 0 (fun _ => true) true 60 v d p) :
    ∃ (a : Option Addr) (ca : Nat) (xs : List (Int × Int)) (b : Option Addr) (cb : Nat) (ys : List (Int × Int)) (c : Option Addr) (cc : Nat) (zs : List (Int × Int)), v = .agg #[.slice a xs.length ca, .slice b ys.length cb, .slice c zs.length cc] ∧ Marks W a xs ∧ xs.length ≤ ca ∧ ca ≤ maxLen ∧ Marks W b ys ∧ ys.length ≤ cb ∧ cb ≤ maxLen ∧ Marks W c zs ∧ zs.length ≤ cc ∧ cc ≤ maxLen := by
  simp only [Value.okWide, Try.underlying60] at hv
  obtain ⟨cs, rfl, h2, _⟩ := hv
  have hsz : cs.size = 3 := by rw [h2]; kernel_rfl
  obtain ⟨c0, c1, c2, rfl⟩ := Go.Joins.array3 hsz
  obtain ⟨fuel, hf⟩ := h
  obtain ⟨y0, y1, y2, n, _, h0, h1, h3⟩ := trod_array3 Try.underlying60 (by kernel_rfl) (by simpa [Value.cells] using hf)
  obtain ⟨a, ca, xs, rfl, hx, hx1, hx2⟩ := cell_cells h0
  obtain ⟨b, cb, ys, rfl, hy, hy1, hy2⟩ := cell_cells h1
  obtain ⟨c, cc, zs, rfl, hz, hz1, hz2⟩ := cell_cells h3
  exact ⟨a, ca, xs, b, cb, ys, c, cc, zs, rfl, hx, hx1, hx2, hy, hy1, hy2, hz, hz1, hz2⟩
end
end Go.Proofs.Ytnnfnphmieikmaa
