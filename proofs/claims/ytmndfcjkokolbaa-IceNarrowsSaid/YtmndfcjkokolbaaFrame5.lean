/-
  From the reading of two lists in one array to what the walks are told of it.
-/
import Derived.Test.YtmndfcjkokolbaaFrame4
namespace Go.Proofs.Ytmndfcjkokolbaa
open Go.ChangeShapes Go.WideShapes Go.ChangeAt Go.RowKit Go.Joins Go.WideMaps

section
variable {H : Type} {enc : TypeId × Value → H} {W : World}
theorem cell_ints {v : Value} {fuel : Nat} {y : DataW H × List MemPlace}
    (hf : DataW.trod enc Try.prog W 0 (fun _ => true) true fuel 37 [v] = some y) :
    ∃ (a : Option Addr) (cap : Nat) (zs : List Int), v = .slice a zs.length cap ∧ Ints W a zs ∧ zs.length ≤ cap ∧ cap ≤ maxLen := by
  rcases open_ints Try.underlying37 Try.underlying3 (by kernel_rfl) hf with ⟨hcs, _⟩ | ⟨x, l, c, zs, hcs, _, hl, hm, hz, _, hcell, _⟩
  · simp at hcs
    subst hcs
    exact ⟨none, 0, [], rfl, Ints.nil_, by simp, by simp [maxLen]⟩
  · simp at hcs
    subst hcs
    have hzl : zs.length = c := by simpa using hz
    have htl : (zs.take l).length = l := by simp; omega
    refine ⟨some x, c, zs.take l, by rw [htl], ⟨by simp, fun hn => ?_⟩, by rw [htl]; exact hl, hm⟩
    have h0 := hcell 0 (by rw [htl] at hn; omega)
    refine ⟨x, rfl, ?_, fun j u hj => ?_⟩
    · have := World.block_lt_of_cell? W _ h0
      rwa [block_of_add] at this
    · rw [List.getElem?_map] at hj
      have hjl : j < l := by
        rcases Nat.lt_or_ge j l with h | h
        · exact h
        · rw [List.getElem?_eq_none (by rw [htl]; omega)] at hj; cases hj
      rw [List.getElem?_take_of_lt hjl, List.getElem?_eq_getElem (by omega)] at hj
      simp only [Option.map_some, Option.some.injEq] at hj
      rw [hcell j (by omega), ← hj, List.getD_eq_getElem?_getD, List.getElem?_eq_getElem (by omega)]; rfl
set_option maxRecDepth 100000 in
theorem arg_l2 {v : Value} {base : Nat} {d : DataW H} {p : List MemPlace} (hv : Value.okWide Try.prog W .any base 60 v)
    (h : DataW.Trod enc Try.prog W 0 (fun _ => true) true 60 v d p) :
    ∃ (a : Option Addr) (ca : Nat) (xs : List Int) (b : Option Addr) (cb : Nat) (ys : List Int), v = .agg #[.slice a xs.length ca, .slice b ys.length cb] ∧ Ints W a xs ∧ xs.length ≤ ca ∧ ca ≤ maxLen ∧ Ints W b ys ∧ ys.length ≤ cb ∧ cb ≤ maxLen := by
  simp only [Value.okWide, Try.underlying60] at hv
  obtain ⟨cs, rfl, h2, _⟩ := hv
  have hsz : cs.size = 2 := by rw [h2]; kernel_rfl
  obtain ⟨c0, c1, rfl⟩ := Go.Joins.array2 hsz
  obtain ⟨fuel, hf⟩ := h
  obtain ⟨y0, y1, n, h0, h1⟩ := take_one Try.underlying60 (by kernel_rfl) (by simpa [Value.cells] using hf)
  obtain ⟨a, ca, xs, rfl, hx, hx1, hx2⟩ := cell_ints h0
  obtain ⟨b, cb, ys, rfl, hy, hy1, hy2⟩ := cell_ints h1
  exact ⟨a, ca, xs, b, cb, ys, rfl, hx, hx1, hx2, hy, hy1, hy2⟩
end
end Go.Proofs.Ytmndfcjkokolbaa
