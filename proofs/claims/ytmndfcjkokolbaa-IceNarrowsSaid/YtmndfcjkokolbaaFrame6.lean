/-
  From the reading of a slice of slices of ints to what the walks are told of it.
-/
import Derived.Test.YtmndfcjkokolbaaFrame5
import Derived.Test.YtmndfcjkokolbaaTabs
import Derived.Deep.Slices
namespace Go.Proofs.Ytmndfcjkokolbaa
open Go.ChangeShapes Go.WideShapes Go.ChangeAt Go.RowKit Go.Joins Go.WideMaps

section
variable {H : Type} {enc : TypeId × Value → H} {W : World}
theorem arg_tables {a : Option Addr} {len cap : Nat} {d : DataW H} {p : List MemPlace}
    (h : DataW.Trod enc Try.prog W 0 (fun _ => true) true 48 (.slice a len cap) d p) :
    ∃ T : List (List Int), T.length = len ∧ Tabs W a T ∧ len ≤ cap ∧ cap ≤ maxLen := by
  obtain ⟨fuel, hf⟩ := h
  rcases Go.Deep.open_slice1 Try.underlying48 (by kernel_rfl) hf with ⟨hcs, _⟩ | ⟨x, l, c, m, n, V, D, Pl, hcs, _, hl, hm, hmm, _, hi⟩
  · simp [Value.cells] at hcs
    obtain ⟨rfl, rfl, rfl⟩ := hcs
    exact ⟨[], rfl, Tabs.nil_, Nat.le_refl _, by simp [maxLen]⟩
  · simp [Value.cells] at hcs
    obtain ⟨rfl, rfl, rfl⟩ := hcs
    have hlm : len ≤ m := by rw [hmm]; split <;> omega
    have each : ∀ i, i < len → ∃ zs : List Int, ∃ (B : Option Addr) (cc : Nat), W.cell? (x.add i) = some (.slice B zs.length cc) ∧ Ints W B zs ∧ zs.length ≤ cc ∧ cc ≤ maxLen := by
      intro i hil
      obtain ⟨h1, h2⟩ := hi i (by omega)
      obtain ⟨B, cc, zs, e, h3, h4, h5⟩ := cell_ints h2
      exact ⟨zs, B, cc, by rw [h1, e], h3, h4, h5⟩
    obtain ⟨q, hq⟩ : ∃ q : Nat → List Int, ∀ i, i < len → ∃ (B : Option Addr) (cc : Nat), W.cell? (x.add i) = some (.slice B (q i).length cc) ∧ Ints W B (q i) ∧ (q i).length ≤ cc ∧ cc ≤ maxLen :=
      ⟨fun i => if h : i < len then Classical.choose (each i h) else [], fun i h => by simp only [dif_pos h]; exact Classical.choose_spec (each i h)⟩
    refine ⟨(List.range len).map q, by simp, fun hn => ?_, hl, hm⟩
    have hn' : 0 < len := by simpa using hn
    obtain ⟨B0, c0, h0, _⟩ := hq 0 hn'
    obtain ⟨b, o, s⟩ := x
    have hs : s = none := by simpa [Addr.add] using World.cell?_spot h0
    subst hs
    refine ⟨b, o, rfl, ?_, fun k zs hk => ?_⟩
    · have := World.block_lt_of_cell? W _ h0
      rwa [block_of_add] at this
    · have hkl := (List.getElem?_eq_some_iff.1 hk).1
      simp at hkl
      rw [List.getElem?_map, List.getElem?_range hkl] at hk
      simp only [Option.map_some, Option.some.injEq] at hk
      subst hk
      rw [← add_mk]
      exact hq k hkl
theorem i2_key : ArrKey Try.prog 49 3 2 := ⟨Try.underlying49, by kernel_rfl, by kernel_rfl, by kernel_rfl⟩
set_option maxRecDepth 100000 in
theorem arg_i2 {v : Value} {base : Nat} {d : DataW H} {p : List MemPlace} (hv : Value.okWide Try.prog W .any base 49 v)
    (h : DataW.Trod enc Try.prog W 0 (fun _ => true) true 49 v d p) :
    ∃ a b : Int, v = .agg #[.int .i64 a, .int .i64 b] ∧ (Lit.int .i64 a).wf = true ∧ (Lit.int .i64 b).wf = true := by
  obtain ⟨xs, rfl, hs⟩ := okWide_arr i2_key hv
  obtain ⟨c0, c1, rfl⟩ := Go.Joins.array2 hs
  obtain ⟨fuel, hf⟩ := h
  obtain ⟨y0, y1, n, h0, h1⟩ := take_one Try.underlying49 i2_key.one (by simpa [Value.cells] using hf)
  obtain ⟨a, ha, _, wa⟩ := DataW.trod_int Try.underlying3 h0
  obtain ⟨b, hb, _, wb⟩ := DataW.trod_int Try.underlying3 h1
  simp at ha hb
  subst ha; subst hb
  exact ⟨a, b, rfl, wa, wb⟩
end
end Go.Proofs.Ytmndfcjkokolbaa
