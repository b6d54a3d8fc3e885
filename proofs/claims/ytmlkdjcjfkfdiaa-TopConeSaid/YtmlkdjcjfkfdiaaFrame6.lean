/-
  From the reading of an array of two words to what the walks are told of it.
-/
import Derived.Test.YtmlkdjcjfkfdiaaFrame2
import Derived.Test.YtmlkdjcjfkfdiaaTables
import Derived.Deep.Slices
import Derived.WideKeyArr2
import Derived.Laws.IdiomArrays
namespace Go.Proofs.Ytmlkdjcjfkfdiaa
open Go.ChangeShapes Go.WideShapes Go.ChangeAt Go.RowKit Go.Joins Go.WideMaps

section
variable {H : Type} {enc : TypeId × Value → H} {W : World}
theorem take_one {P : Program} {fuel : Nat} {t e : TypeId} {a b : Value} {x : DataW H × List MemPlace} {w : World} {base : Nat} {sp : Nat → Bool} {held : Bool} (ht : P.underlying t = some (.array 2 e)) (hc : P.cellsOf e = 1)
    (h : DataW.trod enc P w base sp held fuel t [a, b] = some x) : ∃ y0 y1 n, DataW.trod enc P w base sp held n e [a] = some y0 ∧ DataW.trod enc P w base sp held n e [b] = some y1 := by
  obtain ⟨xs, m, _, _, _, hl, hi⟩ := DataW.trod_array ht h
  have h0 := hi 0 (by omega)
  have h1 := hi 1 (by omega)
  rw [hc] at h0 h1
  rw [List.getElem?_eq_getElem (by omega)] at h0 h1
  exact ⟨_, _, m, h0, h1⟩
theorem b2_key : ArrKey Try.prog 57 5 2 := ⟨Try.underlying57, by kernel_rfl, by kernel_rfl, by kernel_rfl⟩
set_option maxRecDepth 100000 in
theorem arg_b2 {v : Value} {base : Nat} {d : DataW H} {p : List MemPlace} (hv : Value.okWide Try.prog W .any base 57 v)
    (h : DataW.Trod enc Try.prog W 0 (fun _ => true) true 57 v d p) :
    ∃ a b : Int, v = .agg #[.int .u8 a, .int .u8 b] ∧ (Lit.int .u8 a).wf = true ∧ (Lit.int .u8 b).wf = true := by
  obtain ⟨xs, rfl, hs⟩ := okWide_arr b2_key hv
  obtain ⟨c0, c1, rfl⟩ := Go.Joins.array2 hs
  obtain ⟨fuel, hf⟩ := h
  obtain ⟨y0, y1, n, h0, h1⟩ := take_one Try.underlying57 b2_key.one (by simpa [Value.cells] using hf)
  obtain ⟨a, ha, _, wa⟩ := DataW.trod_int Try.underlying5 h0
  obtain ⟨b, hb, _, wb⟩ := DataW.trod_int Try.underlying5 h1
  simp at ha hb
  subst ha; subst hb
  exact ⟨a, b, rfl, wa, wb⟩
theorem i2_key : ArrKey Try.prog 56 3 2 := ⟨Try.underlying56, by kernel_rfl, by kernel_rfl, by kernel_rfl⟩
set_option maxRecDepth 100000 in
theorem arg_i2 {v : Value} {base : Nat} {d : DataW H} {p : List MemPlace} (hv : Value.okWide Try.prog W .any base 56 v)
    (h : DataW.Trod enc Try.prog W 0 (fun _ => true) true 56 v d p) :
    ∃ a b : Int, v = .agg #[.int .i64 a, .int .i64 b] ∧ (Lit.int .i64 a).wf = true ∧ (Lit.int .i64 b).wf = true := by
  obtain ⟨xs, rfl, hs⟩ := okWide_arr i2_key hv
  obtain ⟨c0, c1, rfl⟩ := Go.Joins.array2 hs
  obtain ⟨fuel, hf⟩ := h
  obtain ⟨y0, y1, n, h0, h1⟩ := take_one Try.underlying56 i2_key.one (by simpa [Value.cells] using hf)
  obtain ⟨a, ha, _, wa⟩ := DataW.trod_int Try.underlying3 h0
  obtain ⟨b, hb, _, wb⟩ := DataW.trod_int Try.underlying3 h1
  simp at ha hb
  subst ha; subst hb
  exact ⟨a, b, rfl, wa, wb⟩
theorem cell_ints {v : Value} {fuel : Nat} {y : DataW H × List MemPlace}
    (hf : DataW.trod enc Try.prog W 0 (fun _ => true) true fuel 28 [v] = some y) :
    ∃ (a : Option Addr) (cap : Nat) (zs : List Int), v = .slice a zs.length cap ∧ Ints W a zs ∧ zs.length ≤ cap ∧ cap ≤ maxLen := by
  rcases open_ints Try.underlying28 Try.underlying3 (by kernel_rfl) hf with ⟨hcs, _⟩ | ⟨x, l, c, zs, hcs, _, hl, hm, hz, _, hcell, _⟩
  · simp at hcs
    subst hcs
    exact ⟨none, 0, [], rfl, Ints.nil_, by simp, by simp [maxLen]⟩
  · simp at hcs
    subst hcs
    have hzl : zs.length = c := by simpa using hz
    have htl : (zs.take l).length = l := by simp; omega
    refine ⟨some x, c, zs.take l, by rw [htl], ⟨by simp, fun hn => ?_⟩, by rw [htl]; exact hl, hm⟩
    have h0 := hcell 0 (by rw [htl] at hn; omega)
    refine ⟨x, rfl, ?_, fun j u hj => ?_⟩
    · have := World.block_lt_of_cell? W _ h0
      rwa [block_of_add] at this
    · rw [List.getElem?_map] at hj
      have hjl : j < l := by
        rcases Nat.lt_or_ge j l with h | h
        · exact h
        · rw [List.getElem?_eq_none (by rw [htl]; omega)] at hj; cases hj
      rw [List.getElem?_take_of_lt hjl, List.getElem?_eq_getElem (by omega)] at hj
      simp only [Option.map_some, Option.some.injEq] at hj
      rw [hcell j (by omega), ← hj, List.getD_eq_getElem?_getD, List.getElem?_eq_getElem (by omega)]; rfl
theorem arg_tables {a : Option Addr} {len cap : Nat} {d : DataW H} {p : List MemPlace}
    (h : DataW.Trod enc Try.prog W 0 (fun _ => true) true 38 (.slice a len cap) d p) :
    ∃ T : List (List Int), T.length = len ∧ Tabs W a T ∧ len ≤ cap ∧ cap ≤ maxLen := by
  obtain ⟨fuel, hf⟩ := h
  rcases Go.Deep.open_slice1 Try.underlying38 (by kernel_rfl) hf with ⟨hcs, _⟩ | ⟨x, l, c, m, n, V, D, Pl, hcs, _, hl, hm, hmm, _, hi⟩
  · simp [Value.cells] at hcs
    obtain ⟨rfl, rfl, rfl⟩ := hcs
    exact ⟨[], rfl, Tabs.nil_, Nat.le_refl _, by simp [maxLen]⟩
  · simp [Value.cells] at hcs
    obtain ⟨rfl, rfl, rfl⟩ := hcs
    have hlm : len ≤ m := by rw [hmm]; split <;> omega
    have each : ∀ i, i < len → ∃ zs : List Int, ∃ (B : Option Addr) (cc : Nat), W.cell? (x.add i) = some (.slice B zs.length cc) ∧ Out W B cc zs := by
      intro i hil
      obtain ⟨h1, h2⟩ := hi i (by omega)
      obtain ⟨B, cc, zs, e, h3, h4, h5⟩ := cell_ints h2
      exact ⟨zs, B, cc, by rw [h1, e], h3, h4, h5⟩
    obtain ⟨q, hq⟩ : ∃ q : Nat → List Int, ∀ i, i < len → ∃ (B : Option Addr) (cc : Nat), W.cell? (x.add i) = some (.slice B (q i).length cc) ∧ Out W B cc (q i) :=
      ⟨fun i => if h : i < len then Classical.choose (each i h) else [], fun i h => by simp only [dif_pos h]; exact Classical.choose_spec (each i h)⟩
    refine ⟨(List.range len).map q, by simp, fun hn => ?_, hl, hm⟩
    have hn' : 0 < len := by simpa using hn
    obtain ⟨B0, c0, h0, _⟩ := hq 0 hn'
    obtain ⟨b, o, s⟩ := x
    have hs : s = none := by simpa [Addr.add] using World.cell?_spot h0
    subst hs
    refine ⟨b, o, rfl, ?_, fun k zs hk => ?_⟩
    · have := World.block_lt_of_cell? W _ h0
      rwa [block_of_add] at this
    · have hkl := (List.getElem?_eq_some_iff.1 hk).1
      simp at hkl
      rw [List.getElem?_map, List.getElem?_range hkl] at hk
      simp only [Option.map_some, Option.some.injEq] at hk
      subst hk
      rw [← add_mk]
      exact hq k hkl
end
end Go.Proofs.Ytmlkdjcjfkfdiaa
