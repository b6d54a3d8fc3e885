/-
  From the reading of points, ratios and lines to what the walks are told of it.
-/
import Derived.Test.YtoilbgngefleiaaFrame
import Derived.Test.YtoilbgngefleiaaJoined
import Derived.Deep.SlicePairs
import Derived.Lib.SmallJoins
namespace Go.Proofs.Ytoilbgngefleiaa
open Go.ChangeShapes Go.WideShapes Go.ChangeAt Go.RowKit Go.Joins

section
variable {H : Type} {enc : TypeId × Value → H} {W : World}
theorem arg_points {a : Option Addr} {len cap : Nat} {d : DataW H} {p : List MemPlace}
    (h : DataW.Trod enc Try.prog W 0 (fun _ => true) true 22 (.slice a len cap) d p) :
    ∃ ms : List (Int × Int), ms.length = len ∧ Marks W a ms ∧ len ≤ cap ∧ cap ≤ maxLen := by
  obtain ⟨fuel, hf⟩ := h
  rcases Go.Deep.open_slice_pairs Try.underlying22 Try.underlying54 (by kernel_rfl) (by kernel_rfl) (by kernel_rfl) (by kernel_rfl) (by kernel_rfl) hf with ⟨hcs, _⟩ | ⟨x, l, c, m, n, V0, V1, D0, D1, P0, P1, hcs, _, hl, hm, hmm, _, hi⟩
  · simp [Value.cells] at hcs
    obtain ⟨rfl, rfl, rfl⟩ := hcs
    exact ⟨[], rfl, Marks.nil_, Nat.le_refl _, by simp [maxLen]⟩
  · simp [Value.cells] at hcs
    obtain ⟨rfl, rfl, rfl⟩ := hcs
    have hlm : len ≤ m := by rw [hmm]; split <;> omega
    have hint : ∀ i, i < len → ∃ q : Int × Int, W.cell? (x.add (i * 2)) = some (.int .i64 q.1) ∧ W.cell? (x.add (i * 2 + 1)) = some (.int .i64 q.2) := by
      intro i hil
      obtain ⟨e0, e1, t0, t1⟩ := hi i (by omega)
      obtain ⟨u, hu, _, _⟩ := DataW.trod_int Try.underlying3 t0
      obtain ⟨v, hv, _, _⟩ := DataW.trod_int Try.underlying3 t1
      simp at hu hv
      exact ⟨(u, v), by rw [e0, hu], by rw [e1, hv]⟩
    obtain ⟨q, hq⟩ : ∃ q : Nat → Int × Int, ∀ i, i < len → W.cell? (x.add (i * 2)) = some (.int .i64 (q i).1) ∧ W.cell? (x.add (i * 2 + 1)) = some (.int .i64 (q i).2) :=
      ⟨fun i => if h : i < len then Classical.choose (hint i h) else (0, 0), fun i h => by simp only [dif_pos h]; exact Classical.choose_spec (hint i h)⟩
    refine ⟨(List.range len).map q, by simp, ⟨by rw [flat_len], fun hn => ?_⟩, hl, hm⟩
    have hn' : 0 < len := by simpa using hn
    refine ⟨x, rfl, ?_, fun j u hj => ?_⟩
    · have := World.block_lt_of_cell? W _ (hq 0 hn').1
      rwa [block_of_add] at this
    · have hjl := (List.getElem?_eq_some_iff.1 hj).1
      rw [flat_len] at hjl
      simp at hjl
      have hk : ((List.range len).map q)[j / 2]? = some (q (j / 2)) := by rw [List.getElem?_map, List.getElem?_range (by omega)]; rfl
      have hg := flat_get _ _ _ hk
      have hc := hq (j / 2) (by omega)
      rcases Nat.mod_two_eq_zero_or_one j with h0 | h0
      · have e : j = 2 * (j / 2) := by omega
        rw [e, hg.1] at hj
        rw [e, Nat.mul_comm, hc.1]; exact hj
      · have e : j = 2 * (j / 2) + 1 := by omega
        rw [e, hg.2] at hj
        rw [e, Nat.mul_comm, hc.2]; exact hj
set_option maxRecDepth 100000 in
theorem arg_point {v : Value} {base : Nat} {d : DataW H} {p : List MemPlace} (hv : Value.okWide Try.prog W .any base 54 v)
    (h : DataW.Trod enc Try.prog W 0 (fun _ => true) true 54 v d p) :
    ∃ n m : Int, v = .agg #[.int .i64 n, .int .i64 m] ∧ (Lit.int .i64 n).wf = true ∧ (Lit.int .i64 m).wf = true := by
  obtain ⟨v0, v1, y0, y1, k, rfl, _, _, t0, t1⟩ := open_agg2 Try.underlying54 (by kernel_rfl) (by kernel_rfl) hv h
  obtain ⟨n, hn, _, wn⟩ := DataW.trod_int Try.underlying3 t0
  obtain ⟨m, hm, _, wm⟩ := DataW.trod_int Try.underlying3 t1
  simp at hn hm
  subst hn; subst hm
  exact ⟨n, m, rfl, wn, wm⟩
set_option maxRecDepth 100000 in
theorem arg_ratio {v : Value} {base : Nat} {d : DataW H} {p : List MemPlace} (hv : Value.okWide Try.prog W .any base 34 v)
    (h : DataW.Trod enc Try.prog W 0 (fun _ => true) true 34 v d p) :
    ∃ n m : Int, v = .agg #[.int .i64 n, .int .i64 m] ∧ (Lit.int .i64 n).wf = true ∧ (Lit.int .i64 m).wf = true := by
  obtain ⟨v0, v1, y0, y1, k, rfl, _, _, t0, t1⟩ := open_agg2 Try.underlying34 (by kernel_rfl) (by kernel_rfl) hv h
  obtain ⟨n, hn, _, wn⟩ := DataW.trod_int Try.underlying3 t0
  obtain ⟨m, hm, _, wm⟩ := DataW.trod_int Try.underlying3 t1
  simp at hn hm
  subst hn; subst hm
  exact ⟨n, m, rfl, wn, wm⟩
set_option maxRecDepth 100000 in
theorem arg_line {v : Value} {base : Nat} {d : DataW H} {p : List MemPlace} (hv : Value.okWide Try.prog W .any base 24 v)
    (h : DataW.Trod enc Try.prog W 0 (fun _ => true) true 24 v d p) :
    ∃ n m l : Int, v = .agg #[.int .i64 n, .int .i64 m, .int .i64 l] ∧ (Lit.int .i64 n).wf = true ∧ (Lit.int .i64 m).wf = true ∧ (Lit.int .i64 l).wf = true := by
  obtain ⟨v0, v1, v2, y0, y1, y2, k, rfl, _, _, t0, t1, t2⟩ := open_agg3 Try.underlying24 (by kernel_rfl) (by kernel_rfl) hv h
  obtain ⟨n, hn, _, wn⟩ := DataW.trod_int Try.underlying3 t0
  obtain ⟨m, hm, _, wm⟩ := DataW.trod_int Try.underlying3 t1
  obtain ⟨l, hl, _, wl⟩ := DataW.trod_int Try.underlying3 t2
  simp at hn hm hl
  subst hn; subst hm; subst hl
  exact ⟨n, m, l, rfl, wn, wm, wl⟩
end
end Go.Proofs.Ytoilbgngefleiaa
