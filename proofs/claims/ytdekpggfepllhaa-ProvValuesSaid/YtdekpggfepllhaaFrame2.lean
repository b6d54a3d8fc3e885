/-
  From a sum's reading to what the walks are told of it.
-/
import Derived.Test.YtdekpggfepllhaaFrame
import Derived.Test.YtdekpggfepllhaaPairs
import Derived.Deep.Slices
import Derived.Lib.SmallJoins
set_option linter.unusedVariables false
set_option linter.unusedSimpArgs false
namespace Go.Proofs.Ytdekpggfepllhaa
open Go Go.ChangeShapes Go.WideShapes Go.ChangeAt Go.RowKit Go.Joins

section
variable {H : Type} {enc : TypeId × Value → H} {P : Program} {w : World} {base : Nat} {spare : Nat → Bool} {held : Bool}
theorem open_slice_twos {t e : TypeId} {f0 f1 : Field} {fuel : Nat} {cs : List Value} {x : DataW H × List MemPlace} (ht : P.underlying t = some (.slice e)) (he : P.underlying e = some (.struct #[f0, f1]))
    (ce : P.cellsOf e = 2) (o0 : f0.offset = 0) (o1 : f1.offset = 1) (c0 : P.cellsOf f0.type = 1) (c1 : P.cellsOf f1.type = 1)
    (h : DataW.trod enc P w base spare held fuel t cs = some x) :
    (cs = [.slice none 0 0] ∧ x = (.nil, [])) ∨
    ∃ (a : Addr) (len cap m n : Nat) (V0 V1 : Nat → Value) (Y0 Y1 : Nat → DataW H × List MemPlace), cs = [.slice (some a) len cap] ∧ base ≤ a.block ∧ len ≤ cap ∧ cap ≤ maxLen ∧ m = (if spare a.block then cap else len) ∧
      ∀ i, i < m → w.cell? (a.add (i * 2)) = some (V0 i) ∧ w.cell? (a.add (i * 2 + 1)) = some (V1 i) ∧
        DataW.trod enc P w base spare held n f0.type [V0 i] = some (Y0 i) ∧ DataW.trod enc P w base spare held n f1.type [V1 i] = some (Y1 i) := by
  rcases Go.Deep.open_slice ht h with h0 | ⟨a, len, cap, m, n, D, Pl, rfl, hb, hl, hm, hmm, rfl, hx⟩
  · exact Or.inl h0
  right
  have each : ∀ i, i < m → ∃ q : Value × Value × (DataW H × List MemPlace) × (DataW H × List MemPlace), w.cell? (a.add (i * 2)) = some q.1 ∧ w.cell? (a.add (i * 2 + 1)) = some q.2.1 ∧
      DataW.trod enc P w base spare held (n - 1) f0.type [q.1] = some q.2.2.1 ∧ DataW.trod enc P w base spare held (n - 1) f1.type [q.2.1] = some q.2.2.2 := by
    intro i hi
    obtain ⟨cs', h1, h2⟩ := hx i hi
    rw [ce] at h1
    obtain ⟨_, hlen, hcell⟩ := World.cells?_some h1
    obtain ⟨xs, k, hk, hxy, _, hxl, hf⟩ := DataW.trod_struct he h2
    have hk' : k = n - 1 := by omega
    subst hk'
    match xs, hxl, cs', hlen with
    | [y0, y1], _, [v0, v1], _ =>
      have g0 := hf 0 f0 rfl
      have g1 := hf 1 f1 rfl
      simp [o0, o1, c0, c1] at g0 g1
      have e0 := hcell 0 (by omega)
      have e1 := hcell 1 (by omega)
      rw [add_of_add] at e0 e1
      exact ⟨(v0, v1, y0, y1), by simpa using e0, by simpa using e1, g0, g1⟩
  obtain ⟨q, hq⟩ := Go.Deep.choose_lt each
  exact ⟨a, len, cap, m, n - 1, fun i => (q i).1, fun i => (q i).2.1, fun i => (q i).2.2.1, fun i => (q i).2.2.2, rfl, hb, hl, hm, hmm, fun i hi => hq i hi⟩
end

section
variable {H : Type} {enc : TypeId × Value → H} {W : World}
theorem arg_prods {a : Option Addr} {len cap : Nat} {d : DataW H} {p : List MemPlace}
    (h : DataW.Trod enc Try.prog W 0 (fun _ => true) true 22 (.slice a len cap) d p) :
    ∃ ms : Sm, ms.length = len ∧ Marks W a ms ∧ Szs ms ∧ len ≤ cap ∧ cap ≤ maxLen := by
  obtain ⟨fuel, hf⟩ := h
  rcases open_slice_twos Try.underlying22 Try.underlying42 (by kernel_rfl) (by kernel_rfl) (by kernel_rfl) (by kernel_rfl) (by kernel_rfl) hf with ⟨hcs, _⟩ | ⟨x, l, c, m, n, V0, V1, Y0, Y1, hcs, _, hl, hm, hmm, hi⟩
  · simp [Value.cells] at hcs
    obtain ⟨rfl, rfl, rfl⟩ := hcs
    exact ⟨[], rfl, Marks.nil_, (fun p (h : p ∈ ([] : Sm)) => absurd h (by simp)), Nat.le_refl _, by simp [maxLen]⟩
  · simp [Value.cells] at hcs
    obtain ⟨rfl, rfl, rfl⟩ := hcs
    have hlm : len ≤ m := by rw [hmm]; split <;> omega
    have hint : ∀ i, i < len → ∃ q : Pr, W.cell? (x.add (i * 2)) = some (.string q.1) ∧ W.cell? (x.add (i * 2 + 1)) = some (.int .i64 q.2) ∧ q.1.size ≤ maxLen := by
      intro i hil
      obtain ⟨e0, e1, t0, t1⟩ := hi i (by omega)
      obtain ⟨u, hu, _, hs⟩ := DataW.trod_string Try.underlying9 t0
      obtain ⟨v, hv, _, _⟩ := DataW.trod_int Try.underlying3 t1
      simp at hu hv
      exact ⟨(u, v), by rw [e0, hu], by rw [e1, hv], hs⟩
    obtain ⟨q, hq⟩ : ∃ q : Nat → Pr, ∀ i, i < len → W.cell? (x.add (i * 2)) = some (.string (q i).1) ∧ W.cell? (x.add (i * 2 + 1)) = some (.int .i64 (q i).2) ∧ (q i).1.size ≤ maxLen :=
      ⟨fun i => if h : i < len then Classical.choose (hint i h) else prZ, fun i h => by simp only [dif_pos h]; exact Classical.choose_spec (hint i h)⟩
    refine ⟨(List.range len).map q, by simp, ⟨by rw [flat_len], fun hn => ?_⟩, fun p hp => ?_, hl, hm⟩
    · have hn' : 0 < len := by simpa using hn
      refine ⟨x, rfl, ?_, fun j u hj => ?_⟩
      · have := World.block_lt_of_cell? W _ (hq 0 hn').1
        rwa [block_of_add] at this
      · have hjl := (List.getElem?_eq_some_iff.1 hj).1
        rw [flat_len] at hjl
        simp at hjl
        have hk : ((List.range len).map q)[j / 2]? = some (q (j / 2)) := by rw [List.getElem?_map, List.getElem?_range (by omega)]; rfl
        have hg := flat_get _ _ _ hk
        have hc := hq (j / 2) (by omega)
        rcases (show j % 2 = 0 ∨ j % 2 = 1 by omega) with h0 | h0
        · have e : j = 2 * (j / 2) := by omega
          rw [e, hg.1] at hj
          rw [e, Nat.mul_comm, hc.1]; exact hj
        · have e : j = 2 * (j / 2) + 1 := by omega
          rw [e, hg.2] at hj
          rw [e, Nat.mul_comm, hc.2.1]; exact hj
    · obtain ⟨i, hi', rfl⟩ := List.mem_map.1 hp
      exact (hq i (List.mem_range.1 hi')).2.2
end
end Go.Proofs.Ytdekpggfepllhaa
