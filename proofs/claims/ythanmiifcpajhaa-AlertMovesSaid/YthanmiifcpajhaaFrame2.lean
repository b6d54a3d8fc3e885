/-
  From the tasks' reading to what the walks are told of it.
-/
import Derived.Test.YthanmiifcpajhaaFrame
import Derived.Test.YthanmiifcpajhaaPairs
import Derived.Deep.Slices
import Derived.Lib.SmallJoins
set_option linter.unusedVariables false
set_option linter.unusedSimpArgs false
namespace Go.Proofs.Ythanmiifcpajhaa
open Go Go.ChangeShapes Go.WideShapes Go.ChangeAt Go.RowKit Go.Joins

section
variable {H : Type} {enc : TypeId × Value → H} {P : Program} {w : World} {base : Nat} {spare : Nat → Bool} {held : Bool}
theorem open_slice_triples {t e : TypeId} {f0 f1 f2 : Field} {fuel : Nat} {cs : List Value} {x : DataW H × List MemPlace} (ht : P.underlying t = some (.slice e)) (he : P.underlying e = some (.struct #[f0, f1, f2]))
    (ce : P.cellsOf e = 3) (o0 : f0.offset = 0) (o1 : f1.offset = 1) (o2 : f2.offset = 2) (c0 : P.cellsOf f0.type = 1) (c1 : P.cellsOf f1.type = 1) (c2 : P.cellsOf f2.type = 1)
    (h : DataW.trod enc P w base spare held fuel t cs = some x) :
    (cs = [.slice none 0 0] ∧ x = (.nil, [])) ∨
    ∃ (a : Addr) (len cap m n : Nat) (V0 V1 V2 : Nat → Value) (Y0 Y1 Y2 : Nat → DataW H × List MemPlace), cs = [.slice (some a) len cap] ∧ base ≤ a.block ∧ len ≤ cap ∧ cap ≤ maxLen ∧ m = (if spare a.block then cap else len) ∧
      ∀ i, i < m → w.cell? (a.add (i * 3)) = some (V0 i) ∧ w.cell? (a.add (i * 3 + 1)) = some (V1 i) ∧ w.cell? (a.add (i * 3 + 2)) = some (V2 i) ∧
        DataW.trod enc P w base spare held n f0.type [V0 i] = some (Y0 i) ∧ DataW.trod enc P w base spare held n f1.type [V1 i] = some (Y1 i) ∧ DataW.trod enc P w base spare held n f2.type [V2 i] = some (Y2 i) := by
  rcases Go.Deep.open_slice ht h with h0 | ⟨a, len, cap, m, n, D, Pl, rfl, hb, hl, hm, hmm, rfl, hx⟩
  · exact Or.inl h0
  right
  have each : ∀ i, i < m → ∃ q : Value × Value × Value × (DataW H × List MemPlace) × (DataW H × List MemPlace) × (DataW H × List MemPlace), w.cell? (a.add (i * 3)) = some q.1 ∧ w.cell? (a.add (i * 3 + 1)) = some q.2.1 ∧ w.cell? (a.add (i * 3 + 2)) = some q.2.2.1 ∧
      DataW.trod enc P w base spare held (n - 1) f0.type [q.1] = some q.2.2.2.1 ∧ DataW.trod enc P w base spare held (n - 1) f1.type [q.2.1] = some q.2.2.2.2.1 ∧ DataW.trod enc P w base spare held (n - 1) f2.type [q.2.2.1] = some q.2.2.2.2.2 := by
    intro i hi
    obtain ⟨cs', h1, h2⟩ := hx i hi
    rw [ce] at h1
    obtain ⟨_, hlen, hcell⟩ := World.cells?_some h1
    obtain ⟨xs, k, hk, hxy, _, hxl, hf⟩ := DataW.trod_struct he h2
    have hk' : k = n - 1 := by omega
    subst hk'
    match xs, hxl, cs', hlen with
    | [y0, y1, y2], _, [v0, v1, v2], _ =>
      have g0 := hf 0 f0 rfl
      have g1 := hf 1 f1 rfl
      have g2 := hf 2 f2 rfl
      simp [o0, o1, o2, c0, c1, c2] at g0 g1 g2
      have e0 := hcell 0 (by omega)
      have e1 := hcell 1 (by omega)
      have e2 := hcell 2 (by omega)
      rw [add_of_add] at e0 e1 e2
      exact ⟨(v0, v1, v2, y0, y1, y2), by simpa using e0, by simpa using e1, by simpa using e2, g0, g1, g2⟩
  obtain ⟨q, hq⟩ := Go.Deep.choose_lt each
  exact ⟨a, len, cap, m, n - 1, fun i => (q i).1, fun i => (q i).2.1, fun i => (q i).2.2.1, fun i => (q i).2.2.2.1, fun i => (q i).2.2.2.2.1, fun i => (q i).2.2.2.2.2, rfl, hb, hl, hm, hmm,
    fun i hi => hq i hi⟩
end

section
variable {H : Type} {enc : TypeId × Value → H} {W : World}
theorem arg_tasks {a : Option Addr} {len cap : Nat} {d : DataW H} {p : List MemPlace}
    (h : DataW.Trod enc Try.prog W 0 (fun _ => true) true 22 (.slice a len cap) d p) :
    ∃ ms : List (Int × Int × Int), ms.length = len ∧ Marks W a ms ∧ len ≤ cap ∧ cap ≤ maxLen := by
  obtain ⟨fuel, hf⟩ := h
  rcases open_slice_triples Try.underlying22 Try.underlying53 (by kernel_rfl) (by kernel_rfl) (by kernel_rfl) (by kernel_rfl) (by kernel_rfl) (by kernel_rfl) (by kernel_rfl) hf with ⟨hcs, _⟩ | ⟨x, l, c, m, n, V0, V1, V2, Y0, Y1, Y2, hcs, _, hl, hm, hmm, hi⟩
  · simp [Value.cells] at hcs
    obtain ⟨rfl, rfl, rfl⟩ := hcs
    exact ⟨[], rfl, Marks.nil_, Nat.le_refl _, by simp [maxLen]⟩
  · simp [Value.cells] at hcs
    obtain ⟨rfl, rfl, rfl⟩ := hcs
    have hlm : len ≤ m := by rw [hmm]; split <;> omega
    have hint : ∀ i, i < len → ∃ q : Int × Int × Int, W.cell? (x.add (i * 3)) = some (.int .i64 q.1) ∧ W.cell? (x.add (i * 3 + 1)) = some (.int .i64 q.2.1) ∧ W.cell? (x.add (i * 3 + 2)) = some (.int .i64 q.2.2) := by
      intro i hil
      obtain ⟨e0, e1, e2, t0, t1, t2⟩ := hi i (by omega)
      obtain ⟨u, hu, _, _⟩ := DataW.trod_int Try.underlying3 t0
      obtain ⟨v, hv, _, _⟩ := DataW.trod_int Try.underlying3 t1
      obtain ⟨z, hz, _, _⟩ := DataW.trod_int Try.underlying3 t2
      simp at hu hv hz
      exact ⟨(u, v, z), by rw [e0, hu], by rw [e1, hv], by rw [e2, hz]⟩
    obtain ⟨q, hq⟩ : ∃ q : Nat → Int × Int × Int, ∀ i, i < len → W.cell? (x.add (i * 3)) = some (.int .i64 (q i).1) ∧ W.cell? (x.add (i * 3 + 1)) = some (.int .i64 (q i).2.1) ∧ W.cell? (x.add (i * 3 + 2)) = some (.int .i64 (q i).2.2) :=
      ⟨fun i => if h : i < len then Classical.choose (hint i h) else (0, 0, 0), fun i h => by simp only [dif_pos h]; exact Classical.choose_spec (hint i h)⟩
    refine ⟨(List.range len).map q, by simp, ⟨by rw [flat_len], fun hn => ?_⟩, hl, hm⟩
    have hn' : 0 < len := by simpa using hn
    refine ⟨x, rfl, ?_, fun j u hj => ?_⟩
    · have := World.block_lt_of_cell? W _ (hq 0 hn').1
      rwa [block_of_add] at this
    · have hjl := (List.getElem?_eq_some_iff.1 hj).1
      rw [flat_len] at hjl
      simp at hjl
      have hk : ((List.range len).map q)[j / 3]? = some (q (j / 3)) := by rw [List.getElem?_map, List.getElem?_range (by omega)]; rfl
      have hg := flat_get _ _ _ hk
      have hc := hq (j / 3) (by omega)
      rcases (show j % 3 = 0 ∨ j % 3 = 1 ∨ j % 3 = 2 by omega) with h0 | h0 | h0
      · have e : j = 3 * (j / 3) := by omega
        rw [e, hg.1] at hj
        rw [e, Nat.mul_comm, hc.1]; exact hj
      · have e : j = 3 * (j / 3) + 1 := by omega
        rw [e, hg.2.1] at hj
        rw [e, Nat.mul_comm, hc.2.1]; exact hj
      · have e : j = 3 * (j / 3) + 2 := by omega
        rw [e, hg.2.2] at hj
        rw [e, Nat.mul_comm, hc.2.2]; exact hj
end
end Go.Proofs.Ythanmiifcpajhaa
