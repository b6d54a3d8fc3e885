/-
  A hit as a key of a map: what it reads as.
-/
import Derived.Test.YtmlkdjcjfkfdiaaBools
import Derived.Test.YtmlkdjcjfkfdiaaPairs
import Derived.Test.YtmlkdjcjfkfdiaaSpec
import Derived.DeepKeys4
namespace Go.Proofs.Ytmlkdjcjfkfdiaa
open Go.RowKit Go.Maps Go.WideMaps Go.WideShapes

theorem keyLits_pair {P : Program} {k t : TypeId} {n : Nat} {a b : Int} {f0 f1 : Field} (hu : P.underlying k = some (.struct #[f0, f1])) (h0 : f0.type = t) (h1 : f1.type = t) (o0 : f0.offset = 0) (o1 : f1.offset = 1)
    (n0 : ¬ f0.name = "_") (n1 : ¬ f1.name = "_") (hc : P.cellsOf k = 2) (ht : P.underlying t = some (.int .i64)) (hct : P.cellsOf t = 1) (ha : (Lit.int .i64 a).wf = true) (hb : (Lit.int .i64 b).wf = true) :
    P.keyLits (n + 2) k [.int .i64 a, .int .i64 b] = some [.int .i64 a, .int .i64 b] := by
  simp [Program.keyLits, hu, h0, h1, o0, o1, n0, n1, hc, ht, hct, ha, hb]
theorem keyOf_struct {P : Program} {k : TypeId} {v : Value} {ls : List Lit} {fs : Array Field} (hu : P.underlying k = some (.struct fs)) (hk : P.keyType k = true) (hf : v.formed P k = true) (hl : P.keyLits (P.types.size + 1) k v.cells.toList = some ls) :
    keyOf P k v = some (.string (keyBytes ls)) := by
  unfold keyOf; rw [hu]; simp [hk, hf, hl]
theorem formed_pair {P : Program} {k : TypeId} {a b : Value} {fs : Array Field} (hu : P.underlying k = some (.struct fs)) (hc : P.cellsOf k = 2) : (Value.agg #[a, b]).formed P k = true := by
  simp [Value.formed, hu, hc]
theorem wide_struct {P : Program} {k : TypeId} {fs : Array Field} (hu : P.underlying k = some (.struct fs)) : (match P.underlying k with | some (.array _ _) | some (.struct _) => true | _ => false) = true := by rw [hu]
theorem law_struct {P : Program} {k : TypeId} {fs : Array Field} (hl : laidOutB P = true) (hr : k < P.types.size) (hk : P.keyTypeAt 3 k = true) (hu : P.underlying k = some (.struct fs)) : KeyLaw P k :=
  deep_law_laid hl (m := 3) (by omega) hr hk (by rw [hu])
theorem pred_of_lt {k n : Nat} (h : k < n) : ∃ m, n = m + 1 := ⟨n - 1, by omega⟩

theorem hit_laid : laidOutB Try.prog = true := by kernel_rfl
theorem hit_row : (63 : TypeId) < Try.prog.types.size := of_decide_eq_true (by kernel_rfl)
theorem hit_key3 : Try.prog.keyTypeAt 3 63 = true := by kernel_rfl
theorem hitLaw : KeyLaw Try.prog 63 := law_struct hit_laid hit_row hit_key3 Try.underlying63
theorem hitKeyed : Keyed Try.prog 63 := Keyed.of_law hitLaw
theorem hit_keyType : Try.prog.keyType 63 = true := by kernel_rfl
theorem hit_cells : Try.prog.cellsOf 63 = 2 := by kernel_rfl
theorem int_cells : Try.prog.cellsOf 3 = 1 := by kernel_rfl

def keyH (m : Int × Int) : Lit := .string (keyBytes [.int .i64 m.1, .int .i64 m.2])
theorem keyH_ok {a b : Int} (ha : (Lit.int .i64 a).wf = true) (hb : (Lit.int .i64 b).wf = true) : keyOf Try.prog 63 (.agg #[.int .i64 a, .int .i64 b]) = some (keyH (a, b)) := by
  obtain ⟨n, hn⟩ := pred_of_lt hit_row
  refine keyOf_struct Try.underlying63 hit_keyType (formed_pair Try.underlying63 hit_cells) ?_
  rw [hn]
  exact keyLits_pair Try.underlying63 rfl rfl rfl rfl (by decide) (by decide) hit_cells Try.underlying3 int_cells ha hb
theorem keyH_inj {x y : Int × Int} (hx1 : (Lit.int .i64 x.1).wf = true) (hx2 : (Lit.int .i64 x.2).wf = true) (hy1 : (Lit.int .i64 y.1).wf = true) (hy2 : (Lit.int .i64 y.2).wf = true) (h : keyH x = keyH y) : x = y := by
  have := hitKeyed.inj (keyH_ok hx1 hx2) ((keyH_ok hy1 hy2).trans (by rw [h]))
  simp at this
  exact Prod.ext this.1 this.2
theorem keyH_key (m : Int × Int) : WideAt.IsKeyLit (keyH m) := trivial
end Go.Proofs.Ytmlkdjcjfkfdiaa
