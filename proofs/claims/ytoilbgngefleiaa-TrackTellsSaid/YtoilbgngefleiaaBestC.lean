/-
  Contract: the function literal of best (track): it compares what is told of two lines.
-/
import Derived.Test.YtoilbgngefleiaaCompare
import Derived.Test.YtoilbgngefleiaaMinFunc
namespace Go.Proofs.Ytoilbgngefleiaa
open Go Go.RowKit Go.Shelf

/-- A function that tells a ratio of a line. -/
def ToldAt (g : Nat) (T : Ln → Int × Int) (P : Ln → Prop) (A : Option Addr) (n c : Nat) (w : World) : Prop :=
  ∀ (W : World) (x : Ln), Below w.heap.size w W → P x → Calls Try.prog g #[.slice A n c, .agg #[.int .i64 x.1, .int .i64 x.2.1, .int .i64 x.2.2]] W fun e w' => e = .returned (.agg #[.int .i64 (T x).1, .int .i64 (T x).2]) ∧ Below W.heap.size W w'
/-- Ratios whose cross products do not run over. -/
def CrossOk (T : Ln → Int × Int) (P : Ln → Prop) : Prop :=
  ∀ x y, P x → P y → -9223372036854775808 ≤ (T x).1 * (T y).2 ∧ (T x).1 * (T y).2 ≤ 9223372036854775807
def cmpT (T : Ln → Int × Int) (x y : Ln) : Int := cmpV ((T x).1 * (T y).2) ((T y).1 * (T x).2)
set_option maxRecDepth 100000 in
set_option maxHeartbeats 1000000 in
theorem bestLit_any (g : Nat) (T : Ln → Int × Int) (P : Ln → Prop) (A : Option Addr) (n c : Nat) (w : World) (B0 B1 : Nat) (eg : ∀ args w, (callFunc g args).run Try.prog w = .ok (.enter g args) w) (hT : ToldAt g T P A n c w) (hC : CrossOk T P)
    (hB0 : B0 < w.heap.size) (hB1 : B1 < w.heap.size) (c0 : w.cell? ⟨B0, 0, none⟩ = some (.func (.func g) #[] #[])) (c1 : w.cell? ⟨B1, 0, none⟩ = some (.slice A n c)) (x y : Ln) (hx : P x) (hy : P y) :
    Calls Try.prog 112 #[lnV x, lnV y, .pointer (some ⟨B0, 0, none⟩), .pointer (some ⟨B1, 0, none⟩)] w fun e w' => e = .returned (.int .i64 (cmpT T x y)) ∧ Below w.heap.size w w' := by
  obtain ⟨x0, x1, x2⟩ := x
  obtain ⟨y0, y1, y2⟩ := y
  obtain ⟨⟨p, q⟩, hp⟩ : ∃ r, T (x0, x1, x2) = r := ⟨_, rfl⟩
  obtain ⟨⟨r, s⟩, hr⟩ : ∃ z, T (y0, y1, y2) = z := ⟨_, rfl⟩
  have b1 := hC _ _ hx hy
  have b2 := hC _ _ hy hx
  rw [hp, hr] at b1 b2
  simp only at b1 b2
  have HB := Lib.hid (And.intro b1 b2)
  have HE : Hid (cmpT T (x0, x1, x2) (y0, y1, y2) = cmpV (p * s) (r * q)) := Lib.hid (by rw [cmpT, hp, hr])
  obtain ⟨W0, hW0⟩ : ∃ W0, (w.alloc (.cells #[.int .i64 x0, .int .i64 x1, .int .i64 x2] 24)).alloc (.cells #[.int .i64 y0, .int .i64 y1, .int .i64 y2] 24) = W0 := ⟨_, rfl⟩
  have HW0 : Hid (Below w.heap.size w W0) := Lib.hid (by rw [← hW0]; exact ((Below.refl _ _).alloc (Nat.le_refl _) _).alloc (by simp) _)
  have HX : Hid (∀ G : Gw W0, Calls Try.prog g #[.slice A n c, .agg #[.int .i64 x0, .int .i64 x1, .int .i64 x2]] G.v fun e w' => e = .returned (.agg #[.int .i64 p, .int .i64 q]) ∧ Below G.v.heap.size G.v w') := Lib.hid fun G => by
    have := hT G.v (x0, x1, x2) (below_step HW0.out G.h) hx
    rw [hp] at this
    exact this
  have HY : Hid (∀ G : Gw W0, Calls Try.prog g #[.slice A n c, .agg #[.int .i64 y0, .int .i64 y1, .int .i64 y2]] G.v fun e w' => e = .returned (.agg #[.int .i64 r, .int .i64 s]) ∧ Below G.v.heap.size G.v w') := Lib.hid fun G => by
    have := hT G.v (y0, y1, y2) (below_step HW0.out G.h) hy
    rw [hr] at this
    exact this
  have hz : W0.heap.size = w.heap.size + 2 := by rw [← hW0]; simp
  have G0 : W0.heap[w.heap.size]? = some (.cells #[.int .i64 x0, .int .i64 x1, .int .i64 x2] 24 (0, 0)) := by rw [← hW0]; exact (Below.heap_alloc _ _ _ (by simp)).trans (heap_alloc_new _ _)
  have G1 : W0.heap[w.heap.size + 1]? = some (.cells #[.int .i64 y0, .int .i64 y1, .int .i64 y2] 24 (0, 0)) := by rw [← hW0]; simpa using heap_alloc_new (w.alloc (.cells #[.int .i64 x0, .int .i64 x1, .int .i64 x2] 24)) (.cells #[.int .i64 y0, .int .i64 y1, .int .i64 y2] 24)
  have k0 : ∀ G : Gw W0, G.v.cell? ⟨B0, 0, none⟩ = some (.func (.func g) #[] #[]) := fun G => ((G.cell (by omega)).trans (HW0.out.cell (p := ⟨B0, 0, none⟩) hB0)).trans c0
  have k1 : ∀ G : Gw W0, G.v.cell? ⟨B1, 0, none⟩ = some (.slice A n c) := fun G => ((G.cell (by omega)).trans (HW0.out.cell (p := ⟨B1, 0, none⟩) hB1)).trans c1
  have k2 : ∀ G : Gw W0, G.v.cell? ⟨w.heap.size, 0, none⟩ = some (.int .i64 x0) := fun G => (G.cell (by omega)).trans (by rw [cell_of_row W0 _ 0 _ _ (0, 0) G0]; rfl)
  have k3 : ∀ G : Gw W0, G.v.cell? ⟨w.heap.size, 1, none⟩ = some (.int .i64 x1) := fun G => (G.cell (by omega)).trans (by rw [cell_of_row W0 _ 1 _ _ (0, 0) G0]; rfl)
  have k4 : ∀ G : Gw W0, G.v.cell? ⟨w.heap.size, 2, none⟩ = some (.int .i64 x2) := fun G => (G.cell (by omega)).trans (by rw [cell_of_row W0 _ 2 _ _ (0, 0) G0]; rfl)
  have k5 : ∀ G : Gw W0, G.v.cell? ⟨w.heap.size + 1, 0, none⟩ = some (.int .i64 y0) := fun G => (G.cell (by omega)).trans (by rw [cell_of_row W0 _ 0 _ _ (0, 0) G1]; rfl)
  have k6 : ∀ G : Gw W0, G.v.cell? ⟨w.heap.size + 1, 1, none⟩ = some (.int .i64 y1) := fun G => (G.cell (by omega)).trans (by rw [cell_of_row W0 _ 1 _ _ (0, 0) G1]; rfl)
  have k7 : ∀ G : Gw W0, G.v.cell? ⟨w.heap.size + 1, 2, none⟩ = some (.int .i64 y2) := fun G => (G.cell (by omega)).trans (by rw [cell_of_row W0 _ 2 _ _ (0, 0) G1]; rfl)
  clear hT hC hx hy hp hr b1 b2 G0 G1 c0 c1 hB0 hB1 hz
  show Calls Try.prog 112 #[.agg #[.int .i64 x0, .int .i64 x1, .int .i64 x2], .agg #[.int .i64 y0, .int .i64 y1, .int .i64 y2], .pointer (some ⟨B0, 0, none⟩), .pointer (some ⟨B1, 0, none⟩)] w _
  go_enter Try.func112, Try.ntmps112
  go_wp2_with fail
  refine wp_region_grow (by kernel_rfl) (by kernel_rfl) ?_
  repeat (go_big_quiet_step ((first
    | (go_at_fn g; with_reducible exact Calls.grow_of (HX.out _))
    | (go_at_fn g; with_reducible exact Calls.grow_of (HY.out _))
    | (go_at_call 83; with_reducible exact Calls.grow_of (compare_any p q r s _ HB.out.1 HB.out.2))
    | fail)))
  refine wpQuiet_nil ?_
  rintro _ ⟨gq, rfl⟩
  have hX : Hid (Below w.heap.size w gq.v) := Lib.hid (below_step HW0.out gq.h)
  generalize gq.v = V1 at hX ⊢
  clear k0 k1 k2 k3 k4 k5 k6 k7
  go_wp2
  go_ret
  exact ⟨ret_int HE.out.symm, hX.out⟩
end Go.Proofs.Ytoilbgngefleiaa
