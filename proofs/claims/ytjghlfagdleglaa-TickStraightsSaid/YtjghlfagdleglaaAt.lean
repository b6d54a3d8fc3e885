/-
  Contracts: timeAt, checkLocal, At, Speed.
-/
import Derived.Test.YtjghlfagdleglaaLineInv
namespace Go.Proofs.Ytjghlfagdleglaa
open Go.RowKit

/-- The index of the line by which a clock goes at a local time. -/
def segL (ms : List (Int × Int)) (N D : Int) : Nat := segI (fun i => decide ((ms.getD i (0, 0)).1 * D ≤ N)) (ms.length - 2)
def segT (ms : List (Int × Int)) (N D : Int) : Nat := segI (fun i => decide ((ms.getD i (0, 0)).2 * D ≤ N)) (ms.length - 2)
def mA (ms : List (Int × Int)) (j : Nat) : Int × Int := ms.getD j (0, 0)
/-- Numerator and divisor of the time at a local time. -/
def atN (ms : List (Int × Int)) (x : Int) : Int := lineN (mA ms (segL ms x 1)).1 (mA ms (segL ms x 1)).2 (mA ms (segL ms x 1 + 1)).1 (mA ms (segL ms x 1 + 1)).2 x 1
def atD (ms : List (Int × Int)) (x : Int) : Int := lineD (mA ms (segL ms x 1)).1 (mA ms (segL ms x 1 + 1)).1 1
def spN (ms : List (Int × Int)) (j : Nat) : Int := (mA ms (j + 1)).2 - (mA ms j).2
def spD (ms : List (Int × Int)) (j : Nat) : Int := (mA ms (j + 1)).1 - (mA ms j).1
theorem mA_of {ms : List (Int × Int)} {j : Nat} {m : Int × Int} (h : ms[j]? = some m) : mA ms j = m := getDM h
theorem cell_far2 {w : World} {g : Nat} {x y : Value} {p : Addr} (h : p.block ≠ g) : ((w.setCell ⟨g, 0, none⟩ x).setCell ⟨g, 1, none⟩ y).cell? p = w.cell? p := by
  have hne : ∀ i, (⟨g, i, none⟩ : Addr) ≠ p := fun i e => h (by rw [← e])
  rw [World.cell?_setCell_other _ _ _ _ (hne 1), World.cell?_setCell_other _ _ _ _ (hne 0)]

theorem Clk.drew {w : World} {A : Option Addr} {c : Nat} {ms : List (Int × Int)} (h : Clk w A c ms) : Clk w.drew A c ms := ⟨h.marks, h.le, h.cap⟩

set_option maxRecDepth 100000 in
set_option maxHeartbeats 1600000 in
theorem timeAt_any (ms : List (Int × Int)) (A : Option Addr) (c : Nat) (x : Int) (w : World) (h : Clk w A c ms) (hv : vkB ms = true) (hx0 : 0 ≤ x) (hx1 : x ≤ 100000) :
    Calls Try.prog 60 #[.slice A ms.length c, .int .i64 x] w fun e w' => ∃ n d : Int, e = .returned (.agg #[.int .i64 n, .int .i64 d]) ∧ Below w.heap.size w w' ∧ Hid (n = lowN (atN ms x) (atD ms x) ∧ d = lowD (atN ms x) (atD ms x)) := by
  have HV := Lib.hid hv
  have H := Lib.hid h
  clear hv h
  go_enter Try.func60, Try.ntmps60
  go_wp2_with (go_at_call 69; refine (whole_any _ _).mono ?_; rintro e w1 ⟨rfl, hB1⟩)
  have hz1' := hB1.size
  simp at hz1'
  have hW : Below w.heap.size w (w1.alloc (.cells #[.int .i64 x, .int .i64 1] 36)) := (Below.trans (by repeat (first | with_reducible exact Below.refl _ _ | with_reducible assumption | refine below_drewN ?_ _ | with_reducible refine Below.drew ?_ | (refine Below.setCell ?_ (by first | (simp; done) | (simp; omega) | omega) _) | (refine Below.alloc ?_ (by first | (simp; done) | (simp; omega) | omega) _))) (hB1.mono (by first | (simp; done) | (simp; omega) | omega))).alloc (by omega) _
  have k5 : (w1.alloc (.cells #[.int .i64 x, .int .i64 1] 36)).heap[w1.heap.size]? = some (.cells #[.int .i64 x, .int .i64 1] 36 (0, 0)) := heap_alloc_new w1 _
  have k0 : (w1.alloc (.cells #[.int .i64 x, .int .i64 1] 36)).heap[w.heap.size]? = some (.cells #[.int .i64 0, .int .i64 0] 36 (0, 0)) := (Below.heap_alloc _ _ _ (by omega)).trans ((hB1.block w.heap.size (by simp)).trans (heap_alloc_new w _))
  have hz1 : w1.heap.size < (w1.alloc (.cells #[.int .i64 x, .int .i64 1] 36)).heap.size := by simp
  have hz2 : w.heap.size < (w1.alloc (.cells #[.int .i64 x, .int .i64 1] 36)).heap.size := by simp; omega
  have hne : w.heap.size < w1.heap.size := by omega
  generalize w1.alloc (.cells #[.int .i64 x, .int .i64 1] 36) = W at hW k5 k0 hz1 hz2 ⊢
  have c0 : W.cell? ⟨w1.heap.size, 0, none⟩ = some (.int .i64 x) := cell_of_row W _ 0 _ _ _ k5
  have c1 : W.cell? ⟨w1.heap.size, 1, none⟩ = some (.int .i64 1) := cell_of_row W _ 1 _ _ _ k5
  have d0 : W.cell? ⟨w.heap.size, 0, none⟩ = some (.int .i64 0) := cell_of_row W _ 0 _ _ _ k0
  have d1 : W.cell? ⟨w.heap.size, 1, none⟩ = some (.int .i64 0) := cell_of_row W _ 1 _ _ _ k0
  have e0 := blk_frozen k0 0
  have e1 := blk_frozen k0 1
  have HC := Lib.hid (H.out.below hW).drew
  have hW := hW.drew
  clear k5 k0 hB1 hz1'
  generalize w1.heap.size = b5 at c0 c1 hz1 hne ⊢
  go_region_held3 (fun w' => w'.cell? ⟨b5, 0, none⟩ = some (.int .i64 x) ∧ w'.cell? ⟨b5, 1, none⟩ = some (.int .i64 1))
    (first | exact ⟨c0, c1⟩ | exact ⟨(cell_far2 (p := ⟨b5, 0, none⟩) (by simp; omega)).trans c0, (cell_far2 (p := ⟨b5, 1, none⟩) (by simp; omega)).trans c1⟩)
    (first
      | (go_at_call 64; refine (lineOfL_any ms A c x 1 _ HC.out HV.out (by omega) (by omega)).mono ?_; rintro e w3 ⟨a, b, p, q, rfl, hB3, hpq⟩; have c0 := (hB3.cell (p := ⟨b5, 0, none⟩) hz1).trans c0; have c1 := (hB3.cell (p := ⟨b5, 1, none⟩) hz1).trans c1; have d0 := (hB3.cell (p := ⟨w.heap.size, 0, none⟩) hz2).trans d0; have d1 := (hB3.cell (p := ⟨w.heap.size, 1, none⟩) hz2).trans d1; have e0 := (hB3.frozen (p := ⟨w.heap.size, 0, none⟩) hz2).trans e0; have e1 := (hB3.frozen (p := ⟨w.heap.size, 1, none⟩) hz2).trans e1; have hW := Below.trans hW (hB3.mono (Nat.le_of_lt hz2)); have hz2 := Nat.lt_of_lt_of_le hz2 hB3.size; have hz1 := Nat.lt_of_lt_of_le hz1 hB3.size; have ha := vk_at HV.out hpq.out.1; have hp := vk_at HV.out hpq.out.2; have hlt := vk_lt HV.out hpq.out.1 hpq.out.2)
      | (go_at_call 67; refine (lineAt_any a b p q x 1 _ (by omega) (by omega) (by omega) (by omega) (by omega) (by omega) (by omega) (by omega) (by omega) (by omega)).mono ?_; rintro e w3 ⟨rfl, hB3⟩; have c0 := (hB3.cell (p := ⟨b5, 0, none⟩) hz1).trans c0; have c1 := (hB3.cell (p := ⟨b5, 1, none⟩) hz1).trans c1; have d0 := (hB3.cell (p := ⟨w.heap.size, 0, none⟩) hz2).trans d0; have d1 := (hB3.cell (p := ⟨w.heap.size, 1, none⟩) hz2).trans d1; have e0 := (hB3.frozen (p := ⟨w.heap.size, 0, none⟩) hz2).trans e0; have e1 := (hB3.frozen (p := ⟨w.heap.size, 1, none⟩) hz2).trans e1; have hW := Below.trans hW (hB3.mono (Nat.le_of_lt hz2)); have hz2 := Nat.lt_of_lt_of_le hz2 hB3.size; have hz1 := Nat.lt_of_lt_of_le hz1 hB3.size))
  go_wp2
  refine bodyPost_ret (v := .agg #[.int .i64 (lowN (lineN a b p q x 1) (lineD a p 1)), .int .i64 (lowD (lineN a b p q x 1) (lineD a p 1))]) (by simp [results, Try.results60, go_sem, d0, d1]) rfl ⟨_, _, rfl, by refine Below.setCell (Below.setCell hW ?_ _) ?_ _ <;> simp, ?_⟩
  have h1 := mA_of hpq.out.1
  have h2 := mA_of hpq.out.2
  show _ = lowN (lineN (mA ms (segL ms x 1)).1 _ _ _ _ _) (lineD _ _ _) ∧ _ = lowD _ _
  rw [atN, atD, segL, h1, h2]
  exact ⟨rfl, rfl⟩
end Go.Proofs.Ytjghlfagdleglaa
