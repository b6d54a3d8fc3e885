/-
  Contracts: what a line tells: at, speed, inverse; whole, exchanged.
-/
import Derived.Test.YtjghlfagdleglaaLineOf
namespace Go.Proofs.Ytjghlfagdleglaa
open Go.RowKit

theorem bcell {W w1 : World} (hb : Below W.heap.size W w1) : (∀ b o, b < W.heap.size → w1.cell? ⟨b, o, none⟩ = W.cell? ⟨b, o, none⟩) ∧ (∀ b o, b < W.heap.size → w1.frozen? ⟨b, o, none⟩ = W.frozen? ⟨b, o, none⟩) :=
  ⟨fun b o h => hb.cell (p := ⟨b, o, none⟩) h, fun b o h => hb.frozen (p := ⟨b, o, none⟩) h⟩
theorem cell_far4 {w : World} {g : Nat} {x y z u : Value} {p : Addr} (h : p.block ≠ g) : ((((w.setCell ⟨g, 0, none⟩ x).setCell ⟨g, 1, none⟩ y).setCell ⟨g, 2, none⟩ z).setCell ⟨g, 3, none⟩ u).cell? p = w.cell? p := by
  have hne : ∀ i, (⟨g, i, none⟩ : Addr) ≠ p := fun i e => h (by rw [← e])
  rw [World.cell?_setCell_other _ _ _ _ (hne 3), World.cell?_setCell_other _ _ _ _ (hne 2), World.cell?_setCell_other _ _ _ _ (hne 1), World.cell?_setCell_other _ _ _ _ (hne 0)]
def lineN (a b p q N D : Int) : Int := b * D * (p - a) + (N - a * D) * (q - b)
def lineD (a p D : Int) : Int := D * (p - a)
theorem mul_box {x y X Y : Int} (hx0 : -X ≤ x) (hx1 : x ≤ X) (hy0 : 0 ≤ y) (hy1 : y ≤ Y) : -(X * Y) ≤ x * y ∧ x * y ≤ X * Y := by
  have hX : 0 ≤ X := by omega
  constructor
  · have h1 : -X * Y ≤ -X * y := by
      rw [Int.neg_mul, Int.neg_mul]
      have := Int.mul_le_mul_of_nonneg_left hy1 hX
      omega
    have h2 : -X * y ≤ x * y := Int.mul_le_mul_of_nonneg_right hx0 hy0
    rw [Int.neg_mul] at h1
    omega
  · have h1 : x * y ≤ X * y := Int.mul_le_mul_of_nonneg_right hx1 hy0
    have h2 : X * y ≤ X * Y := Int.mul_le_mul_of_nonneg_left hy1 hX
    omega

set_option maxRecDepth 100000 in
set_option maxHeartbeats 400000 in
theorem lineAt_any (a b p q N D : Int) (w : World) (ha : 0 ≤ a) (hb : 0 ≤ b) (hap : a < p) (hbq : b < q) (hp : p ≤ 100000) (hq : q ≤ 100000) (hD0 : 1 ≤ D) (hD1 : D ≤ 100000) (hN0 : -100000000000 ≤ N) (hN1 : N ≤ 100000000000) :
    Calls Try.prog 67 #[.agg #[.int .i64 a, .int .i64 b, .int .i64 p, .int .i64 q], .agg #[.int .i64 N, .int .i64 D]] w fun e w' =>
      e = .returned (.agg #[.int .i64 (lowN (lineN a b p q N D) (lineD a p D)), .int .i64 (lowD (lineN a b p q N D) (lineD a p D))]) ∧ Below w.heap.size w w' := by
  have m1 := mul_box (x := b) (y := D) (X := 100000) (Y := 100000) (by omega) (by omega) (by omega) (by omega)
  have m2 := mul_box (x := b * D) (y := p - a) (X := 10000000000) (Y := 100000) (by omega) (by omega) (by omega) (by omega)
  have m3 := mul_box (x := a) (y := D) (X := 100000) (Y := 100000) (by omega) (by omega) (by omega) (by omega)
  have m4 := mul_box (x := N - a * D) (y := q - b) (X := 110000000000) (Y := 100000) (by omega) (by omega) (by omega) (by omega)
  have m5 := mul_box (x := D) (y := p - a) (X := 100000) (Y := 100000) (by omega) (by omega) (by omega) (by omega)
  have m6 : 0 < D * (p - a) := Int.mul_pos (by omega) (by omega)
  simp only [Int.reduceMul, Int.reduceNeg] at m1 m2 m3 m4 m5
  go_enter Try.func67, Try.ntmps67
  go_wp2_with (go_at_call 81; refine (lowest_any _ _ _ (by omega) (by omega) (by omega) (by omega)).mono ?_; rintro e w1 ⟨rfl, hB1⟩; obtain ⟨hcc, hff⟩ := bcell hB1)
  have hz1 := hB1.size
  simp at hz1
  have hBw : Below w.heap.size w w1 := Below.trans (by repeat (first | with_reducible exact Below.refl _ _ | with_reducible assumption | refine below_drewN ?_ _ | with_reducible refine Below.drew ?_ | (refine Below.setCell ?_ (by first | (simp; done) | (simp; omega) | omega) _) | (refine Below.alloc ?_ (by first | (simp; done) | (simp; omega) | omega) _))) (hB1.mono (by first | (simp; done) | (simp; omega) | omega))
  exact bodyPost_ret (v := .agg #[.int .i64 (lowN (lineN a b p q N D) (lineD a p D)), .int .i64 (lowD (lineN a b p q N D) (lineD a p D))]) (by simp [results, Try.results67, go_sem, hcc, lineN, lineD]) rfl ⟨rfl, (by repeat (first | with_reducible exact Below.refl _ _ | with_reducible assumption | refine below_drewN ?_ _ | with_reducible refine Below.drew ?_ | (refine Below.setCell ?_ (by first | (simp; done) | (simp; omega) | omega) _) | (refine Below.alloc ?_ (by first | (simp; done) | (simp; omega) | omega) _)))⟩

set_option maxRecDepth 100000 in
theorem lineSpeed_any (a b p q : Int) (w : World) (ha : 0 ≤ a) (hb : 0 ≤ b) (hap : a < p) (hbq : b < q) (hp : p ≤ 100000) (hq : q ≤ 100000) :
    Calls Try.prog 70 #[.agg #[.int .i64 a, .int .i64 b, .int .i64 p, .int .i64 q]] w fun e w' =>
      e = .returned (.agg #[.int .i64 (lowN (q - b) (p - a)), .int .i64 (lowD (q - b) (p - a))]) ∧ Below w.heap.size w w' := by
  go_enter Try.func70, Try.ntmps70
  go_wp2_with (go_at_call 81; refine (lowest_any _ _ _ (by omega) (by omega) (by omega) (by omega)).mono ?_; rintro e w1 ⟨rfl, hB1⟩; obtain ⟨hcc, hff⟩ := bcell hB1)
  have hz1 := hB1.size
  simp at hz1
  have hBw : Below w.heap.size w w1 := Below.trans (by repeat (first | with_reducible exact Below.refl _ _ | with_reducible assumption | refine below_drewN ?_ _ | with_reducible refine Below.drew ?_ | (refine Below.setCell ?_ (by first | (simp; done) | (simp; omega) | omega) _) | (refine Below.alloc ?_ (by first | (simp; done) | (simp; omega) | omega) _))) (hB1.mono (by first | (simp; done) | (simp; omega) | omega))
  exact bodyPost_ret (v := .agg #[.int .i64 (lowN (q - b) (p - a)), .int .i64 (lowD (q - b) (p - a))]) (by simp [results, Try.results70, go_sem, hcc]) rfl ⟨rfl, (by repeat (first | with_reducible exact Below.refl _ _ | with_reducible assumption | refine below_drewN ?_ _ | with_reducible refine Below.drew ?_ | (refine Below.setCell ?_ (by first | (simp; done) | (simp; omega) | omega) _) | (refine Below.alloc ?_ (by first | (simp; done) | (simp; omega) | omega) _)))⟩

theorem whole_any (x : Int) (w : World) :
    Calls Try.prog 69 #[.int .i64 x] w fun e w' => e = .returned (.agg #[.int .i64 x, .int .i64 1]) ∧ Below w.heap.size w w' := by
  go_enter Try.func69, Try.ntmps69
  go_wp2
  exact bodyPost_ret (v := .agg #[.int .i64 x, .int .i64 1]) (by simp [results, Try.results69, go_sem]) rfl ⟨rfl, (by repeat (first | with_reducible exact Below.refl _ _ | with_reducible assumption | refine below_drewN ?_ _ | with_reducible refine Below.drew ?_ | (refine Below.setCell ?_ (by first | (simp; done) | (simp; omega) | omega) _) | (refine Below.alloc ?_ (by first | (simp; done) | (simp; omega) | omega) _)))⟩
theorem exchanged_any (a b : Int) (w : World) :
    Calls Try.prog 75 #[.agg #[.int .i64 a, .int .i64 b]] w fun e w' => e = .returned (.agg #[.int .i64 b, .int .i64 a]) ∧ Below w.heap.size w w' := by
  go_enter Try.func75, Try.ntmps75
  go_wp2
  exact bodyPost_ret (v := .agg #[.int .i64 b, .int .i64 a]) (by simp [results, Try.results75, go_sem]) rfl ⟨rfl, (by repeat (first | with_reducible exact Below.refl _ _ | with_reducible assumption | refine below_drewN ?_ _ | with_reducible refine Below.drew ?_ | (refine Below.setCell ?_ (by first | (simp; done) | (simp; omega) | omega) _) | (refine Below.alloc ?_ (by first | (simp; done) | (simp; omega) | omega) _)))⟩

end Go.Proofs.Ytjghlfagdleglaa
