/-
  Contracts: Mul64 (laid from the shelf), less (tick), Less (firnref01).
-/
import Derived.Shelf.Bits.Mul64
import Derived.Test.YtjghlfagdleglaaGrowsA
namespace Go.Proofs.Ytjghlfagdleglaa
open Go.RowKit

def lays264_ren : Go.Shelf.Ren := ⟨fun | 264 => 82 | n => n, fun | 53 => 90 | 46 => 95 | n => n, fun | n => n⟩
theorem lays264 : Go.Proofs.Lays.n264 Try.prog lays264_ren := {
  mixed := by kernel_rfl
  f264 := Try.func82.trans (congrArg some (by kernel_rfl))
  t46 := Try.underlying95
  a46 := Try.isAgg95
  z46 := Try.sizeOf95
  v46 := Try.zeroValue95
  t53 := Try.underlying90
  a53 := Try.isAgg90
  z53 := Try.sizeOf90
  v53 := Try.zeroValue90 }
theorem mul64_int (x y : Int) (w : World) (hx : 0 ≤ x) (hx1 : x < 18446744073709551616) (hy : 0 ≤ y) (hy1 : y < 18446744073709551616) :
    Calls Try.prog 82 #[.int .u64 x, .int .u64 y] w fun e w' => ∃ H L : Int, e = .returned (.tuple #[.int .u64 H, .int .u64 L]) ∧ w' = w ∧ Hid (H = x * y / 18446744073709551616 ∧ L = x * y % 18446744073709551616) := by
  obtain ⟨m, rfl⟩ := Int.eq_ofNat_of_zero_le hx
  obtain ⟨n, rfl⟩ := Int.eq_ofNat_of_zero_le hy
  refine (Go.Proofs.Any.bits_Mul64 lays264 m n (by omega) (by omega) w).mono ?_
  rintro e w' ⟨rfl, rfl⟩
  refine ⟨_, _, rfl, rfl, ?_, ?_⟩
  · rw [← Int.natCast_mul]; rfl
  · rw [← Int.natCast_mul]; rfl
theorem lex_lt (p q : Int) : (p < q) ↔ (p / 18446744073709551616 < q / 18446744073709551616 ∨ (p / 18446744073709551616 = q / 18446744073709551616 ∧ p % 18446744073709551616 < q % 18446744073709551616)) := by omega
theorem lex_b {p q H1 L1 H2 L2 : Int} (h1 : H1 = p / 18446744073709551616 ∧ L1 = p % 18446744073709551616) (h2 : H2 = q / 18446744073709551616 ∧ L2 = q % 18446744073709551616) :
    (decide (H1 < H2) || (decide (H1 = H2) && decide (L1 < L2))) = decide (p < q) := by
  obtain ⟨rfl, rfl⟩ := h1
  obtain ⟨rfl, rfl⟩ := h2
  rw [← Bool.decide_and, ← Bool.decide_or]
  exact decide_eq_decide.2 (lex_lt p q).symm

set_option maxRecDepth 100000 in
theorem less_any (a b c d : Int) (w : World) (ha : 0 ≤ a) (ha1 : a ≤ 4611686018427387904) (hb : 0 ≤ b) (hb1 : b ≤ 4611686018427387904) (hc : 0 ≤ c) (hc1 : c ≤ 4611686018427387904) (hd : 0 ≤ d) (hd1 : d ≤ 4611686018427387904) :
    Calls Try.prog 74 #[.agg #[.int .i64 a, .int .i64 b], .agg #[.int .i64 c, .int .i64 d]] w fun e w' => e = .returned (.bool (ltR (a, b) (c, d))) ∧ Below w.heap.size w w' := by
  go_enter Try.func74, Try.ntmps74
  have TA : Hid True := Lib.hid trivial
  go_wp2_with (first
    | (go_at_call 82; have hstop := HF1; refine (mul64_int c b _ (by omega) (by omega) (by omega) (by omega)).mono ?_; rintro e w2 ⟨H2, L2, rfl, rfl, hF2⟩; have HL := Lib.hid (lex_b HF1.out hF2.out); clear HF1 hF2)
    | (clear TA; go_at_call 82; refine (mul64_int a d _ (by omega) (by omega) (by omega) (by omega)).mono ?_; rintro e w1 ⟨H1, L1, rfl, rfl, hF1⟩; have HF1 := Lib.hid hF1.out; clear hF1))
  all_goals go_ret
  all_goals refine ⟨?_, (by repeat (first | with_reducible exact Below.refl _ _ | with_reducible assumption | refine below_drewN ?_ _ | with_reducible refine Below.drew ?_ | (refine Below.setCell ?_ (by first | (simp; done) | (simp; omega) | omega) _) | (refine Below.alloc ?_ (by first | (simp; done) | (simp; omega) | omega) _)))⟩
  all_goals (rw [ltR, ← HL.out]; simp [*])

set_option maxRecDepth 100000 in
theorem refLess_any (a b c d : Int) (w : World) (ha : -1000000000 ≤ a) (ha1 : a ≤ 1000000000) (hb : 0 ≤ b) (hb1 : b ≤ 1000000000) (hc : -1000000000 ≤ c) (hc1 : c ≤ 1000000000) (hd : 0 ≤ d) (hd1 : d ≤ 1000000000) :
    Calls Try.prog 53 #[.agg #[.int .i64 a, .int .i64 b], .agg #[.int .i64 c, .int .i64 d]] w fun e w' => e = .returned (.bool (ltR (a, b) (c, d))) ∧ Below w.heap.size w w' := by
  have m1 := mul_box (x := a) (y := d) (X := 1000000000) (Y := 1000000000) ha ha1 hd hd1
  have m2 := mul_box (x := c) (y := b) (X := 1000000000) (Y := 1000000000) hc hc1 hb hb1
  go_enter Try.func53, Try.ntmps53
  go_wp2
  go_ret
  exact ⟨rfl, (by repeat (first | with_reducible exact Below.refl _ _ | with_reducible assumption | refine below_drewN ?_ _ | with_reducible refine Below.drew ?_ | (refine Below.setCell ?_ (by first | (simp; done) | (simp; omega) | omega) _) | (refine Below.alloc ?_ (by first | (simp; done) | (simp; omega) | omega) _)))⟩
end Go.Proofs.Ytjghlfagdleglaa
