/-
  Contracts: ring, eighths, length, rings.
-/
import Derived.Test.YtnnfnphmieikmaaSpotOf
namespace Go.Proofs.Ytnnfnphmieikmaa
open Go Go.RowKit

theorem mul_bd {a b A B : Int} (h0 : 0 ≤ a) (h1 : a ≤ A) (h2 : 0 ≤ b) (h3 : b ≤ B) : 0 ≤ a * b ∧ a * b ≤ A * B :=
  ⟨Int.mul_nonneg h0 h2, Int.mul_le_mul h1 h3 h2 (by omega)⟩
theorem ring_sd (k : Nat) (f x y : Int) : ringI k f x y = (2 + f / 4) * sdI k - x - y - 1 := rfl
theorem len_sd (k : Nat) (r : Int) : lenI k r = 4 * min r (min (sdI k) (4 * sdI k - r)) := rfl
theorem ring_any (k : Nat) (hk : k < 5) (f x y : Int) (f0 : 0 ≤ f) (f1 : f < 12) (x0 : 0 ≤ x) (x1 : x ≤ 16) (y0 : 0 ≤ y) (y1 : y ≤ 16) (w : World) :
    Calls Try.prog 116 #[.agg #[.int .i64 f, .int .i64 x, .int .i64 y], .int .i64 (k : Int)] w fun e w' => e = .returned (.int .i64 (ringI k f x y)) ∧ Below w.heap.size w w' := by
  obtain ⟨b1, b2⟩ := sd_bd hk
  obtain ⟨b3, b4⟩ := mul_bd (a := 2 + f / 4) (b := sdI k) (A := 5) (B := 16) (by omega) (by omega) (by omega) b2
  go_enter Try.func116, Try.ntmps116
  go_wp2
  go_quiet ((go_at_call 81; exact Calls.quiet_of_same ((side_any k hk _).mono fun _ _ h => ⟨h.1, h.2.symm⟩)))
  go_wp2
  go_ret
  exact ⟨ret_int (by rw [ring_sd]), (by repeat (first | with_reducible exact Below.refl _ _ | with_reducible assumption | refine below_drewN ?_ _ | with_reducible refine Below.drew ?_ | (refine Below.setCell ?_ (by first | (simp; done) | (simp; omega) | omega) _) | (refine Below.alloc ?_ (by first | (simp; done) | (simp; omega) | omega) _)))⟩
theorem eighths_any (f x y : Int) (f0 : 0 ≤ f) (f1 : f < 12) (w : World) :
    Calls Try.prog 122 #[.agg #[.int .i64 f, .int .i64 x, .int .i64 y]] w fun e w' => e = .returned (.int .i64 (eighI f)) ∧ Below w.heap.size w w' := by
  by_cases h : f / 4 = 1
  · have h2 : (f / 4 == 1) = true := by simpa using h
    have H := Lib.hid h
    clear h
    go_enter Try.func122, Try.ntmps122
    go_wp2
    go_ret
    exact ⟨ret_int (by rw [eighI, if_pos H.out]), (by repeat (first | with_reducible exact Below.refl _ _ | with_reducible assumption | refine below_drewN ?_ _ | with_reducible refine Below.drew ?_ | (refine Below.setCell ?_ (by first | (simp; done) | (simp; omega) | omega) _) | (refine Below.alloc ?_ (by first | (simp; done) | (simp; omega) | omega) _)))⟩
  · have h2 : (f / 4 == 1) = false := by simpa using h
    have H := Lib.hid h
    clear h
    go_enter Try.func122, Try.ntmps122
    go_wp2
    go_ret
    exact ⟨ret_int (by rw [eighI, if_neg H.out]), (by repeat (first | with_reducible exact Below.refl _ _ | with_reducible assumption | refine below_drewN ?_ _ | with_reducible refine Below.drew ?_ | (refine Below.setCell ?_ (by first | (simp; done) | (simp; omega) | omega) _) | (refine Below.alloc ?_ (by first | (simp; done) | (simp; omega) | omega) _)))⟩
theorem length_any (k : Nat) (hk : k < 5) (r : Int) (r0 : -100 ≤ r) (r1 : r ≤ 100) (w : World) :
    Calls Try.prog 84 #[.int .i64 (k : Int), .int .i64 r] w fun e w' => e = .returned (.int .i64 (lenI k r)) ∧ w = w' := by
  obtain ⟨b1, b2⟩ := sd_bd hk
  go_enter Try.func84, Try.ntmps84
  go_wp2_with (go_at_call 81; refine (side_any k hk _).mono ?_; rintro e w1 ⟨rfl, rfl⟩)
  all_goals
    go_ret
    exact ⟨ret_int (by rw [len_sd]; first | omega | (split at * <;> omega)), rfl⟩
theorem rings_any (k : Nat) (hk : k < 5) (w : World) :
    Calls Try.prog 114 #[.int .i64 (k : Int)] w fun e w' => e = .returned (.int .i64 (4 * sdI k - 1)) ∧ w = w' := by
  obtain ⟨b1, b2⟩ := sd_bd hk
  go_enter Try.func114, Try.ntmps114
  go_wp2_with (go_at_call 81; refine (side_any k hk _).mono ?_; rintro e w1 ⟨rfl, rfl⟩)
  go_ret
  exact ⟨rfl, rfl⟩
end Go.Proofs.Ytnnfnphmieikmaa
