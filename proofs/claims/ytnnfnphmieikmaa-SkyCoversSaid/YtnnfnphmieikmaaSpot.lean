/-
  Contracts: side, pixels, validOrder; side, pixels, within, isOrder, isPixel, bits of the reference.
-/
import Derived.Test.YtnnfnphmieikmaaBitsI
import Derived.Test.YtnnfnphmieikmaaPairs
namespace Go.Proofs.Ytnnfnphmieikmaa
open Go Go.RowKit

def sdI (k : Nat) : Int := 2 ^ k
def pxI (k : Nat) : Int := 12 * sdI k * sdI k
theorem five {k : Nat} (hk : k < 5) : k = 0 ∨ k = 1 ∨ k = 2 ∨ k = 3 ∨ k = 4 := by omega
theorem sd_bd {k : Nat} (hk : k < 5) : 1 ≤ sdI k ∧ sdI k ≤ 16 := by
  obtain rfl | rfl | rfl | rfl | rfl := five hk <;> decide
theorem px_bd {k : Nat} (hk : k < 5) : 12 ≤ pxI k ∧ pxI k ≤ 3072 := by
  obtain rfl | rfl | rfl | rfl | rfl := five hk <;> decide
theorem px_eq {k : Nat} (hk : k < 5) : pxI k = pxN k := by
  obtain rfl | rfl | rfl | rfl | rfl := five hk <;> decide
theorem sd_sq {k : Nat} (hk : k < 5) : sdI k * sdI k ≤ 256 ∧ 1 ≤ sdI k * sdI k := by
  obtain rfl | rfl | rfl | rfl | rfl := five hk <;> decide
def okO (n : Int) : Bool := decide (0 ≤ n ∧ n ≤ 4)
def okP (n p : Int) : Bool := okO n && decide (0 ≤ p ∧ p < pxI n.toNat)

theorem side_any (k : Nat) (hk : k < 5) (w : World) :
    Calls Try.prog 81 #[.int .i64 (k : Int)] w fun e w' => e = .returned (.int .i64 (sdI k)) ∧ w = w' := by
  obtain rfl | rfl | rfl | rfl | rfl := five hk
  all_goals
    go_enter Try.func81, Try.ntmps81
    go_wp2
    go_ret
    exact ⟨rfl, rfl⟩
theorem refSide_any (k : Nat) (hk : k < 5) (w : World) :
    Calls Try.prog 72 #[.int .i64 (k : Int)] w fun e w' => e = .returned (.int .i64 (sdI k)) ∧ w = w' := by
  obtain rfl | rfl | rfl | rfl | rfl := five hk
  all_goals
    go_enter Try.func72, Try.ntmps72
    go_wp2
    go_ret
    exact ⟨rfl, rfl⟩
theorem pixels_any (k : Nat) (hk : k < 5) (w : World) :
    Calls Try.prog 66 #[.int .i64 (k : Int)] w fun e w' => e = .returned (.int .i64 (pxI k)) ∧ w = w' := by
  have b1 := sd_bd hk
  have b2 := px_bd hk
  unfold pxI at b2
  obtain ⟨b1, b3⟩ := b1
  obtain ⟨b4, b5⟩ := b2
  go_enter Try.func66, Try.ntmps66
  go_wp2_with (go_at_call 81; refine (side_any k hk _).mono ?_; rintro e w1 ⟨rfl, rfl⟩)
  go_ret
  exact ⟨rfl, rfl⟩
theorem refPixels_any (k : Nat) (hk : k < 5) (w : World) :
    Calls Try.prog 68 #[.int .i64 (k : Int)] w fun e w' => e = .returned (.int .i64 (pxI k)) ∧ w = w' := by
  have b1 := sd_bd hk
  have b2 := px_bd hk
  unfold pxI at b2
  obtain ⟨b1, b3⟩ := b1
  obtain ⟨b4, b5⟩ := b2
  go_enter Try.func68, Try.ntmps68
  go_wp2_with (go_at_call 72; refine (refSide_any k hk _).mono ?_; rintro e w1 ⟨rfl, rfl⟩)
  go_ret
  exact ⟨rfl, rfl⟩
theorem validOrder_any (n : Int) (w : World) :
    Calls Try.prog 65 #[.int .i64 n] w fun e w' => e = .returned (.bool (okO n)) ∧ w = w' := by
  go_enter Try.func65, Try.ntmps65
  go_wp2
  all_goals
    go_ret
    exact ⟨ret_bool (by simp only [okO]; rw [Bool.eq_iff_iff]; simp; try omega), rfl⟩
theorem within_any (a n b : Int) (w : World) :
    Calls Try.prog 80 #[.int .i64 a, .int .i64 n, .int .i64 b] w fun e w' => e = .returned (.bool (decide (a ≤ n ∧ n ≤ b))) ∧ w = w' := by
  go_enter Try.func80, Try.ntmps80
  go_wp2
  all_goals
    go_ret
    exact ⟨ret_bool (by rw [Bool.eq_iff_iff]; simp; try omega), rfl⟩
theorem isOrder_any (n : Int) (w : World) :
    Calls Try.prog 67 #[.int .i64 n] w fun e w' => e = .returned (.bool (okO n)) ∧ w = w' := by
  go_enter Try.func67, Try.ntmps67
  go_wp2_with (go_at_call 80; refine (within_any 0 n 4 _).mono ?_; rintro e w1 ⟨rfl, rfl⟩)
  go_ret
  exact ⟨ret_bool (by simp [okO]), rfl⟩
theorem okO_of {n : Int} (h : okO n = true) : ∃ k : Nat, n = k ∧ k < 5 := ⟨n.toNat, by simp [okO] at h; omega, by simp [okO] at h; omega⟩
theorem isPixel_any (n p : Int) (w : World) :
    Calls Try.prog 71 #[.int .i64 n, .int .i64 p] w fun e w' => e = .returned (.bool (okP n p)) ∧ w = w' := by
  cases hO : okO n with
  | false =>
    have HO := Lib.hid hO
    go_enter Try.func71, Try.ntmps71
    go_wp2_with (go_at_call 67; refine (isOrder_any n _).mono ?_; rintro e w1 ⟨rfl, rfl⟩)
    go_ret
    exact ⟨ret_bool (by simp [okP, HO.out]), rfl⟩
  | true =>
    obtain ⟨k, rfl, hk⟩ := okO_of hO
    have b2 := px_bd hk
    have HO := Lib.hid hO
    go_enter Try.func71, Try.ntmps71
    go_wp2_with (first | (go_at_call 67; refine (isOrder_any _ _).mono ?_; rintro e w1 ⟨rfl, rfl⟩) | (go_at_call 68; refine (refPixels_any k hk _).mono ?_; rintro e w1 ⟨rfl, rfl⟩) | (go_at_call 80; refine (within_any 0 p (pxI k - 1) _).mono ?_; rintro e w1 ⟨rfl, rfl⟩))
    go_ret
    exact ⟨ret_bool (by simp only [okP, HO.out, Int.toNat_natCast, Bool.true_and]; rw [Bool.eq_iff_iff]; simp; try omega), rfl⟩
end Go.Proofs.Ytnnfnphmieikmaa
