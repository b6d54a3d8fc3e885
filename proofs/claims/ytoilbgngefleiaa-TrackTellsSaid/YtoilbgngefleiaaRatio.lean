/-
  Contracts: size, lowest (track), gcd, Ratio, size (firnref05): lowest terms.
-/
import Derived.Test.YtoilbgngefleiaaPairs
namespace Go.Proofs.Ytoilbgngefleiaa
open Go.RowKit

def absI (n : Int) : Int := max n (-n)
theorem abs_gcd (n d : Int) : Int.gcd (absI n) d = Int.gcd n d := by
  unfold absI
  rcases Int.le_total n (-n) with h | h
  · rw [Int.max_eq_right h, Int.neg_gcd]
  · rw [Int.max_eq_left h]
set_option maxRecDepth 100000 in
theorem size_any (n : Int) (w : World) (h0 : -4611686018427387904 ≤ n) (h1 : n ≤ 4611686018427387904) :
    Calls Try.prog 90 #[.int .i64 n] w fun e w' => e = .returned (.int .i64 (absI n)) ∧ w = w' := by
  go_enter Try.func90, Try.ntmps90
  go_wp2
  all_goals
    go_ret
    exact ⟨ret_int (by show _ = max n (-n); omega), rfl⟩
set_option maxRecDepth 100000 in
theorem refsize_any (n : Int) (w : World) (h0 : -4611686018427387904 ≤ n) (h1 : n ≤ 4611686018427387904) :
    Calls Try.prog 93 #[.int .i64 n] w fun e w' => e = .returned (.int .i64 (absI n)) ∧ w = w' := by
  go_enter Try.func93, Try.ntmps93
  go_wp2
  all_goals
    go_ret
    exact ⟨ret_int (by show _ = max n (-n); omega), rfl⟩
/-! ### the greatest common divisor -/
theorem gcd_tmod (a b : Int) : Int.gcd b (a.tmod b) = Int.gcd a b := by
  have h : a.tmod b = a - b * a.tdiv b := by have := Int.tmod_add_mul_tdiv a b; omega
  rw [h, Int.gcd_comm b]
  rw [Int.sub_eq_add_neg, ← Int.mul_neg, Int.mul_comm, Int.gcd_add_mul_right_left]
theorem gcd_emod (a b : Int) : Int.gcd b (a % b) = Int.gcd a b := by
  have h : a % b = a - b * (a / b) := by have := Int.emod_add_mul_ediv a b; omega
  rw [h, Int.gcd_comm b]
  rw [Int.sub_eq_add_neg, ← Int.mul_neg, Int.mul_comm, Int.gcd_add_mul_right_left]

def lowN (n d : Int) : Int := n / (Int.gcd n d : Int)
def lowD (n d : Int) : Int := d / (Int.gcd n d : Int)

theorem tmod_lt (a b : Int) (hb : b ≠ 0) : (a.tmod b).natAbs < b.natAbs := by
  rw [Int.natAbs_tmod]; exact Nat.mod_lt _ (by omega)

set_option maxRecDepth 100000 in
theorem refgcd_any (n d : Int) (w : World) (hn0 : -4611686018427387904 ≤ n) (hn1 : n ≤ 4611686018427387904) (hd0 : 0 < d) (hd1 : d ≤ 4611686018427387904) :
    Calls Try.prog 88 #[.int .i64 n, .int .i64 d] w fun e w' => ∃ g : Int, e = .returned (.int .i64 g) ∧ (∃ m, w' = w.drewN m) ∧ Hid (g = (Int.gcd n d : Int)) := by
  go_enter Try.func88, Try.ntmps88
  go_wp2
  go_loopw [0, 1] (fun x y wr => ∃ (a b : Int) (m : Nat), x = .int .i64 a ∧ y = .int .i64 b ∧ wr = w.drewN m ∧ -4611686018427387904 ≤ a ∧ a ≤ 4611686018427387904 ∧ -4611686018427387904 ≤ b ∧ b ≤ 4611686018427387904 ∧ Hid (Int.gcd a b = Int.gcd n d)) (fun _ y _ => (intOf y).natAbs)
  case atStart => exact ⟨n, d, 0, rfl, rfl, rfl, hn0, hn1, by omega, hd1, rfl⟩
  case round =>
    obtain ⟨a, b, m, rfl, rfl, rfl, ha0, ha1, hb0, hb1, hg⟩ := hrel
    by_cases hb : b = 0
    · subst hb
      have HG := hg.out
      rw [Int.gcd_zero_right] at HG
      have HG2 := Lib.hid HG
      clear HG hg
      go_wp2
      all_goals
        go_ret
        refine ⟨_, rfl, ⟨_, rfl⟩, ?_⟩
        rw [← HG2.out]
        show _ = _
        omega
    · have hbb : (b == 0) = false := by simpa using hb
      have hbn : (b != 0) = true := by simpa using hb
      have hlt := tmod_lt a b hb
      have hg2 := Lib.hid ((gcd_tmod a b).trans hg.out)
      clear hg
      go_wp2
      go_quiet (fail)
      go_wp2
      go_roundw
      case rel => exact ⟨b, _, _, rfl, rfl, World.drewN_drewN _ _ _, hb0, hb1, by omega, by omega, hg2.out⟩
      case measure => simp only [intOf]; exact hlt

theorem gcd_pos {n d : Int} (hd : 0 < d) : 0 < (Int.gcd n d : Int) := by
  have : Int.gcd n d ≠ 0 := by rw [Ne, Int.gcd_eq_zero_iff]; omega
  omega
theorem gcd_le {n d : Int} (hd : 0 < d) : (Int.gcd n d : Int) ≤ d := Int.le_of_dvd hd (Int.gcd_dvd_right n d)
theorem quo_n {n d g : Int} (hg : g = (Int.gcd n d : Int)) : n.tdiv g = lowN n d := by
  subst hg; rw [lowN]; exact Int.tdiv_eq_ediv_of_dvd (Int.gcd_dvd_left n d)
theorem quo_d {n d g : Int} (hg : g = (Int.gcd n d : Int)) : d.tdiv g = lowD n d := by
  subst hg; rw [lowD]; exact Int.tdiv_eq_ediv_of_dvd (Int.gcd_dvd_right n d)
theorem lowN_bd {n d : Int} (hd : 0 < d) (h0 : -4611686018427387904 ≤ n) (h1 : n ≤ 4611686018427387904) : -9223372036854775808 ≤ lowN n d ∧ lowN n d ≤ 9223372036854775807 := by
  have hg := gcd_pos (n := n) hd
  have e : lowN n d * (Int.gcd n d : Int) = n := Int.ediv_mul_cancel (Int.gcd_dvd_left n d)
  generalize (Int.gcd n d : Int) = g at *
  generalize lowN n d = q at *
  by_cases hq : 0 ≤ q
  · have : q * 1 ≤ q * g := Int.mul_le_mul_of_nonneg_left (by omega) hq
    omega
  · have : q * g ≤ q * 1 := Int.mul_le_mul_of_nonpos_left (by omega) (by omega)
    omega
theorem lowD_bd {n d : Int} (hd : 0 < d) : 1 ≤ lowD n d ∧ lowD n d ≤ d := by
  have hg := gcd_pos (n := n) hd
  have e : lowD n d * (Int.gcd n d : Int) = d := Int.ediv_mul_cancel (Int.gcd_dvd_right n d)
  generalize (Int.gcd n d : Int) = g at *
  generalize lowD n d = q at *
  have hq : 0 < q := by
    rcases Int.lt_or_le 0 q with h | h
    · exact h
    · have : q * g ≤ 0 := Int.mul_nonpos_of_nonpos_of_nonneg h (by omega)
      omega
  have : q * 1 ≤ q * g := Int.mul_le_mul_of_nonneg_left (by omega) (by omega)
  omega
theorem ret_agg2 {a b c d : Int} (h1 : a = c) (h2 : b = d) : Ending.returned (.agg #[.int .i64 a, .int .i64 b]) = .returned (.agg #[.int .i64 c, .int .i64 d]) := by rw [h1, h2]

set_option maxRecDepth 100000 in
theorem refRatio_any (n d : Int) (w : World) (hn0 : -4611686018427387904 ≤ n) (hn1 : n ≤ 4611686018427387904) (hd0 : 0 < d) (hd1 : d ≤ 4611686018427387904) :
    Calls Try.prog 55 #[.int .i64 n, .int .i64 d] w fun e w' => e = .returned (.agg #[.int .i64 (lowN n d), .int .i64 (lowD n d)]) ∧ Below w.heap.size w w' := by
  go_enter Try.func55, Try.ntmps55
  go_wp2_with (go_at_call 88; refine (refgcd_any _ _ _ hn0 hn1 hd0 hd1).mono ?_; rintro e w1 ⟨g, rfl, ⟨m, rfl⟩, hg⟩)
  have hgp : 0 < g := by rw [hg.out]; exact gcd_pos hd0
  have hg0 : (g == 0) = false := by simp; omega
  have hgn : g ≠ 0 := by omega
  have q1 : IntKind.i64.wrap (n.tdiv g) = lowN n d := by rw [quo_n hg.out]; exact IntWalk.i64_in _ (lowN_bd hd0 hn0 hn1)
  have q2 : IntKind.i64.wrap (d.tdiv g) = lowD n d := by rw [quo_d hg.out]; have := lowD_bd (n := n) hd0; exact IntWalk.i64_in _ (by omega)
  go_region_held3 (fun _ => True) (trivial) ((fail))
  go_wp2
  exact bodyPost_ret (v := .agg #[.int .i64 (lowN n d), .int .i64 (lowD n d)]) (by simp [results, Try.results55, go_sem]) rfl ⟨rfl, (by repeat (first | with_reducible exact Below.refl _ _ | with_reducible assumption | refine below_drewN ?_ _ | with_reducible refine Below.drew ?_ | (refine Below.setCell ?_ (by first | (simp; done) | (simp; omega) | omega) _) | (refine Below.alloc ?_ (by first | (simp; done) | (simp; omega) | omega) _)))⟩

set_option maxRecDepth 100000 in
theorem lowest_any (n d : Int) (w : World) (hn0 : -4611686018427387904 ≤ n) (hn1 : n ≤ 4611686018427387904) (hd0 : 0 < d) (hd1 : d ≤ 4611686018427387904) :
    Calls Try.prog 59 #[.int .i64 n, .int .i64 d] w fun e w' => e = .returned (.agg #[.int .i64 (lowN n d), .int .i64 (lowD n d)]) ∧ Below w.heap.size w w' := by
  go_enter Try.func59, Try.ntmps59
  go_wp2_with (go_at_call 90; refine (size_any n _ (by omega) (by omega)).mono ?_; rintro e w1 ⟨rfl, rfl⟩)
  all_goals
    go_loopw [5, 6] (fun x y wr => ∃ (a b : Int) (m : Nat), x = .int .i64 a ∧ y = .int .i64 b ∧ wr = (w.alloc (.cells #[.int .i64 0, .int .i64 0] 34)).drewN m ∧ 0 ≤ a ∧ a ≤ 4611686018427387904 ∧ 0 ≤ b ∧ b ≤ 4611686018427387904 ∧ Hid (Int.gcd a b = Int.gcd n d)) (fun _ y _ => (intOf y).natAbs)
    case atStart => exact ⟨absI n, d, 0, rfl, rfl, rfl, by unfold absI; omega, by unfold absI; omega, by omega, by omega, abs_gcd n d⟩
    case round =>
      obtain ⟨a, b, m, rfl, rfl, rfl, ha0, ha1, hb0, hb1, hg⟩ := hrel
      by_cases hb : b = 0
      · subst hb
        have HG := hg.out
        rw [Int.gcd_zero_right] at HG
        have HG2 : Hid (a = (Int.gcd n d : Int)) := by show _ = _; rw [← HG]; omega
        clear HG hg
        have hgp : 0 < a := by rw [HG2.out]; exact gcd_pos hd0
        have hg0 : (a == 0) = false := by simp; omega
        have hgn : a ≠ 0 := by omega
        have q1 : IntKind.i64.wrap (n.tdiv a) = lowN n d := by rw [quo_n HG2.out]; exact IntWalk.i64_in _ (lowN_bd hd0 hn0 hn1)
        have q2 : IntKind.i64.wrap (d.tdiv a) = lowD n d := by rw [quo_d HG2.out]; have := lowD_bd (n := n) hd0; exact IntWalk.i64_in _ (by omega)
        go_wp2
        go_region_held3 (fun _ => True) (trivial) ((fail))
        go_wp2
        exact bodyPost_ret (v := .agg #[.int .i64 (lowN n d), .int .i64 (lowD n d)]) (by simp [results, Try.results59, go_sem]) rfl ⟨rfl, (by repeat (first | with_reducible exact Below.refl _ _ | with_reducible assumption | refine below_drewN ?_ _ | with_reducible refine Below.drew ?_ | (refine Below.setCell ?_ (by first | (simp; done) | (simp; omega) | omega) _) | (refine Below.alloc ?_ (by first | (simp; done) | (simp; omega) | omega) _)))⟩
      · have hbb : (b == 0) = false := by simpa using hb
        have hbn : (b != 0) = true := by simpa using hb
        have hlt : (a % b).natAbs < b.natAbs := by rw [← Int.tmod_eq_emod_of_nonneg ha0]; exact tmod_lt a b hb
        have hnn := Int.emod_nonneg a hb
        have hg2 := Lib.hid ((gcd_emod a b).trans hg.out)
        clear hg
        go_wp2
        go_quiet (fail)
        go_wp2
        go_roundw
        case rel => exact ⟨b, _, _, rfl, rfl, World.drewN_drewN _ _ _, by omega, by omega, by omega, by omega, hg2.out⟩
        case measure => simp only [intOf]; exact hlt
end Go.Proofs.Ytoilbgngefleiaa
