/-
  Contracts: size, firnref01.ValidReadings, both ValidCounts, SameInts, many.
-/
import Derived.Test.YtjghlfagdleglaaVr
namespace Go.Proofs.Ytjghlfagdleglaa
open Go.RowKit

theorem pow_succ' (k : Nat) : (2 : Int) ^ (k + 1) = 2 ^ k * 2 := Int.pow_succ 2 k
theorem pow_lo (k : Nat) : (1 : Int) ≤ 2 ^ k := by
  have h : 0 < (2 : Nat) ^ k := Nat.two_pow_pos k
  have e : ((2 : Int) ^ k) = ((2 ^ k : Nat) : Int) := by simp
  rw [e]; omega
theorem pow_hi {k : Nat} (h : k ≤ 32) : (2 : Int) ^ k ≤ 4294967296 := by
  have a2 : (2 : Nat) ^ k ≤ 2 ^ 32 := Nat.pow_le_pow_right (by omega) h
  have e : ((2 : Int) ^ k) = ((2 ^ k : Nat) : Int) := by simp
  rw [e]
  have : 2 ^ k ≤ (4294967296 : Nat) := a2
  omega

theorem size_any (b : Int) (w : World) (h1 : 0 ≤ b) (h2 : b ≤ 32) :
    Calls Try.prog 58 #[.int .i64 b] w fun e w' => ∃ R : Int, e = .returned (.int .i64 R) ∧ w = w' ∧ Hid (R = 2 ^ b.toNat) := by
  obtain ⟨n, rfl⟩ := Int.eq_ofNat_of_zero_le h1
  go_enter Try.func58, Try.ntmps58
  go_wp2
  go_loop [3, 5] (fun p i => ∃ (k : Nat) (R : Int), k ≤ n ∧ i = .int .i64 k ∧ p = .int .i64 R ∧ 0 ≤ R ∧ R ≤ 4294967296 ∧ Hid (R = 2 ^ k)) (fun _ i => n - (intOf i).toNat)
  case atStart => exact ⟨0, 1, by omega, rfl, rfl, by omega, by omega, rfl⟩
  case round =>
    obtain ⟨k, R, hk, rfl, rfl, hR0, hR1, hR⟩ := hrel
    by_cases hlt : k < n
    · go_wp2
      go_round
      case rel =>
        have e : R * 2 = 2 ^ (k + 1) := by rw [pow_succ', hR.out]
        have := pow_hi (k := k + 1) (by omega)
        exact ⟨k + 1, R * 2, by omega, by go_num, by go_num, by omega, by omega, e⟩
      case measure => simp [intOf]; omega
    · obtain rfl : k = n := by omega
      go_wp2
      go_ret
      exact ⟨_, rfl, rfl, hR.out⟩

theorem vr_bad' {b R : Int} {zs : List Int} {k : Nat} {z : Int} (hR : R = 2 ^ b.toNat) (h : zs[k]? = some z) (hz : z < 0 ∨ R ≤ z) : false = vrB b zs := by subst hR; exact vr_bad h hz
theorem vr_next' {b R : Int} {zs : List Int} {k : Nat} {z : Int} (hR : R = 2 ^ b.toNat) (h : zs[k]? = some z) (ha : (zs.take k).all (okR b) = true) (h0 : 0 ≤ z) (h1 : z < R) : (zs.take (k + 1)).all (okR b) = true := by
  subst hR; exact vr_next h ha h0 h1

theorem refValidReadings_any (b : Int) (zs : List Int) (A : Option Addr) (c : Nat) (w : World) (h : Ints w A zs) (hl : zs.length ≤ maxLen) :
    Calls Try.prog 19 #[.int .i64 b, .slice A zs.length c] w fun e w' => e = .returned (.bool (vrB b zs)) ∧ w = w' := by
  unfold maxLen at hl
  have H := Lib.hid h
  clear h
  by_cases hb : bitsB b = true
  · have hb' : 4 ≤ b ∧ b ≤ 32 := by simpa [bitsB] using hb
    by_cases hn : 1 ≤ zs.length ∧ zs.length ≤ 60
    · have n1 : decide ((zs.length : Int) < 1) = false := by simp; omega
      have n2 : decide (60 < (zs.length : Int)) = false := by simp; omega
      go_enter Try.func19, Try.ntmps19
      go_wp2_with (go_at_call 51; refine (isBits_any _ _).mono ?_; rintro e w' ⟨rfl, rfl⟩)
      go_loop [22] (fun i => ∃ k : Nat, k ≤ zs.length ∧ i = .int .i64 k ∧ Hid ((zs.take k).all (okR b) = true)) (fun i => zs.length - (intOf i).toNat)
      case atStart => exact ⟨0, Nat.zero_le _, rfl, rfl⟩
      case round =>
        obtain ⟨k, hk, rfl, hall⟩ := hrel
        by_cases hlt : k < zs.length
        · obtain ⟨ad, z, rfl, hbk, hz, hc⟩ := H.out.get hlt
          by_cases hz0 : z < 0
          · go_wp2
            go_ret
            exact ⟨ret_bool (vr_bad hz.out (.inl hz0)), rfl⟩
          · go_wp2_with (go_at_call 58; refine (size_any _ _ (by omega) (by omega)).mono ?_; rintro e w' ⟨R, rfl, rfl, hR⟩)
            · go_ret
              exact ⟨ret_bool (vr_bad' (hR.out) hz.out (.inr ‹_›)), rfl⟩
            · go_round
              case rel => exact ⟨k + 1, by omega, by go_num, vr_next' hR.out hz.out hall.out (by omega) (by omega)⟩
              case measure => simp [intOf]; omega
        · go_wp2
          go_ret
          exact ⟨ret_bool (vr_all hb hn (by omega) hall.out), rfl⟩
    · by_cases n1 : (zs.length : Int) < 1
      · go_enter Try.func19, Try.ntmps19
        go_wp2_with (go_at_call 51; refine (isBits_any _ _).mono ?_; rintro e w' ⟨rfl, rfl⟩)
        go_ret
        exact ⟨ret_bool (vr_len hn), rfl⟩
      · have n2 : 60 < (zs.length : Int) := by omega
        have n3 : decide ((zs.length : Int) < 1) = false := by simp; omega
        go_enter Try.func19, Try.ntmps19
        go_wp2_with (go_at_call 51; refine (isBits_any _ _).mono ?_; rintro e w' ⟨rfl, rfl⟩)
        go_ret
        exact ⟨ret_bool (vr_len hn), rfl⟩
  · have hb2 : bitsB b = false := by simpa using hb
    go_enter Try.func19, Try.ntmps19
    go_wp2_with (go_at_call 51; refine (isBits_any _ _).mono ?_; rintro e w' ⟨rfl, rfl⟩)
    go_ret
    exact ⟨ret_bool (vr_bits hb), rfl⟩
end Go.Proofs.Ytjghlfagdleglaa
