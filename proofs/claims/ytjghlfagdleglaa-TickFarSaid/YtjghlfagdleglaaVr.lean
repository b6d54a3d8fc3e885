/-
  Contracts: ValidReadings (tick and firnref01).
-/
import Derived.Test.YtjghlfagdleglaaVal
namespace Go.Proofs.Ytjghlfagdleglaa
open Go.RowKit

def okR (b : Int) (z : Int) : Bool := decide (0 ≤ z ∧ z < 2 ^ b.toNat)
def vrB (b : Int) (zs : List Int) : Bool := bitsB b && decide (1 ≤ zs.length ∧ zs.length ≤ 60) && zs.all (okR b)

theorem vr_bits {b : Int} {zs : List Int} (hb : ¬ bitsB b = true) : false = vrB b zs := by simp [vrB, hb]
theorem vr_len {b : Int} {zs : List Int} (hn : ¬ (1 ≤ zs.length ∧ zs.length ≤ 60)) : false = vrB b zs := by
  unfold vrB; rw [decide_eq_false hn]; simp
theorem vr_bad {b : Int} {zs : List Int} {k : Nat} {z : Int} (h : zs[k]? = some z) (hz : z < 0 ∨ (2 : Int) ^ b.toNat ≤ z) : false = vrB b zs := by
  unfold vrB; rw [all_not h (by simp [okR]; omega)]; simp
theorem vr_all {b : Int} {zs : List Int} {k : Nat} (hb : bitsB b = true) (hn : 1 ≤ zs.length ∧ zs.length ≤ 60) (hk : zs.length ≤ k) (h : (zs.take k).all (okR b) = true) : true = vrB b zs := by
  rw [all_full hk] at h; unfold vrB; rw [hb, decide_eq_true hn, h]; rfl
theorem vr_next {b : Int} {zs : List Int} {k : Nat} {z : Int} (h : zs[k]? = some z) (ha : (zs.take k).all (okR b) = true) (h0 : 0 ≤ z) (h1 : z < 2 ^ b.toNat) : (zs.take (k + 1)).all (okR b) = true := by
  rw [all_snoc h, ha]; simp [okR, h0, h1]

theorem validReadings_any (b : Int) (zs : List Int) (A : Option Addr) (c : Nat) (w : World) (h : Ints w A zs) (hl : zs.length ≤ maxLen) :
    Calls Try.prog 18 #[.int .i64 b, .slice A zs.length c] w fun e w' => e = .returned (.bool (vrB b zs)) ∧ w = w' := by
  unfold maxLen at hl
  have H := Lib.hid h
  clear h
  by_cases hb : bitsB b = true
  · have hb' : 4 ≤ b ∧ b ≤ 32 := by simpa [bitsB] using hb
    by_cases hn : 1 ≤ zs.length ∧ zs.length ≤ 60
    · have n1 : decide ((zs.length : Int) < 1) = false := by simp; omega
      have n2 : decide (60 < (zs.length : Int)) = false := by simp; omega
      have HP := Lib.hid (pow_wrap hb'.1 hb'.2)
      go_enter Try.func18, Try.ntmps18
      go_wp2_with (go_at_call 57; refine (validBits_any _ _).mono ?_; rintro e w' ⟨rfl, rfl⟩)
      go_loop [22] (fun i => ∃ k : Nat, k ≤ zs.length ∧ i = .int .i64 k ∧ Hid ((zs.take k).all (okR b) = true)) (fun i => zs.length - (intOf i).toNat)
      case atStart => exact ⟨0, Nat.zero_le _, rfl, rfl⟩
      case round =>
        obtain ⟨k, hk, rfl, hall⟩ := hrel
        by_cases hlt : k < zs.length
        · obtain ⟨ad, z, rfl, hbk, hz, hc⟩ := H.out.get hlt
          go_wp2
          · go_ret
            exact ⟨ret_bool (vr_bad hz.out (by rw [← HP.out]; assumption)), rfl⟩
          · go_round
            case rel => exact ⟨k + 1, by omega, by go_num, vr_next hz.out hall.out (by omega) (by rw [← HP.out]; omega)⟩
            case measure => simp [intOf]; omega
          · go_ret
            exact ⟨ret_bool (vr_bad hz.out (.inl ‹_›)), rfl⟩
        · go_wp2
          go_ret
          exact ⟨ret_bool (vr_all hb hn (by omega) hall.out), rfl⟩
    · by_cases n1 : (zs.length : Int) < 1
      · go_enter Try.func18, Try.ntmps18
        go_wp2_with (go_at_call 57; refine (validBits_any _ _).mono ?_; rintro e w' ⟨rfl, rfl⟩)
        go_ret
        exact ⟨ret_bool (vr_len hn), rfl⟩
      · have n2 : 60 < (zs.length : Int) := by omega
        have n3 : decide ((zs.length : Int) < 1) = false := by simp; omega
        go_enter Try.func18, Try.ntmps18
        go_wp2_with (go_at_call 57; refine (validBits_any _ _).mono ?_; rintro e w' ⟨rfl, rfl⟩)
        go_ret
        exact ⟨ret_bool (vr_len hn), rfl⟩
  · have hb2 : bitsB b = false := by simpa using hb
    go_enter Try.func18, Try.ntmps18
    go_wp2_with (go_at_call 57; refine (validBits_any _ _).mono ?_; rintro e w' ⟨rfl, rfl⟩)
    go_ret
    exact ⟨ret_bool (vr_bits hb), rfl⟩
end Go.Proofs.Ytjghlfagdleglaa
