/-
  Contracts: SameInts (firnref03), areBits and ValidBits, both; Long (firnlaw03).
-/
import Derived.Test.YtcmnjmhedmneiaaDoorTexts
namespace Go.Proofs.YtcmnjmhedmneiaaDoor
open Go.RowKit Go.Shelf

theorem ne_len {α : Type} [DecidableEq α] {xs ys : List α} (h : xs.length ≠ ys.length) : false = decide (xs = ys) := by
  rw [eq_comm, decide_eq_false_iff_not]; rintro rfl; exact h rfl
theorem ne_at {α : Type} [DecidableEq α] {xs ys : List α} {k : Nat} {x y : α} (hx : xs[k]? = some x) (hy : ys[k]? = some y) (h : x ≠ y) : false = decide (xs = ys) := by
  rw [eq_comm, decide_eq_false_iff_not]; rintro rfl; rw [hx] at hy; exact h (Option.some.inj hy)
theorem eq_next {α : Type} {xs ys : List α} {k : Nat} {x y : α} (hx : xs[k]? = some x) (hy : ys[k]? = some y) (h : x = y) (ht : xs.take k = ys.take k) : xs.take (k + 1) = ys.take (k + 1) := by
  rw [take_snoc hx, take_snoc hy, ht, h]
theorem eq_end {α : Type} [DecidableEq α] {xs ys : List α} {k : Nat} (hl : xs.length = ys.length) (hk : xs.length ≤ k) (ht : xs.take k = ys.take k) : true = decide (xs = ys) := by
  rw [List.take_of_length_le hk, List.take_of_length_le (by omega)] at ht; simp [ht]

set_option maxRecDepth 100000 in
theorem sameInts_any (xs ys : List Int) (A B : Option Addr) (c d : Nat) (w : World) (hA : Ints w A xs) (hB : Ints w B ys) (hl : xs.length ≤ maxLen) :
    Calls Tryd.prog 28 #[.slice A xs.length c, .slice B ys.length d] w fun e w' => e = .returned (.bool (decide (xs = ys))) ∧ ∃ n, w' = w.drewN n := by
  unfold maxLen at hl
  have HA := Lib.hid hA
  have HB := Lib.hid hB
  clear hA hB
  by_cases hlen : xs.length = ys.length
  · have HL := Lib.hid hlen
    have hn : (((xs.length : Int) != (ys.length : Int)) = false) := by rw [hlen]; simp
    have hle : xs.length ≤ ys.length := by omega
    clear hlen
    go_enter Tryd.func28, Tryd.ntmps28
    go_wp2
    go_loopw [13] (fun i wr => ∃ k m : Nat, k ≤ xs.length ∧ i = .int .i64 k ∧ wr = w.drewN m ∧ Hid (xs.take k = ys.take k)) (fun i _ => xs.length - (intOf i).toNat)
    case atStart => exact ⟨0, 0, Nat.zero_le _, rfl, rfl, rfl⟩
    case round =>
      obtain ⟨k, m, hk, rfl, rfl, ht⟩ := hrel
      by_cases hlt : k < xs.length
      · obtain ⟨ad, x, rfl, _, hx, c1⟩ := HA.out.get hlt
        obtain ⟨ad2, y, rfl, _, hy, c2⟩ := HB.out.get (show k < ys.length by omega)
        have hlt2 : k < ys.length := by omega
        by_cases h1 : x = y
        · subst h1
          go_wp2
          go_quiet (fail)
          go_wp2
          go_roundw
          case rel => exact ⟨k + 1, _, by omega, by go_num, (by first | rfl | exact World.drewN_drewN _ _ _), eq_next hx.out hy.out rfl ht.out⟩
          case measure => simp [intOf]; omega
        · have t1 : (x == y) = false := by simpa using h1
          have t2 : (x != y) = true := by simpa using h1
          go_wp2
          go_quiet (fail)
          go_wp2
          go_ret
          exact ⟨ret_bool (ne_at hx.out hy.out h1), _, (by first | rfl | exact World.drewN_drewN _ _ _)⟩
      · go_wp2
        go_ret
        exact ⟨ret_bool (eq_end HL.out (by omega) ht.out), _, rfl⟩
  · have hn : (((xs.length : Int) != (ys.length : Int)) = true) := by simp; omega
    go_enter Tryd.func28, Tryd.ntmps28
    go_wp2
    go_ret
    exact ⟨ret_bool (ne_len hlen), 0, rfl⟩

theorem sameInts_same (xs : List Int) (A B : Option Addr) (c d : Nat) (w : World) (hA : Ints w A xs) (hB : Ints w B xs) (hl : xs.length ≤ maxLen) :
    Calls Tryd.prog 28 #[.slice A xs.length c, .slice B xs.length d] w fun e w' => e = .returned (.bool true) ∧ Below w.heap.size w w' :=
  (sameInts_any xs xs A B c d w hA hB hl).mono fun e w' ⟨he, n, hw⟩ => ⟨by rw [he]; simp, by rw [hw]; exact below_drewN (Below.refl _ _) n⟩

/-- A byte is 0 or 1. -/
def bitB (b : UInt8) : Bool := b == 48 || b == 49
def bitsB (t : ByteArray) : Bool := t.data.toList.all bitB
def vbB (t : ByteArray) : Bool := decide (t.size ≤ 1000) && bitsB t
theorem byte_at {t : ByteArray} {k : Nat} (h : k < t.size) : t.data.toList[k]? = some t[k] := by
  rw [List.getElem?_eq_getElem (by simpa using h)]; rfl
theorem bit_no {b : UInt8} (h : (b.toNat : Int) ≠ 48) (h2 : (b.toNat : Int) ≠ 49) : bitB b = false := by
  simp only [bitB, Bool.or_eq_false_iff, beq_eq_false_iff_ne]
  exact ⟨fun e => h (by rw [e]; rfl), fun e => h2 (by rw [e]; rfl)⟩
theorem bit_yes {b : UInt8} (h : (b.toNat : Int) = 48 ∨ (b.toNat : Int) = 49) : bitB b = true := by
  simp only [bitB, Bool.or_eq_true, beq_iff_eq]
  rcases h with h | h
  · exact .inl (UInt8.toNat_inj.1 (by rw [show (48 : UInt8).toNat = 48 from rfl]; omega))
  · exact .inr (UInt8.toNat_inj.1 (by rw [show (49 : UInt8).toNat = 49 from rfl]; omega))
theorem lawLong_any (t : ByteArray) (w : World) :
    Calls Tryd.prog 18 #[.string t] w fun e w' => e = .returned (.bool (decide (2000 < t.size))) ∧ w = w' := by
  go_enter Tryd.func18, Tryd.ntmps18
  go_wp2
  go_ret
  exact ⟨ret_bool (by simp; omega), rfl⟩

set_option maxRecDepth 100000 in
theorem wavebits_any (t : ByteArray) (w : World) (hl : t.size ≤ 100000) :
    Calls Tryd.prog 62 #[.string t] w fun e w' => e = .returned (.bool (bitsB t)) ∧ w = w' := by
  go_enter Tryd.func62, Tryd.ntmps62
  go_wp2
  go_loop [6] (fun i => ∃ k : Nat, k ≤ t.size ∧ i = .int .i64 k ∧ Hid ((t.data.toList.take k).all bitB = true)) (fun i => t.size - (intOf i).toNat)
  case atStart => exact ⟨0, Nat.zero_le _, rfl, rfl⟩
  case round =>
    obtain ⟨k, hk, rfl, hA⟩ := hrel
    by_cases hlt : k < t.size
    · have HB := Lib.hid (byte_at hlt)
      by_cases h1 : (t[k].toNat : Int) = 48
      · have HY := Lib.hid (bit_yes (.inl h1))
        have u1 : ((t[k].toNat : Int) != 48) = false := by simpa using h1
        have u2 : (t[k].toNat != 48) = false := by simp; omega
        go_wp2
        go_round
        case rel => exact ⟨k + 1, by omega, by go_num, by rw [all_snoc HB.out, hA.out, HY.out]; rfl⟩
        case measure => simp [intOf]; omega
      · by_cases h2 : (t[k].toNat : Int) = 49
        · have HY := Lib.hid (bit_yes (.inr h2))
          have u1 : ((t[k].toNat : Int) != 48) = true := by simpa using h1
          have u2 : ((t[k].toNat : Int) != 49) = false := by simpa using h2
          go_wp2
          go_round
          case rel => exact ⟨k + 1, by omega, by go_num, by rw [all_snoc HB.out, hA.out, HY.out]; rfl⟩
          case measure => simp [intOf]; omega
        · have HY := Lib.hid (bit_no h1 h2)
          have u1 : ((t[k].toNat : Int) != 48) = true := by simpa using h1
          have u2 : ((t[k].toNat : Int) != 49) = true := by simpa using h2
          go_wp2
          go_ret
          exact ⟨ret_bool (by rw [bitsB]; exact (all_not HB.out HY.out).symm), rfl⟩
    · obtain rfl : k = t.size := by omega
      go_wp2
      go_ret
      exact ⟨ret_bool (by have := hA.out; rw [List.take_of_length_le (by simp)] at this; rw [bitsB]; exact this.symm), rfl⟩
set_option maxRecDepth 100000 in
theorem wavevb_any (t : ByteArray) (w : World) (hl : t.size ≤ maxLen) :
    Calls Tryd.prog 26 #[.string t] w fun e w' => e = .returned (.bool (vbB t)) ∧ w = w' := by
  unfold maxLen at hl
  by_cases h : (t.size : Int) ≤ 1000
  · have h1 : decide ((t.size : Int) ≤ 1000) = true := decide_eq_true h
    have hs : t.size ≤ 1000 := by omega
    clear h
    cases hb : bitsB t with
    | false =>
      have HB := Lib.hid hb
      clear hb
      go_enter Tryd.func26, Tryd.ntmps26
      go_wp2_with (go_at_call 62; refine (wavebits_any t _ (by omega)).mono ?_; rintro e w1 ⟨rfl, rfl⟩; rw [HB.out])
      go_ret
      exact ⟨ret_bool (by rw [vbB, HB.out, Bool.and_false]), rfl⟩
    | true =>
      have HB := Lib.hid hb
      clear hb
      go_enter Tryd.func26, Tryd.ntmps26
      go_wp2_with (go_at_call 62; refine (wavebits_any t _ (by omega)).mono ?_; rintro e w1 ⟨rfl, rfl⟩; rw [HB.out])
      go_ret
      exact ⟨ret_bool (by rw [vbB, HB.out, decide_eq_true hs]; rfl), rfl⟩
  · have h1 : decide ((t.size : Int) ≤ 1000) = false := decide_eq_false h
    go_enter Tryd.func26, Tryd.ntmps26
    go_wp2
    go_ret
    exact ⟨ret_bool (by rw [vbB, decide_eq_false (by omega)]; rfl), rfl⟩

set_option maxRecDepth 100000 in
theorem refbits_any (t : ByteArray) (w : World) (hl : t.size ≤ 100000) :
    Calls Tryd.prog 63 #[.string t] w fun e w' => e = .returned (.bool (bitsB t)) ∧ w = w' := by
  go_enter Tryd.func63, Tryd.ntmps63
  go_wp2
  go_loop [6] (fun i => ∃ k : Nat, k ≤ t.size ∧ i = .int .i64 k ∧ Hid ((t.data.toList.take k).all bitB = true)) (fun i => t.size - (intOf i).toNat)
  case atStart => exact ⟨0, Nat.zero_le _, rfl, rfl⟩
  case round =>
    obtain ⟨k, hk, rfl, hA⟩ := hrel
    by_cases hlt : k < t.size
    · have HB := Lib.hid (byte_at hlt)
      by_cases h1 : (t[k].toNat : Int) = 48
      · have HY := Lib.hid (bit_yes (.inl h1))
        have u1 : ((t[k].toNat : Int) != 48) = false := by simpa using h1
        have u2 : (t[k].toNat != 48) = false := by simp; omega
        go_wp2
        go_round
        case rel => exact ⟨k + 1, by omega, by go_num, by rw [all_snoc HB.out, hA.out, HY.out]; rfl⟩
        case measure => simp [intOf]; omega
      · by_cases h2 : (t[k].toNat : Int) = 49
        · have HY := Lib.hid (bit_yes (.inr h2))
          have u1 : ((t[k].toNat : Int) != 48) = true := by simpa using h1
          have u2 : ((t[k].toNat : Int) != 49) = false := by simpa using h2
          go_wp2
          go_round
          case rel => exact ⟨k + 1, by omega, by go_num, by rw [all_snoc HB.out, hA.out, HY.out]; rfl⟩
          case measure => simp [intOf]; omega
        · have HY := Lib.hid (bit_no h1 h2)
          have u1 : ((t[k].toNat : Int) != 48) = true := by simpa using h1
          have u2 : ((t[k].toNat : Int) != 49) = true := by simpa using h2
          go_wp2
          go_ret
          exact ⟨ret_bool (by rw [bitsB]; exact (all_not HB.out HY.out).symm), rfl⟩
    · obtain rfl : k = t.size := by omega
      go_wp2
      go_ret
      exact ⟨ret_bool (by have := hA.out; rw [List.take_of_length_le (by simp)] at this; rw [bitsB]; exact this.symm), rfl⟩
set_option maxRecDepth 100000 in
theorem refvb_any (t : ByteArray) (w : World) (hl : t.size ≤ maxLen) :
    Calls Tryd.prog 27 #[.string t] w fun e w' => e = .returned (.bool (vbB t)) ∧ w = w' := by
  unfold maxLen at hl
  by_cases h : (t.size : Int) ≤ 1000
  · have h1 : decide ((t.size : Int) ≤ 1000) = true := decide_eq_true h
    have hs : t.size ≤ 1000 := by omega
    clear h
    cases hb : bitsB t with
    | false =>
      have HB := Lib.hid hb
      clear hb
      go_enter Tryd.func27, Tryd.ntmps27
      go_wp2_with (go_at_call 63; refine (refbits_any t _ (by omega)).mono ?_; rintro e w1 ⟨rfl, rfl⟩; rw [HB.out])
      go_ret
      exact ⟨ret_bool (by rw [vbB, HB.out, Bool.and_false]), rfl⟩
    | true =>
      have HB := Lib.hid hb
      clear hb
      go_enter Tryd.func27, Tryd.ntmps27
      go_wp2_with (go_at_call 63; refine (refbits_any t _ (by omega)).mono ?_; rintro e w1 ⟨rfl, rfl⟩; rw [HB.out])
      go_ret
      exact ⟨ret_bool (by rw [vbB, HB.out, decide_eq_true hs]; rfl), rfl⟩
  · have h1 : decide ((t.size : Int) ≤ 1000) = false := decide_eq_false h
    go_enter Tryd.func27, Tryd.ntmps27
    go_wp2
    go_ret
    exact ⟨ret_bool (by rw [vbB, decide_eq_false (by omega)]; rfl), rfl⟩
end Go.Proofs.YtcmnjmhedmneiaaDoor
