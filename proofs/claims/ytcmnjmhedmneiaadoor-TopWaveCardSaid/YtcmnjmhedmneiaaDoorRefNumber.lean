/-
  Contracts: number, Number (firnref03).
-/
import Derived.Test.YtcmnjmhedmneiaaDoorRefWord2
namespace Go.Proofs.YtcmnjmhedmneiaaDoor
open Go.RowKit Go.Shelf

/-- What the first m bits of W count for. -/
def posA (l : List UInt8) (m : Nat) : Int := numL (l.take m) * 2 ^ (l.length - m)
theorem bitN_one {b : UInt8} (h : b.toNat = 49) : bitN b = 1 := bitN_1 h
theorem num_first {l : List UInt8} {b : UInt8} (h : l[0]? = some b) : numL (l.take 1) = -bitN b := by
  cases l with
  | nil => cases h
  | cons c u =>
    simp at h
    subst h
    simp [numL, headB, upA]
    unfold bitN
    split
    · simp_all
    · simp_all
theorem head_take {l : List UInt8} {m : Nat} (h : 1 ≤ m) : headB (l.take m) = headB l := by
  cases l with
  | nil => simp
  | cons c u =>
    obtain ⟨j, rfl⟩ : ∃ j, m = j + 1 := ⟨m - 1, by omega⟩
    rfl
theorem num_next {l : List UInt8} {m : Nat} {b : UInt8} (h1 : 1 ≤ m) (h : l[m]? = some b) : numL (l.take (m + 1)) = 2 * numL (l.take m) + bitN b := by
  have hl : m < l.length := (List.getElem?_eq_some_iff.1 h).1
  have e1 : (l.take (m + 1)).length = m + 1 := by rw [List.length_take]; omega
  have e2 : (l.take m).length = m := by rw [List.length_take]; omega
  unfold numL
  rw [head_take (by omega), head_take h1, up_next h, e1, e2, Int.pow_succ]
  split <;> omega
theorem pow_half {l : List UInt8} {m : Nat} (hl : m < l.length) : (2 : Int) ^ (l.length - m) = 2 * 2 ^ (l.length - (m + 1)) := by
  obtain ⟨j, hj⟩ : ∃ j, l.length - m = j + 1 := ⟨l.length - m - 1, by omega⟩
  rw [hj, show l.length - (m + 1) = j by omega, Int.pow_succ, Int.mul_comm]
theorem pos_first {l : List UInt8} {b : UInt8} (h : l[0]? = some b) : posA l 1 = posA l 0 + -(bitN b) * 2 ^ (l.length - 1) := by
  unfold posA
  rw [num_first h]
  simp [numL, headB, upA]
theorem pos_next {l : List UInt8} {m : Nat} {b : UInt8} (h1 : 1 ≤ m) (h : l[m]? = some b) : posA l (m + 1) = posA l m + bitN b * 2 ^ (l.length - (m + 1)) := by
  have hl : m < l.length := (List.getElem?_eq_some_iff.1 h).1
  unfold posA
  rw [num_next h1 h, pow_half hl, Int.add_mul, ← Int.mul_assoc, Int.mul_comm 2 (numL _)]
theorem pos_zero (l : List UInt8) : posA l 0 = 0 := by simp [posA, numL, headB, upA]
theorem pos_end (l : List UInt8) : posA l l.length = numL l := by simp [posA]

set_option maxRecDepth 100000 in
set_option maxHeartbeats 2000000 in
theorem refnumber_any (t : ByteArray) (w : World) (hs1 : 1 ≤ t.size) (hs11 : t.size ≤ 11) (hb : bitsB t = true) :
    Calls Tryd.prog 71 #[.string t] w fun e w' => e = .returned (.int .i64 (numL t.data.toList)) ∧ w = w' := by
  have HBB : Hid (∀ b ∈ t.data.toList, bitB b = true) := by rw [bitsB, List.all_eq_true] at hb; exact hb
  have HLN : Hid (t.data.toList.length = t.size) := Lib.hid (by simp)
  clear hb
  go_enter Tryd.func71, Tryd.ntmps71
  go_wp2
  go_loop [3, 4, 5, 8] (fun a _ _ i => ∃ m : Nat, m ≤ t.size ∧ i = .int .i64 m ∧ ∃ x : Int, a = .int .i64 x ∧ (-1024 * m ≤ x ∧ x ≤ 1024 * m) ∧ Hid (x = posA t.data.toList m)) (fun _ _ _ i => t.size - (intOf i).toNat)
  case atStart => exact ⟨0, Nat.zero_le _, rfl, 0, rfl, by omega, Lib.hid (pos_zero _).symm⟩
  case round =>
    obtain ⟨m, hm, rfl, x, rfl, hx, hX⟩ := hrel
    obtain ⟨hx0, hx1⟩ := hx
    by_cases hlt : m < t.size
    · have HB := Lib.hid (byte_at hlt)
      have hbb := HBB.out _ (List.mem_of_getElem? HB.out)
      have hcall := refhalf_any (t.size - m) (by omega) (by omega) w
      have hbd := half_bd (t.size - m) (by omega)
      have HP : Hid (halfN (t.size - m) = 2 ^ (t.data.toList.length - (m + 1))) := Lib.hid (by rw [halfN, HLN.out, show t.size - m - 1 = t.size - (m + 1) by omega])
      generalize hh : halfN (t.size - m) = h at hcall hbd HP
      obtain ⟨hb0, hb1⟩ := hbd
      rw [show ((t.size - m : Nat) : Int) = (t.size : Int) - (m : Int) by omega] at hcall
      have e1 : IntKind.i64.wrap ((t.size : Int) - (m : Int)) = (t.size : Int) - (m : Int) := IntWalk.i64_in _ (by omega)
      clear hh
      rcases bit_two hbb with h1 | h1
      · have HE := Lib.hid (bitN_0 h1)
        have u1 : ((t[m].toNat : Int) == 49) = false := by rw [h1]; rfl
        clear hbb
        go_wp2
        go_round
        case rel => exact ⟨m + 1, by omega, by go_num, x, by go_num, by omega, Lib.hid (by
          rw [hX.out]
          rcases Nat.eq_zero_or_pos m with h0 | h0
          · subst h0; rw [Nat.zero_add, pos_first HB.out, HE.out]; simp
          · rw [pos_next h0 HB.out, HE.out]; simp)⟩
        case measure => simp [intOf]; omega
      · have HE := Lib.hid (bitN_1 h1)
        have u1 : ((t[m].toNat : Int) == 49) = true := by rw [h1]; rfl
        clear hbb
        rcases Nat.eq_zero_or_pos m with h0 | h0
        · subst h0
          go_wp2_with (go_at_call 68; refine hcall.mono ?_; rintro e w1 ⟨rfl, rfl⟩)
          go_round
          case rel => exact ⟨1, by omega, by go_num, x + -h, by go_num, by omega, Lib.hid (by
            rw [hX.out, pos_first HB.out, HE.out, HP.out]; simp)⟩
          case measure => simp [intOf]; omega
        · have u2 : ((m : Int) == 0) = false := beq_eq_false_iff_ne.2 (by omega)
          have u3 : m ≠ 0 := by omega
          go_wp2_with (go_at_call 68; refine hcall.mono ?_; rintro e w1 ⟨rfl, rfl⟩)
          go_round
          case rel => exact ⟨m + 1, by omega, by go_num, x + h, by go_num, by omega, Lib.hid (by
            rw [hX.out, pos_next h0 HB.out, HE.out, HP.out]; simp)⟩
          case measure => simp [intOf]; omega
    · obtain rfl : m = t.size := by omega
      go_wp2
      go_ret
      exact ⟨by have h4 := hX.out; rw [← HLN.out, pos_end] at h4; rw [← h4]; rfl, rfl⟩

set_option maxRecDepth 100000 in
theorem refNumber_any (t : ByteArray) (w : World) (ht : t.size ≤ maxLen) :
    Calls Tryd.prog 32 #[.string t] w fun e w' => NumRes (nnE t.data.toList) (nnL t.data.toList) e w w' := by
  have hlen : t.data.toList.length = t.size := by simp
  unfold maxLen at ht
  cases ho : ksF t.size with
  | none =>
    have HO := Lib.hid ho
    have HR := Lib.hid (nn_none (l := t.data.toList) (by rw [hlen]; exact ho))
    clear ho hlen
    go_enter Tryd.func32, Tryd.ntmps32
    go_wp2_with (go_at_call 67; refine (refkind_any t.size _).mono ?_; rintro e w1 ⟨rfl, rfl⟩; rw [HO.out, st_none])
    go_ret2
    exact ⟨0, 3, rfl, Below.refl _ _, HR.out.2.symm, HR.out.1.symm⟩
  | some k =>
    obtain ⟨hk, hs⟩ := ks_some ho
    have HS : Hid (t.size = wdN k) := Lib.hid (by omega)
    have HO := Lib.hid ho
    cases hb : bitsB t with
    | false =>
      have HB := Lib.hid hb
      have HR := Lib.hid (nn_out (l := t.data.toList) (k := k) (by rw [hlen]; exact ho) hb)
      clear hb ho hs hlen
      go_enter Tryd.func32, Tryd.ntmps32
      go_wp2_with (first
        | (go_at_call 67; refine (refkind_any t.size _).mono ?_; rintro e w1 ⟨rfl, rfl⟩; rw [HO.out, st_some])
        | (go_at_call 63; refine (refbits_any t _ (by have := HS.out; have := wd_bd k; omega)).mono ?_; rintro e w2 ⟨rfl, rfl⟩; rw [HB.out]))
      go_ret2
      exact ⟨0, 3, rfl, Below.refl _ _, HR.out.2.symm, HR.out.1.symm⟩
    | true =>
      have HB := Lib.hid hb
      have HR := Lib.hid (nn_ok (l := t.data.toList) (k := k) (by rw [hlen]; exact ho) hb)
      clear hb ho hs hlen
      go_enter Tryd.func32, Tryd.ntmps32
      go_wp2_with (first
        | (go_at_call 67; refine (refkind_any t.size _).mono ?_; rintro e w1 ⟨rfl, rfl⟩; rw [HO.out, st_some])
        | (go_at_call 63; refine (refbits_any t _ (by have := HS.out; have := wd_bd k; omega)).mono ?_; rintro e w2 ⟨rfl, rfl⟩; rw [HB.out])
        | (go_at_call 71; refine (refnumber_any t _ (by have := HS.out; have := wd_bd k; omega) (by have := HS.out; have := wd_bd k; omega) HB.out).mono ?_; rintro e w3 ⟨rfl, rfl⟩))
      go_ret2
      exact ⟨_, 0, rfl, Below.refl _ _, HR.out.2.symm, HR.out.1.symm⟩
end Go.Proofs.YtcmnjmhedmneiaaDoor
