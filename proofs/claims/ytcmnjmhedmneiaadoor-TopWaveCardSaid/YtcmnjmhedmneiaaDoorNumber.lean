/-
  Contracts: Word, number, Number (wave).
-/
import Derived.Test.YtcmnjmhedmneiaaDoorNumM
namespace Go.Proofs.YtcmnjmhedmneiaaDoor
open Go.RowKit Go.Shelf

theorem st_some (k : Nat) : stV (some k) = .tuple #[.int .i64 k, .bool true] := rfl
theorem st_none : stV none = .tuple #[.int .i64 0, .bool false] := rfl
theorem inWord_at (k : Nat) (n : Int) (w : World) :
    Calls Tryd.prog 65 #[.int .i64 (wdN k), .int .i64 n] w fun e w' => e = .returned (.bool (inwB (wdN k) n)) ∧ w = w' :=
  inWord_any (wh_at k) n w

set_option maxRecDepth 100000 in
theorem waveWord_any (wi n : Int) (w : World) (hW : Wids w) :
    Calls Tryd.prog 29 #[.int .i64 wi, .int .i64 n] w fun e w' => TextRes (wwE wi n) (wwL wi n) e w w' := by
  have HW := Lib.hid hW
  clear hW
  cases ho : ksF wi with
  | none =>
    have HO := Lib.hid ho
    clear ho
    go_enter Tryd.func29, Tryd.ntmps29
    go_wp2_with (go_at_call 64; refine (stepOf_any wi _ HW.out).mono ?_; rintro e w1 ⟨rfl, hB1⟩; rw [HO.out, st_none])
    go_ret2
    exact ⟨⟨#[]⟩, 2, rfl, hB1, by rw [(ww_none HO.out).2], (ww_none HO.out).1.symm⟩
  | some k =>
    obtain ⟨hk, rfl⟩ := ks_some ho
    have HO := Lib.hid ho
    clear ho
    cases hb : inwB (wdN k) n with
    | false =>
      have HB := Lib.hid hb
      clear hb
      go_enter Tryd.func29, Tryd.ntmps29
      go_wp2_with (first
        | (go_at_call 64; refine (stepOf_any (wdN k) _ HW.out).mono ?_; rintro e w1 ⟨rfl, hB1⟩; rw [HO.out, st_some])
        | (go_at_call 65; refine (inWord_at k n _).mono ?_; rintro e w2 ⟨rfl, rfl⟩; rw [HB.out]))
      go_ret2
      exact ⟨⟨#[]⟩, 2, rfl, hB1, by rw [(ww_out HO.out HB.out).2], (ww_out HO.out HB.out).1.symm⟩
    | true =>
      have HB := Lib.hid hb
      clear hb
      go_enter Tryd.func29, Tryd.ntmps29
      go_wp2_with (first
        | (go_at_call 64; refine (stepOf_any (wdN k) _ HW.out).mono ?_; rintro e w1 ⟨rfl, hB1⟩; rw [HO.out, st_some])
        | (go_at_call 65; refine (inWord_at k n _).mono ?_; rintro e w2 ⟨rfl, rfl⟩; rw [HB.out])
        | (go_at_call 66; refine (word_some k n _).mono ?_; rintro e w3 ⟨q, rfl, hq, hB3, hQ⟩))
      go_ret2
      exact ⟨q, 0, rfl, below_step hB1 hB3, by rw [(ww_ok HO.out HB.out).2]; exact hQ.out, (ww_ok HO.out HB.out).1.symm⟩

theorem bit_two {b : UInt8} (h : bitB b = true) : b.toNat = 48 ∨ b.toNat = 49 := by
  simp only [bitB, Bool.or_eq_true, beq_iff_eq] at h
  rcases h with rfl | rfl
  · exact .inl rfl
  · exact .inr rfl
theorem bitN_0 {b : UInt8} (h : b.toNat = 48) : bitN b = 0 := by
  unfold bitN; rw [if_neg]; rintro rfl; simp at h
theorem bitN_1 {b : UInt8} (h : b.toNat = 49) : bitN b = 1 := by
  unfold bitN; rw [if_pos]; exact UInt8.toNat_inj.1 (by rw [h]; rfl)
theorem head_0 {l : List UInt8} {b : UInt8} (hl : l[0]? = some b) (h : b.toNat = 48) : headB l = false := by
  cases l with
  | nil => cases hl
  | cons c u =>
    simp at hl
    subst hl
    unfold headB
    simp
    rintro rfl
    simp at h
theorem head_1 {l : List UInt8} {b : UInt8} (hl : l[0]? = some b) (h : b.toNat = 49) : headB l = true := by
  cases l with
  | nil => cases hl
  | cons c u =>
    simp at hl
    subst hl
    unfold headB
    simp
    exact UInt8.toNat_inj.1 (by rw [h]; rfl)

set_option maxRecDepth 100000 in
set_option maxHeartbeats 1000000 in
theorem wnumber_any (k : Nat) (hk : k < 5) (t : ByteArray) (w : World) (hs : t.size = wdN k) (hb : bitsB t = true) :
    Calls Tryd.prog 70 #[.string t] w fun e w' => e = .returned (.int .i64 (numL t.data.toList)) ∧ w = w' := by
  have hw := wd_bd k
  rw [← hs] at hw
  obtain ⟨hs1, hs11⟩ := hw
  have HS := Lib.hid hs
  have HBB : Hid (∀ b ∈ t.data.toList, bitB b = true) := by rw [bitsB, List.all_eq_true] at hb; exact hb
  have HLN : Hid (t.data.toList.length = t.size) := Lib.hid (by simp)
  clear hs hb
  go_enter Tryd.func70, Tryd.ntmps70
  go_wp2
  go_loop [3, 4, 7] (fun a _ i => ∃ m : Nat, m ≤ t.size ∧ i = .int .i64 m ∧ ∃ x : Int, a = .int .i64 x ∧ (0 ≤ x ∧ x ≤ 2047) ∧ Hid (x = upA (t.data.toList.take m))) (fun _ _ i => t.size - (intOf i).toNat)
  case atStart => exact ⟨0, Nat.zero_le _, rfl, 0, rfl, by omega, rfl⟩
  case round =>
    obtain ⟨m, hm, rfl, x, rfl, hx, hX⟩ := hrel
    obtain ⟨hx0, hx1⟩ := hx
    by_cases hlt : m < t.size
    · have HB := Lib.hid (byte_at hlt)
      have HBD := Lib.hid (up_small (l := t.data.toList.take (m + 1)) (by rw [List.length_take]; omega))
      have HNX := Lib.hid (up_next HB.out)
      have hbb := HBB.out _ (List.mem_of_getElem? HB.out)
      rcases bit_two hbb with h1 | h1
      · have HE := Lib.hid (bitN_0 h1)
        clear hbb
        go_wp2
        go_round
        case rel => exact ⟨m + 1, by omega, by go_num, 2 * x, by go_num, by have h4 := HBD.out; rw [HNX.out, HE.out, ← hX.out] at h4; omega, Lib.hid (by rw [HNX.out, HE.out, ← hX.out]; omega)⟩
        case measure => simp [intOf]; omega
      · have HE := Lib.hid (bitN_1 h1)
        clear hbb
        go_wp2
        go_round
        case rel => exact ⟨m + 1, by omega, by go_num, 2 * x + 1, by go_num, by have h4 := HBD.out; rw [HNX.out, HE.out, ← hX.out] at h4; omega, Lib.hid (by rw [HNX.out, HE.out, ← hX.out])⟩
        case measure => simp [intOf]; omega
    · obtain rfl : m = t.size := by omega
      have HX : Hid (x = upA t.data.toList) := by have := hX.out; rwa [List.take_of_length_le (by rw [HLN.out]; exact Nat.le_refl _)] at this
      have hpos : 0 < t.size := by omega
      have HB := Lib.hid (byte_at hpos)
      have hbb := HBB.out _ (List.mem_of_getElem? HB.out)
      clear hX
      rcases bit_two hbb with h1 | h1
      · have HE := Lib.hid (head_0 HB.out h1)
        have u1 : ((t[0].toNat : Int) == 49) = false := by rw [h1]; rfl
        clear hbb
        go_wp2
        go_ret
        exact ⟨by rw [numL, HE.out, HX.out]; rfl, rfl⟩
      · have HE := Lib.hid (head_1 HB.out h1)
        have u1 : ((t[0].toNat : Int) == 49) = true := by rw [h1]; rfl
        clear hbb
        have hs := HS.out
        rcases (show k = 0 ∨ k = 1 ∨ k = 2 ∨ k = 3 ∨ k = 4 by omega) with rfl | rfl | rfl | rfl | rfl
        all_goals
          unfold wdN at hs
          go_wp2
          go_ret
          exact ⟨by rw [numL, HE.out, if_pos rfl, HLN.out, hs, ← HX.out]; rfl, rfl⟩

set_option maxRecDepth 100000 in
theorem waveNumber_any (t : ByteArray) (w : World) (hW : Wids w) (ht : t.size ≤ maxLen) :
    Calls Tryd.prog 31 #[.string t] w fun e w' => NumRes (nnE t.data.toList) (nnL t.data.toList) e w w' := by
  have HW := Lib.hid hW
  have hlen : t.data.toList.length = t.size := by simp
  unfold maxLen at ht
  clear hW
  cases ho : ksF t.size with
  | none =>
    have HO := Lib.hid ho
    have HR := Lib.hid (nn_none (l := t.data.toList) (by rw [hlen]; exact ho))
    clear ho hlen
    go_enter Tryd.func31, Tryd.ntmps31
    go_wp2_with (go_at_call 64; refine (stepOf_any t.size _ HW.out).mono ?_; rintro e w1 ⟨rfl, hB1⟩; rw [HO.out, st_none])
    go_ret2
    exact ⟨0, 3, rfl, hB1, HR.out.2.symm, HR.out.1.symm⟩
  | some k =>
    obtain ⟨hk, hs⟩ := ks_some ho
    have HS : Hid (t.size = wdN k) := Lib.hid (by omega)
    have HO := Lib.hid ho
    cases hb : bitsB t with
    | false =>
      have HB := Lib.hid hb
      have HR := Lib.hid (nn_out (l := t.data.toList) (k := k) (by rw [hlen]; exact ho) hb)
      clear hb ho hs hlen
      go_enter Tryd.func31, Tryd.ntmps31
      go_wp2_with (first
        | (go_at_call 64; refine (stepOf_any t.size _ HW.out).mono ?_; rintro e w1 ⟨rfl, hB1⟩; rw [HO.out, st_some])
        | (go_at_call 62; refine (wavebits_any t _ (by have := HS.out; have := wd_bd k; omega)).mono ?_; rintro e w2 ⟨rfl, rfl⟩; rw [HB.out]))
      go_ret2
      exact ⟨0, 3, rfl, hB1, HR.out.2.symm, HR.out.1.symm⟩
    | true =>
      have HB := Lib.hid hb
      have HR := Lib.hid (nn_ok (l := t.data.toList) (k := k) (by rw [hlen]; exact ho) hb)
      clear hb ho hs hlen
      go_enter Tryd.func31, Tryd.ntmps31
      go_wp2_with (first
        | (go_at_call 64; refine (stepOf_any t.size _ HW.out).mono ?_; rintro e w1 ⟨rfl, hB1⟩; rw [HO.out, st_some])
        | (go_at_call 62; refine (wavebits_any t _ (by have := HS.out; have := wd_bd k; omega)).mono ?_; rintro e w2 ⟨rfl, rfl⟩; rw [HB.out])
        | (go_at_call 70; refine (wnumber_any k hk t _ HS.out HB.out).mono ?_; rintro e w3 ⟨rfl, rfl⟩))
      go_ret2
      exact ⟨_, 0, rfl, hB1, HR.out.2.symm, HR.out.1.symm⟩
end Go.Proofs.YtcmnjmhedmneiaaDoor
