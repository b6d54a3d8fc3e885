/-
  Contract: cutOf (weigh).
-/
import Derived.Test.YtolpbbabmcpdkaaRefGain
set_option linter.unusedVariables false
set_option linter.unusedSimpArgs false
namespace Go.Proofs.Ytolpbbabmcpdkaa
open Go.RowKit Go.Shelf

theorem ofM_more {p : Nat → Bool} {k : Nat} : ∀ m, k ≤ m → (∀ i, k ≤ i → p i = false) → ofM m p = ofM k p
  | 0, hk, _ => by rw [show k = 0 by omega]
  | m + 1, hk, h => by
    by_cases e : k = m + 1
    · rw [e]
    · rw [ofM_succ, h m (by omega), ofM_more m (by omega) h]; simp
theorem of_end {s n k : Nat} (hs : s < 2 ^ n) (hk : s < 2 ^ k) : ofM k s.testBit = ofS n s := by
  unfold ofS
  rcases Nat.le_total k n with h | h
  · exact (ofM_more n h fun i hi => Nat.testBit_lt_two_pow (Nat.lt_of_lt_of_le hk (Nat.pow_le_pow_right (by omega) hi))).symm
  · exact ofM_more k h fun i hi => Nat.testBit_lt_two_pow (Nat.lt_of_lt_of_le hs (Nat.pow_le_pow_right (by omega) hi))
set_option maxRecDepth 100000 in
set_option maxHeartbeats 1000000 in
theorem cutOf_any (s n : Nat) (w : World) (hn : n ≤ 40) (hs : s < 2 ^ n) :
    Calls Try.prog 78 #[.int .i64 s] w fun e w' => ∃ A' c', e = .returned (.slice A' (ofS n s).length c') ∧ Out w' A' c' (ofS n s) ∧ Below w.heap.size w w' := by
  have HS := Lib.hid hs
  have hs63 : s < 2 ^ 63 := Nat.lt_of_lt_of_le hs (Nat.pow_le_pow_right (by omega) (by omega))
  have HS63 := Lib.hid hs63
  clear hs hs63
  go_enter Try.func78, Try.ntmps78
  go_wp2
  go_loopw [3, 4] (fun v i wr => ∃ k : Nat, k ≤ n ∧ i = .int .i64 k ∧ (∃ ys : List Int, wr.ownsRow w.heap.size 3 1 v ys.length (ys.map (Value.int .i64)) ∧ ys.length ≤ k ∧ Hid (ys = ofM k s.testBit)) ∧ Below w.heap.size w wr) (fun _ i _ => n + 1 - (intOf i).toNat)
  case atStart => exact ⟨0, Nat.zero_le _, rfl, ⟨[], World.ownsRow_nil _ _ _ _, Nat.le_refl _, rfl⟩, Below.refl _ _⟩
  case round =>
    obtain ⟨k, hk, rfl, ⟨ys, hown, hyk, hys⟩, hB⟩ := hrel
    have hz := hB.size
    by_cases hlt : s < 2 ^ k
    · have hq : (s : Int) / 2 ^ k = 0 := by
        rw [show (2 : Int) ^ k = ((2 ^ k : Nat) : Int) by simp]
        exact Int.ediv_eq_zero_of_lt (by omega) (by omega)
      have HE : Hid (ys = ofS n s) := Lib.hid (by rw [hys.out, of_end HS.out hlt])
      obtain ⟨A', c', rfl, hI⟩ := own_ints hown
      have HI := Lib.hid hI
      clear hown hI hys hlt
      have hyl : (ofS n s).length = ys.length := by rw [HE.out]
      have HYL := Lib.hid hyl
      clear hyl
      go_wp2
      go_ret
      refine ⟨A', c', ?_, ?_, hB⟩
      · rw [HYL.out]; rfl
      · rw [← HE.out]; exact HI.out
    · have hkn : k < n := Nat.lt_of_not_le fun h => hlt (Nat.lt_of_lt_of_le HS.out (Nat.pow_le_pow_right (by omega) h))
      have hq : 0 < (s : Int) / 2 ^ k := by
        rw [show (2 : Int) ^ k = ((2 ^ k : Nat) : Int) by simp]
        have : 0 < s / 2 ^ k := Nat.div_pos (by omega) (Nat.pow_pos (by omega))
        omega
      have hqd : decide (0 < (s : Int) / 2 ^ k) = true := decide_eq_true hq
      have hb := shr_bit s k HS63.out
      have HFT := Lib.hid (ofM_succ k s.testBit)
      clear hlt hq
      cases hin : s.testBit k with
      | false =>
        have HI := Lib.hid hin
        rw [hin] at hb
        clear hin
        simp only [Bool.false_eq_true, if_false] at hb
        go_wp2
        go_roundw
        case rel => exact ⟨k + 1, by omega, by go_num, ⟨ys, hown, by omega, (by rw [HFT.out, HI.out, hys.out]; simp : ys = _)⟩, hB⟩
        case measure => simp [intOf]; omega
      | true =>
        have HI := Lib.hid hin
        rw [hin] at hb
        clear hin
        simp only [if_true] at hb
        go_wp2_with (at_builtin; refine wp_app_int wr rfl (.tmp 16) (.tmp 18) rfl w.heap.size _ ys.length ys _ rfl hown rfl (by omega) hz ?_; intro v2 w2 hown2 hB2)
        go_roundw
        case rel => exact ⟨k + 1, by omega, by go_num, ⟨ys ++ [(k : Int)], by rw [List.length_append]; exact hown2, by simp; omega, (by rw [HFT.out, HI.out, hys.out]; rfl : ys ++ [(k : Int)] = _)⟩, hB.trans hB2⟩
        case measure => simp [intOf]; omega
end Go.Proofs.Ytolpbbabmcpdkaa
