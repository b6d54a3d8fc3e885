/-
  Contract: Quiet (wave).
-/
import Derived.Test.YtcmnjmhedmneiaaDoorQuietM
namespace Go.Proofs.YtcmnjmhedmneiaaDoor
open Go.RowKit Go.Shelf

set_option maxRecDepth 100000 in
set_option maxHeartbeats 1000000 in
theorem waveQuiet_any (s : List Int) (A : Option Addr) (c : Nat) (m : Int) (w : World) (h : Ints w A s) (hl : s.length ≤ maxLen) :
    Calls Tryd.prog 56 #[.slice A s.length c, .int .i64 m] w fun e w' => ListRes (qtE m s) (qtR m s) e w w' := by
  have H := Lib.hid h
  clear h
  cases hv : vwB s with
  | false =>
    have HV := Lib.hid hv
    clear hv
    go_enter Tryd.func56, Tryd.ntmps56
    go_wp2_with (go_at_call 24; refine (valid_any s _ _ _ H.out hl).mono ?_; rintro e w1 ⟨rfl, rfl⟩; rw [HV.out])
    go_ret2
    exact ⟨none, 0, [], 30, rfl, Out.nil_, Below.refl _ _, (qt_wave HV.out).2.symm, (qt_wave HV.out).1.symm⟩
  | true =>
    have HV := Lib.hid hv
    clear hv
    cases hm : smpB m with
    | false =>
      have HM := Lib.hid hm
      clear hm
      go_enter Tryd.func56, Tryd.ntmps56
      go_wp2_with (first
        | (go_at_call 24; refine (valid_any s _ _ _ H.out hl).mono ?_; rintro e w1 ⟨rfl, rfl⟩; rw [HV.out])
        | (go_at_call 61; refine (sample_any m _).mono ?_; rintro e w1 ⟨rfl, rfl⟩; rw [HM.out]))
      go_ret2
      exact ⟨none, 0, [], 2, rfl, Out.nil_, Below.refl _ _, (qt_arg HV.out HM.out).2.symm, (qt_arg HV.out HM.out).1.symm⟩
    | true =>
      have HM := Lib.hid hm
      have hmb : 0 ≤ m ∧ m ≤ 1023 := by simpa [smpB] using hm
      obtain ⟨hm0, hm1⟩ := hmb
      obtain ⟨⟨hn1, hn2⟩, hall⟩ := vw_parts HV.out
      have HA := Lib.hid hall
      obtain ⟨bl, off, e, hbk, hc⟩ := H.out.open_ (by omega)
      subst e
      have HC := Lib.hid hc
      obtain ⟨z0, hz0⟩ := getElem?_of_lt (show 0 < s.length by omega)
      have f0 := hc 0 z0 hz0
      rw [Nat.add_zero] at f0
      have hz0b := hall z0 (List.mem_of_getElem? hz0)
      have HZ0 : Hid (s.headD 0 = z0) := Lib.hid (by cases s <;> simp_all)
      obtain ⟨i0, hi0, hi1, hi2, hi3⟩ := info_parts int_info
      have HI3 := Lib.hid hi3
      have hpos : (0 : Int) < (s.length : Int) := by omega
      clear hm hc hi3 hall hz0
      go_enter Tryd.func56, Tryd.ntmps56
      go_wp2_with (first
        | (go_at_call 24; refine (valid_any s _ _ _ H.out hl).mono ?_; rintro e w1 ⟨rfl, rfl⟩; rw [HV.out])
        | (go_at_call 61; refine (sample_any m _).mono ?_; rintro e w1 ⟨rfl, rfl⟩; rw [HM.out])
        | (at_make; refine wpList_make_own _ rfl _ _ 22 rfl w.heap.size 3 i0 (.int .i64 0) 1 Tryd.underlying22 hi0 hi1 hi2 .i64 .i64 s.length s.length rfl rfl rfl (by rw [HI3.out]; omega) (by unfold maxLen; omega) (Nat.le_refl _) ?_; intro w4 hown4 hg4; have hB4 : Below w.heap.size w w4 := (Below.refl _ _).grown hg4 (Nat.le_refl _) (by simp); have g0 := (hB4.cell (p := ⟨bl, off, none⟩) hbk).trans f0))
      have HO4 := Lib.hid hown4
      clear hown4 hg4 hi0 hi1 hi2 HI3 f0 g0
      go_loopw [6, 7, 9, 24] (fun v a _ i wr => ∃ k : Nat, k ≤ s.length ∧ i = .int .i64 k ∧ ∃ (xs : List Int) (l : Int), a = .int .i64 l ∧ (0 ≤ l ∧ l ≤ 1023) ∧ wr.ownsRow w.heap.size 3 1 v k (xs.map (Value.int .i64)) ∧ Below w.heap.size w wr ∧ Hid (xs = qtG m z0 (s.take k) ∧ l = lastG z0 (qtG m z0 (s.take k)))) (fun _ _ _ i _ => s.length - (intOf i).toNat)
      case atStart => exact ⟨0, Nat.zero_le _, rfl, [], z0, rfl, hz0b, HO4.out, hB4, rfl, rfl⟩
      case round =>
        clear hB4
        obtain ⟨k, hk, rfl, xs, l, rfl, hl2, hown, hB, hX⟩ := hrel
        obtain ⟨hl0, hl1⟩ := hl2
        by_cases hlt : k < s.length
        · obtain ⟨z, hz⟩ := getElem?_of_lt hlt
          have f0 := (hB.cell (p := ⟨bl, off + k, none⟩) hbk).trans (HC.out _ _ hz)
          have hzb := HA.out z (List.mem_of_getElem? hz)
          obtain ⟨hzb0, hzb1⟩ := hzb
          have HNX : Hid (xs ++ [qtS m l z] = qtG m z0 (s.take (k + 1)) ∧ qtS m l z = lastG z0 (qtG m z0 (s.take (k + 1)))) := by
            rw [take_snoc hz, qtG_last, qtG_snoc, ← hX.out.2, hX.out.1]
            exact ⟨rfl, rfl⟩
          have hsz := hB.size
          have i1 : IntKind.i64.wrap (z - l) = z - l := IntWalk.i64_in _ (by omega)
          have i2 : IntKind.i64.wrap (l - z) = l - z := IntWalk.i64_in _ (by omega)
          cases hf : farB m l z with
          | true =>
            have HF := Lib.hid (qtS_far hf)
            have u1 : decide (m < max (z - l) (l - z)) = true := by simp only [farB, decide_eq_true_eq] at hf ⊢; omega
            clear hz hX hf
            go_wp2_with (at_builtin; refine wp_app_int _ rfl (.tmp 38) (.tmp 40) rfl w.heap.size _ k xs _ rfl hown rfl (by omega) hsz ?_; intro v2 w2 hown2 hB2)
            go_roundw
            case rel => exact ⟨k + 1, by omega, by go_num, _, z, rfl, ⟨hzb0, hzb1⟩, hown2, hB.trans hB2, by rw [← HF.out]; rw [HF.out]; have := HNX.out; rwa [HF.out] at this⟩
            case measure => simp [intOf]; omega
          | false =>
            have HF := Lib.hid (qtS_near hf)
            have u1 : decide (m < max (z - l) (l - z)) = false := by simp only [farB, decide_eq_false_iff_not] at hf ⊢; omega
            clear hz hX hf
            go_wp2_with (at_builtin; refine wp_app_int _ rfl (.tmp 38) (.tmp 40) rfl w.heap.size _ k xs _ rfl hown rfl (by omega) hsz ?_; intro v2 w2 hown2 hB2)
            go_roundw
            case rel => exact ⟨k + 1, by omega, by go_num, _, l, rfl, ⟨hl0, hl1⟩, hown2, hB.trans hB2, by have := HNX.out; rwa [HF.out] at this⟩
            case measure => simp [intOf]; omega
        · obtain rfl : k = s.length := by omega
          go_wp2
          go_ret2
          obtain ⟨A', c', rfl, hO⟩ := own_ints hown
          exact ⟨A', c', xs, 0, rfl, hO, hB, by have h1 := hX.out.1; rw [List.take_length] at h1; rw [(qt_ok HV.out HM.out).2, qtL, HZ0.out]; exact h1, (qt_ok HV.out HM.out).1.symm⟩
end Go.Proofs.YtcmnjmhedmneiaaDoor
