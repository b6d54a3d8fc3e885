/-
  The walk of WaveQuiets: it returns true, whatever it is given.
-/
import Derived.Test.YtcmnjmhedmneiaaDoorQuiet
import Derived.Test.YtcmnjmhedmneiaaDoorBits
namespace Go.Proofs.YtcmnjmhedmneiaaDoor
open Go.RowKit Go.Shelf

/-- The sample at k + 1 is the given one, or the one in front of it, which is near. -/
theorem qtL_at {m : Int} {s : List Int} {k : Nat} {y z : Int} (h : s[k]? = some z) (h2 : (qtL m s)[k]? = some y) (hne : y ≠ z) :
    ∃ j, k = j + 1 ∧ (qtL m s)[j]? = some y ∧ y - z ≤ m ∧ z - y ≤ m := by
  cases k with
  | zero => exact absurd (qtL_first h h2) hne
  | succ j =>
    have hl : j < (qtL m s).length := by
      rw [qtL_len]
      rcases Nat.lt_or_ge (j + 1) s.length with h3 | h3
      · omega
      · rw [List.getElem?_eq_none h3] at h; cases h
    obtain ⟨x, hx⟩ := getElem?_of_lt hl
    have e := qtG_step m _ s j x y z h hx h2
    cases hf : farB m x z with
    | true => rw [qtS_far hf] at e; exact absurd e hne
    | false =>
      rw [qtS_near hf] at e
      subst e
      simp only [farB, decide_eq_false_iff_not] at hf
      exact ⟨j, rfl, hx, by omega, by omega⟩
theorem smp_zero : smpB 0 = true := rfl
theorem qt_first_eq {m : Int} {s : List Int} {z : Int} (h : s[0]? = some z) : (qtL m s)[0]? = some z := by
  have hl : 0 < (qtL m s).length := by
    rw [qtL_len]
    rcases Nat.lt_or_ge 0 s.length with h3 | h3
    · omega
    · rw [List.getElem?_eq_none h3] at h; cases h
  obtain ⟨y, hy⟩ := getElem?_of_lt hl
  rw [hy, qtL_first h hy]

set_option maxRecDepth 100000 in
set_option maxHeartbeats 2000000 in
theorem waveQuiets_walk (s : List Int) (A : Option Addr) (c : Nat) (m : Int) (w : World) (hW : Wids w) (hs : Ints w A s) (hc : s.length ≤ c) (hc0 : c ≤ maxLen) (_hsw : I64s s) (_hm : (Lit.int .i64 m).wf = true) :
    Calls Tryd.prog 15 #[.slice A s.length c, .int .i64 m] w fun e w' => e = .returned (.bool true) ∧ Below w.heap.size w w' := by
  have H := Lib.hid hs
  have HW := Lib.hid hW
  have hsl : s.length ≤ maxLen := Nat.le_trans hc hc0
  clear hs hc hc0 _hsw hW _hm
  by_cases h1 : 200 < s.length
  · have t1 : decide (200 < s.length) = true := decide_eq_true h1
    go_enter Tryd.func15, Tryd.ntmps15
    go_wp2_with (first
      | (go_at_call 17; refine (many_any _ _ _ _).mono ?_; rintro e w' ⟨rfl, rfl⟩)
      | (go_at_call 19; refine (awake_any _ HW.out).mono ?_; rintro e w' ⟨rfl, hB⟩))
    go_ret
    exact ⟨rfl, hB⟩
  have t1 : decide (200 < s.length) = false := decide_eq_false h1
  clear h1
  cases hv : vwB s with
  | false =>
    have HV := Lib.hid hv
    clear hv
    go_enter Tryd.func15, Tryd.ntmps15
    go_wp2_with (first
      | (go_at_call 17; refine (many_any s _ _ _).mono ?_; rintro e w' ⟨rfl, rfl⟩)
      | (go_at_call 56; refine (waveQuiet_any s _ _ _ _ H.out hsl).mono ?_; rintro e w1 ⟨A1, c1, zs, E, rfl, hO1, hB1, hF1⟩; obtain rfl := hF1.out.1.trans (qt_wave HV.out).2; obtain rfl := hF1.out.2.trans (qt_wave HV.out).1)
      | (go_at_call 25; refine (refValid_any s _ _ _ (H.out.below hB1) hsl).mono ?_; rintro e w5 ⟨rfl, rfl⟩; rw [HV.out])
      | (go_at_call 19; refine (awake_any _ (HW.out.below hB1)).mono ?_; rintro e w8 ⟨rfl, hB8⟩))
    go_ret
    exact ⟨rfl, below_step hB1 hB8⟩
  | true =>
    have HV := Lib.hid hv
    cases hm : smpB m with
    | false =>
      have HM := Lib.hid hm
      clear hv hm
      go_enter Tryd.func15, Tryd.ntmps15
      go_wp2_with (first
        | (go_at_call 17; refine (many_any s _ _ _).mono ?_; rintro e w' ⟨rfl, rfl⟩)
        | (go_at_call 56; refine (waveQuiet_any s _ _ _ _ H.out hsl).mono ?_; rintro e w1 ⟨A1, c1, zs, E, rfl, hO1, hB1, hF1⟩; obtain rfl := hF1.out.1.trans (qt_arg HV.out HM.out).2; obtain rfl := hF1.out.2.trans (qt_arg HV.out HM.out).1)
        | (go_at_call 25; refine (refValid_any s _ _ _ (H.out.below hB1) hsl).mono ?_; rintro e w5 ⟨rfl, rfl⟩; rw [HV.out])
        | (go_at_call 19; refine (awake_any _ (HW.out.below hB1)).mono ?_; rintro e w8 ⟨rfl, hB8⟩))
      go_ret
      exact ⟨rfl, below_step hB1 hB8⟩
    | true =>
      have HM := Lib.hid hm
      have hmb : 0 ≤ m ∧ m ≤ 1023 := by simpa [smpB] using hm
      obtain ⟨hm0, hm1⟩ := hmb
      obtain ⟨⟨hn1, hn2⟩, hall⟩ := vw_parts HV.out
      have HA := Lib.hid hall
      have HAQ := Lib.hid (vw_parts (qtL_valid (m := m) HV.out)).2
      obtain ⟨bl, off, e, hbk, hcs⟩ := H.out.open_ (by omega)
      subst e
      have HC := Lib.hid hcs
      obtain ⟨z0, hz0⟩ := getElem?_of_lt (show 0 < s.length by omega)
      have HQ0 := Lib.hid (qt_first_eq (m := m) hz0)
      have HZ0 := Lib.hid hz0
      have TA : Hid True := Lib.hid trivial
      have TB : Hid True := Lib.hid trivial
      have TC : Hid True := Lib.hid trivial
      clear hcs hv hm hall hz0
      go_enter Tryd.func15, Tryd.ntmps15
      go_wp2_with (first
        | (go_at_call 17; refine (many_any s _ _ _).mono ?_; rintro e w' ⟨rfl, rfl⟩)
        | (go_at_call 56; clear TA; refine (waveQuiet_any s _ _ m _ H.out hsl).mono ?_; rintro e w1 ⟨A1, c1, zs, E, rfl, hO1, hB1, hF1⟩; obtain rfl := hF1.out.2.trans (qt_ok HV.out HM.out).1; have HZS := Lib.hid (hF1.out.1.trans (qt_ok HV.out HM.out).2); have HZL := Lib.hid (show zs.length = s.length by rw [HZS.out, qtL_len]); clear hF1)
        | (go_at_call 56; clear TB; refine (waveQuiet_any zs _ _ m _ hO1.ints (Nat.le_trans hO1.le hO1.cap)).mono ?_; rintro e w2 ⟨A2, c2, us, E2, rfl, hO2, hB2, hF2⟩; have hvz := qtL_valid (m := m) HV.out; obtain rfl := hF2.out.2.trans (qt_ok (by rw [HZS.out]; exact hvz) HM.out).1; have HUS := Lib.hid ((hF2.out.1.trans (qt_ok (by rw [HZS.out]; exact hvz) HM.out).2).trans ((by rw [HZS.out]; exact qtL_again m s) : qtL m zs = qtL m s)); have hW2 := below_step hB1 hB2; clear hF2 hvz)
        | (go_at_call 56; clear TC; refine (waveQuiet_any s _ _ 0 _ (H.out.below hW2) hsl).mono ?_; rintro e w3 ⟨A3, c3, ks, E3, rfl, hO3, hB3, hF3⟩; obtain rfl := hF3.out.2.trans (qt_ok HV.out smp_zero).1; have HKS := Lib.hid ((hF3.out.1.trans (qt_ok HV.out smp_zero).2).trans (qtL_zero s)); have hW3 := below_step hW2 hB3; clear hF3))
      have hW23 := below_step hB2 hB3
      obtain ⟨b1, o1, e, hb1, hc1⟩ := hO1.ints.open_ (by rw [HZL.out]; omega)
      subst e
      have hb3 : b1 < w3.heap.size := Nat.lt_of_lt_of_le hb1 hW23.size
      have HSS : ∀ n, Calls Tryd.prog 28 #[.slice A2 us.length c2, .slice (some ⟨b1, o1, none⟩) zs.length c1] (w3.drewN n) fun e w' => e = .returned (.bool true) ∧ ∃ m, w' = (w3.drewN n).drewN m := fun n => by
        have e : us = zs := HUS.out.trans HZS.out.symm
        subst e
        exact (sameInts_any us us _ _ _ _ (w3.drewN n) (hO2.ints.below (below_drewN hB3 n)) (hO1.ints.below (below_drewN hW23 n)) (Nat.le_trans hO2.le hO2.cap)).mono fun e w' ⟨he, hw⟩ => ⟨by rw [he]; simp, hw⟩
      have HSK : ∀ n, Calls Tryd.prog 28 #[.slice A3 ks.length c3, .slice (some ⟨bl, off, none⟩) s.length c] (w3.drewN n) fun e w' => e = .returned (.bool true) ∧ ∃ m, w' = (w3.drewN n).drewN m := fun n => by
        have e : s = ks := HKS.out.symm
        subst e
        exact (sameInts_any s s _ _ _ _ (w3.drewN n) hO3.ints (H.out.below (below_drewN hW3 n)) hsl).mono fun e w' ⟨he, hw⟩ => ⟨by rw [he]; simp, hw⟩
      have HS1 := Lib.hid HSS
      have HS2 := Lib.hid HSK
      have HC1 := Lib.hid (fun (k : Nat) (z : Int) (hz : zs[k]? = some z) => (hW23.cell (p := ⟨b1, o1 + k, none⟩) hb1).trans (hc1 k z hz))
      have HC0 := Lib.hid (fun (k : Nat) (z : Int) (hz : s[k]? = some z) => (hW3.cell (p := ⟨bl, off + k, none⟩) hbk).trans (HC.out k z hz))
      have f0 := HC0.out 0 z0 HZ0.out
      have f1 := HC1.out 0 z0 (by rw [HZS.out]; exact HQ0.out)
      rw [Nat.add_zero] at f0 f1
      have u1 : ((zs.length : Int) != (s.length : Int)) = false := by rw [HZL.out]; simp
      have u2 : ((s.length : Int) == 0) = false := beq_eq_false_iff_ne.2 (by omega)
      have u3 : (0 : Int) < (s.length : Int) := by omega
      have u4 : (0 : Int) < (zs.length : Int) := by rw [HZL.out]; omega
      have HWW := Lib.hid hW3
      clear hB1 hB2 hB3 hW2 hW3 hW23 hO1 hO2 hO3 hc1 HSS HSK HUS HKS HC
      go_quiet ((first
        | (go_at_call 28; with_reducible exact Calls.quiet_of (v := .bool true) (HS1.out _))
        | (go_at_call 28; with_reducible exact Calls.quiet_of (v := .bool true) (HS2.out _))))
      clear f0 f1 u1 u2
      go_wp2
      go_loopw [11, 12, 91] (fun _ _ i wr => ∃ k n : Nat, k ≤ zs.length ∧ i = .int .i64 k ∧ wr = w3.drewN n) (fun _ _ i _ => zs.length - (intOf i).toNat)
      case atStart => exact ⟨0, _, Nat.zero_le _, rfl, (by first | rfl | exact World.drewN_drewN _ _ _)⟩
      case round =>
        obtain ⟨k, n, hk, rfl, rfl⟩ := hrel
        by_cases hlt : k < zs.length
        · have hls : k < s.length := by rw [← HZL.out]; exact hlt
          obtain ⟨y, hy⟩ := getElem?_of_lt hlt
          obtain ⟨z, hz⟩ := getElem?_of_lt hls
          have g0 := HC0.out k z hz
          have g1 := HC1.out k y hy
          by_cases hyz : y = z
          · subst hyz
            clear hy hz
            go_wp2
            go_quiet (fail)
            go_wp2
            go_roundw
            case rel => exact ⟨k + 1, _, by omega, by go_num, (by first | rfl | exact World.drewN_drewN _ _ _)⟩
            case measure => simp [intOf]; omega
          · have hzb := HA.out z (List.mem_of_getElem? hz)
            have hyb := HAQ.out y (List.mem_of_getElem? (by rw [← HZS.out]; exact hy))
            obtain ⟨j, hj, hj2, hj3, hj4⟩ := qtL_at hz (by rw [← HZS.out]; exact hy) hyz
            have hk1 : 1 ≤ k := by omega
            obtain rfl : j = k - 1 := by omega
            clear hj
            have g2 := HC1.out (k - 1) y (by rw [HZS.out]; exact hj2)
            obtain ⟨hzb0, hzb1⟩ := hzb
            obtain ⟨hyb0, hyb1⟩ := hyb
            have v1 : (y == z) = false := by simpa using hyz
            have v2 : (y != z) = true := by simpa using hyz
            have v3 : ((k : Int) == 0) = false := beq_eq_false_iff_ne.2 (by omega)
            have v4 : IntKind.i64.wrap ((k : Int) - 1) = (k : Int) - 1 := IntWalk.i64_in _ (by omega)
            have v5 : IntKind.i64.wrap (y - z) = y - z := IntWalk.i64_in _ (by omega)
            have v6 : IntKind.i64.wrap (z - y) = z - y := IntWalk.i64_in _ (by omega)
            have v7 : decide (m < max (y - z) (z - y)) = false := decide_eq_false (by omega)
            have v8 : (k : Int) - 1 < (zs.length : Int) := by omega
            have v9 : (0 : Int) ≤ (k : Int) - 1 := by omega
            have va : ((k : Int) - 1).toNat = k - 1 := by omega
            have vb : (1 : Int) ≤ (k : Int) := by omega
            have vc : (k : Int) ≤ (zs.length : Int) := by omega
            have vd : (k : Int) < (zs.length : Int) + 1 := by omega
            have ve : k ≠ 0 := by omega
            clear hy hz hyz hj2
            go_wp2
            go_quiet (fail)
            go_wp2
            go_roundw
            case rel => exact ⟨k + 1, _, by omega, by go_num, (by first | rfl | exact World.drewN_drewN _ _ _)⟩
            case measure => simp [intOf]; omega
        · obtain rfl : k = zs.length := by omega
          go_wp2_with (go_at_call 19; refine (awake_any _ (HW.out.below (below_drewN HWW.out _))).mono ?_; rintro e w8 ⟨rfl, hB8⟩)
          go_ret
          exact ⟨rfl, below_step (below_drewN HWW.out _) hB8⟩
end Go.Proofs.YtcmnjmhedmneiaaDoor
