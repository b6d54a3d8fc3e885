/-
  The walk of WaveBacks: it returns true, whatever it is given.
-/
import Derived.Test.YtcmnjmhedmneiaaDoorBackM
namespace Go.Proofs.YtcmnjmhedmneiaaDoor
open Go.RowKit Go.Shelf

set_option maxRecDepth 100000 in
set_option maxHeartbeats 1000000 in
theorem waveBacks_walk (s : List Int) (A : Option Addr) (c : Nat) (w : World) (hW : Wids w) (hs : Ints w A s) (hc : s.length ≤ c) (hc0 : c ≤ maxLen) (_hsw : I64s s) :
    Calls Tryd.prog 9 #[.slice A s.length c] w fun e w' => e = .returned (.bool true) ∧ Below w.heap.size w w' := by
  have H := Lib.hid hs
  have HW := Lib.hid hW
  have hsl : s.length ≤ maxLen := Nat.le_trans hc hc0
  clear hs hc hc0 _hsw hW
  by_cases h1 : 200 < s.length
  · have t1 : decide (200 < s.length) = true := decide_eq_true h1
    go_enter Tryd.func9, Tryd.ntmps9
    go_wp2_with (first
      | (go_at_call 17; refine (many_any _ _ _ _).mono ?_; rintro e w' ⟨rfl, rfl⟩)
      | (go_at_call 19; refine (awake_any _ HW.out).mono ?_; rintro e w' ⟨rfl, hB⟩))
    go_ret
    exact ⟨rfl, hB⟩
  have t1 : decide (200 < s.length) = false := decide_eq_false h1
  cases hv : vwB s with
  | false =>
    have HV := Lib.hid hv
    clear hv h1
    go_enter Tryd.func9, Tryd.ntmps9
    go_wp2_with (first
      | (go_at_call 17; refine (many_any _ _ _ _).mono ?_; rintro e w' ⟨rfl, rfl⟩)
      | (go_at_call 25; refine (refValid_any s _ _ _ H.out hsl).mono ?_; rintro e w' ⟨rfl, rfl⟩; rw [HV.out])
      | (go_at_call 19; refine (awake_any _ HW.out).mono ?_; rintro e w' ⟨rfl, hB⟩))
    go_ret
    exact ⟨rfl, hB⟩
  | true =>
    have HV := Lib.hid hv
    have TA : Hid True := Lib.hid trivial
    have TB : Hid True := Lib.hid trivial
    have TC : Hid True := Lib.hid trivial
    have TD : Hid True := Lib.hid trivial
    clear hv h1
    go_enter Tryd.func9, Tryd.ntmps9
    go_wp2_with (first
      | (go_at_call 17; refine (many_any _ _ _ _).mono ?_; rintro e w' ⟨rfl, rfl⟩)
      | (go_at_call 25; refine (refValid_any s _ _ _ H.out hsl).mono ?_; rintro e w' ⟨rfl, rfl⟩; rw [HV.out])
      | (go_at_call 20; refine (diffs_eq H.out hsl HV.out).mono ?_; rintro e w1 ⟨A1, c1, zs, rfl, hO1, hB1, hzs⟩)
      | (go_at_call 22; refine (samples_eq hO1.ints (Nat.le_trans hO1.le hO1.cap) hzs.out HV.out).mono ?_; rintro e w2 ⟨A2, c2, rfl, hO2, hB2⟩; have hW2 := below_step hB1 hB2)
      | (go_at_call 33; refine (encode_eq (H.out.below hW2) hsl (HW.out.below hW2) HV.out).mono ?_; rintro e w3 ⟨q, rfl, hB3, hq⟩; have hW3 := below_step hW2 hB3)
      | (go_at_call 37; refine (wide_eq (H.out.below hW3) hsl (HW.out.below hW3) HV.out).mono ?_; rintro e w4 ⟨r, rfl, hB4, hr⟩; have hW4 := below_step hW3 hB4; have HQ : Hid (dcE q = 0 ∧ dcS q = s ∧ itE s q = 0 ∧ itB s q = true ∧ q.size ≤ maxLen) := Lib.hid (by obtain ⟨ps, p1, p2, p3, p4⟩ := enc_dec HV.out hq.out; obtain ⟨a, b, _, _, e1, f1, g1, _⟩ := plan_dec HV.out p2 p1 (by omega) p3; exact ⟨a, b, e1, f1, max_big (by omega)⟩); have HR : Hid (dcE r = 0 ∧ dcS r = s ∧ itE s r = 0 ∧ itB s r = true ∧ r.size ≤ maxLen) := Lib.hid (by obtain ⟨p3, p2, p1, p4⟩ := wide_dec HV.out hr.out; obtain ⟨a, b, _, _, e1, f1, g1, _⟩ := plan_dec HV.out p2 p1 (by omega) p3; exact ⟨a, b, e1, f1, max_big (by omega)⟩))
      | (go_at_call 28; clear TA; refine (sameInts_same s _ _ _ _ _ ((hO2.below hB3).below hB4).ints (H.out.below hW4) hsl).mono ?_; rintro e w6 ⟨rfl, hB6⟩; have hW6 := below_step hW4 hB6)
      | (go_at_call 41; clear TB; refine (decode_eq (q := q) HQ.out.2.2.2.2 (HW.out.below hW6) HQ.out.1 HQ.out.2.1).mono ?_; rintro e w7 ⟨A7, c7, rfl, hO7, hB7⟩; have hW7 := below_step hW6 hB7)
      | (go_at_call 41; refine (decode_eq (q := r) HR.out.2.2.2.2 (HW.out.below hW7) HR.out.1 HR.out.2.1).mono ?_; rintro e w8 ⟨A8, c8, rfl, hO8, hB8⟩; have hW8 := below_step hW7 hB8)
      | (go_at_call 47; clear TC; refine (isText_eq (q := q) (H.out.below hW8) hsl HQ.out.2.2.2.2 (HW.out.below hW8) HQ.out.2.2.1 HQ.out.2.2.2.1).mono ?_; rintro e w9 ⟨rfl, hB9⟩; have hW9 := below_step hW8 hB9)
      | (go_at_call 47; refine (isText_eq (q := r) (H.out.below hW9) hsl HR.out.2.2.2.2 (HW.out.below hW9) HR.out.2.2.1 HR.out.2.2.2.1).mono ?_; rintro e w10 ⟨rfl, hB10⟩; have hW10 := below_step hW9 hB10)
      | (go_at_call 28; clear TD; refine (sameInts_same s _ _ _ _ _ ((((hO7.below hB8).below hB9).below hB10)).ints (H.out.below hW10) hsl).mono ?_; rintro e w11 ⟨rfl, hB11⟩; have hW11 := below_step hW10 hB11)
      | (go_at_call 28; refine (sameInts_same s _ _ _ _ _ ((((hO8.below hB9).below hB10).below hB11)).ints (H.out.below hW11) hsl).mono ?_; rintro e w12 ⟨rfl, hB12⟩; have hW12 := below_step hW11 hB12)
      | (go_at_call 19; refine (awake_any _ (HW.out.below hW12)).mono ?_; rintro e w' ⟨rfl, hB13⟩))
    go_ret
    exact ⟨rfl, below_step hW12 hB13⟩
end Go.Proofs.YtcmnjmhedmneiaaDoor
