/-
  The walk of WaveDifferences: it returns true, whatever it is given.
-/
import Derived.Test.YtcmnjmhedmneiaaDoorBits
namespace Go.Proofs.YtcmnjmhedmneiaaDoor
open Go.RowKit Go.Shelf

set_option maxRecDepth 100000 in
set_option maxHeartbeats 1000000 in
theorem waveDifferences_walk (s : List Int) (A : Option Addr) (c : Nat) (l : List Int) (B : Option Addr) (d : Nat) (t : ByteArray) (w : World) (hW : Wids w) (hs : Ints w A s) (hc : s.length ≤ c) (hc0 : c ≤ maxLen) (_hsw : I64s s) (hl : Ints w B l) (hd : l.length ≤ d) (hd0 : d ≤ maxLen) (hlw : I64s l) (ht : t.size ≤ maxLen) :
    Calls Tryd.prog 3 #[.slice A s.length c, .slice B l.length d, .string t] w fun e w' => e = .returned (.bool true) ∧ Below w.heap.size w w' := by
  have H := Lib.hid hs
  have HL := Lib.hid hl
  have HW := Lib.hid hW
  have HLW := Lib.hid hlw
  have hsl : s.length ≤ maxLen := Nat.le_trans hc hc0
  have hll : l.length ≤ maxLen := Nat.le_trans hd hd0
  clear hs hc hc0 _hsw hl hd hd0 hlw hW
  by_cases h1 : 200 < s.length
  · have t1 : decide (200 < s.length) = true := decide_eq_true h1
    go_enter Tryd.func3, Tryd.ntmps3
    go_wp2_with (first
      | (go_at_call 17; refine (many_any _ _ _ _).mono ?_; rintro e w' ⟨rfl, rfl⟩)
      | (go_at_call 19; refine (awake_any _ HW.out).mono ?_; rintro e w' ⟨rfl, hB⟩))
    go_ret
    exact ⟨rfl, hB⟩
  have t1 : decide (200 < s.length) = false := decide_eq_false h1
  have TA : Hid True := Lib.hid trivial
  have TB : Hid True := Lib.hid trivial
  by_cases h2 : 200 < l.length
  · have t2 : decide (200 < l.length) = true := decide_eq_true h2
    go_enter Tryd.func3, Tryd.ntmps3
    go_wp2_with (first
      | (go_at_call 17; clear TA; refine (many_any s _ _ _).mono ?_; rintro e w' ⟨rfl, rfl⟩)
      | (go_at_call 17; refine (many_any l _ _ _).mono ?_; rintro e w' ⟨rfl, rfl⟩)
      | (go_at_call 19; refine (awake_any _ HW.out).mono ?_; rintro e w' ⟨rfl, hB⟩))
    go_ret
    exact ⟨rfl, hB⟩
  have t2 : decide (200 < l.length) = false := decide_eq_false h2
  by_cases h3 : 2000 < t.size
  · have t3 : decide (2000 < t.size) = true := decide_eq_true h3
    go_enter Tryd.func3, Tryd.ntmps3
    go_wp2_with (first
      | (go_at_call 17; clear TA; refine (many_any s _ _ _).mono ?_; rintro e w' ⟨rfl, rfl⟩)
      | (go_at_call 17; refine (many_any l _ _ _).mono ?_; rintro e w' ⟨rfl, rfl⟩)
      | (go_at_call 18; refine (lawLong_any t _).mono ?_; rintro e w' ⟨rfl, rfl⟩)
      | (go_at_call 19; refine (awake_any _ HW.out).mono ?_; rintro e w' ⟨rfl, hB⟩))
    go_ret
    exact ⟨rfl, hB⟩
  have t3 : decide (2000 < t.size) = false := decide_eq_false h3
  clear h1 h2 h3
  go_enter Tryd.func3, Tryd.ntmps3
  go_wp2_with (first
    | (go_at_call 17; clear TA; refine (many_any s _ _ _).mono ?_; rintro e w' ⟨rfl, rfl⟩)
    | (go_at_call 17; refine (many_any l _ _ _).mono ?_; rintro e w' ⟨rfl, rfl⟩)
    | (go_at_call 18; refine (lawLong_any t _).mono ?_; rintro e w' ⟨rfl, rfl⟩)
    | (go_at_call 20; refine (waveDifferences_any s _ _ _ H.out hsl).mono ?_; rintro e w1 ⟨A1, c1, xs, E, rfl, hO1, hB1, hF1⟩)
    | (go_at_call 21; refine (refDifferences_any s _ _ _ (H.out.below hB1) hsl).mono ?_; rintro e w2 ⟨A2, c2, ys, E2, rfl, hO2, hB2, hF2⟩; have e2 : ys = xs := hF2.out.1.trans hF1.out.1.symm; subst e2; have e2 : E2 = E := hF2.out.2.trans hF1.out.2.symm; subst e2; have hW2 := below_step hB1 hB2)
    | (go_at_call 22; refine (waveSamples_any l _ _ _ (HL.out.below hW2) hll HLW.out).mono ?_; rintro e w3 ⟨A3, c3, zs, E3, rfl, hO3, hB3, hF3⟩; have hW3 := below_step hW2 hB3)
    | (go_at_call 23; refine (refSamples_any l _ _ _ (HL.out.below hW3) hll).mono ?_; rintro e w4 ⟨A4, c4, us, E4, rfl, hO4, hB4, hF4⟩; have e4 : us = zs := hF4.out.1.trans hF3.out.1.symm; subst e4; have e4 : E4 = E3 := hF4.out.2.trans hF3.out.2.symm; subst e4; have hW4 := below_step hW3 hB4)
    | (go_at_call 24; refine (valid_any s _ _ _ (H.out.below hW4) hsl).mono ?_; rintro e w5 ⟨rfl, rfl⟩)
    | (go_at_call 25; refine (refValid_any s _ _ _ (H.out.below hW4) hsl).mono ?_; rintro e w5 ⟨rfl, rfl⟩)
    | (go_at_call 26; refine (wavevb_any t _ ht).mono ?_; rintro e w5 ⟨rfl, rfl⟩)
    | (go_at_call 27; refine (refvb_any t _ ht).mono ?_; rintro e w5 ⟨rfl, rfl⟩)
    | (go_at_call 28; clear TB; refine (sameInts_same ys _ _ _ _ _ (((hO1.below hB2).below hB3).below hB4).ints ((hO2.below hB3).below hB4).ints (Nat.le_trans hO1.le hO1.cap)).mono ?_; rintro e w6 ⟨rfl, hB6⟩; have hW6 := below_step hW4 hB6)
    | (go_at_call 28; refine (sameInts_same us _ _ _ _ _ ((hO3.below hB4).below hB6).ints (hO4.below hB6).ints (Nat.le_trans hO3.le hO3.cap)).mono ?_; rintro e w7 ⟨rfl, hB7⟩; have hW7 := below_step hW6 hB7)
    | (go_at_call 19; refine (awake_any _ (HW.out.below hW7)).mono ?_; rintro e w8 ⟨rfl, hB8⟩)
    | fail)
  go_ret
  exact ⟨rfl, below_step hW7 hB8⟩
end Go.Proofs.YtcmnjmhedmneiaaDoor
