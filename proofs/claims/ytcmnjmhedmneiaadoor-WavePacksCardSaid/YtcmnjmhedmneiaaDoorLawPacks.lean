/-
  The walk of WavePacks: it returns true, whatever it is given.
-/
import Derived.Test.YtcmnjmhedmneiaaDoorLawBytes
import Derived.Test.YtcmnjmhedmneiaaDoorRefUnpack
import Derived.Test.YtcmnjmhedmneiaaDoorRefQuiet
namespace Go.Proofs.YtcmnjmhedmneiaaDoor
open Go.RowKit Go.Shelf

set_option maxRecDepth 100000 in
set_option maxHeartbeats 1000000 in
theorem wavePacks_walk (t : ByteArray) (b : List Int) (B : Option Addr) (d : Nat) (s : List Int) (A : Option Addr) (c : Nat) (m : Int) (w : World) (hW : Wids w) (ht : t.size ≤ maxLen) (hb : Bts w B b) (_hd : b.length ≤ d) (hd0 : d ≤ maxLen ∧ Bys b) (hs : Ints w A s) (hc : s.length ≤ c) (hc0 : c ≤ maxLen) (_hsw : I64s s) (_hm : (Lit.int .i64 m).wf = true) :
    Calls Tryd.prog 8 #[.string t, .slice B b.length d, .slice A s.length c, .int .i64 m] w fun e w' => e = .returned (.bool true) ∧ Below w.heap.size w w' := by
  have H := Lib.hid hb
  have HI := Lib.hid hs
  have HW := Lib.hid hW
  have HBY := Lib.hid hd0.2
  have hsl : s.length ≤ maxLen := Nat.le_trans hc hc0
  clear hb hW hd0 _hd hs hc hc0 _hsw _hm
  by_cases h3 : 2000 < t.size
  · have t3 : decide (2000 < t.size) = true := decide_eq_true h3
    go_enter Tryd.func8, Tryd.ntmps8
    go_wp2_with (first
      | (go_at_call 18; refine (lawLong_any t _).mono ?_; rintro e w' ⟨rfl, rfl⟩)
      | (go_at_call 19; refine (awake_any _ HW.out).mono ?_; rintro e w' ⟨rfl, hB⟩))
    go_ret
    exact ⟨rfl, hB⟩
  have t3 : decide (2000 < t.size) = false := decide_eq_false h3
  by_cases h4 : 500 < b.length
  · have t4 : decide (500 < (b.length : Int)) = true := decide_eq_true (by omega)
    go_enter Tryd.func8, Tryd.ntmps8
    go_wp2_with (first
      | (go_at_call 18; refine (lawLong_any t _).mono ?_; rintro e w' ⟨rfl, rfl⟩)
      | (go_at_call 19; refine (awake_any _ HW.out).mono ?_; rintro e w' ⟨rfl, hB⟩))
    go_ret
    exact ⟨rfl, hB⟩
  have t4 : decide (500 < (b.length : Int)) = false := decide_eq_false (by omega)
  have hbl : b.length ≤ 1000 := by omega
  by_cases h1 : 200 < s.length
  · have t1 : decide (200 < s.length) = true := decide_eq_true h1
    go_enter Tryd.func8, Tryd.ntmps8
    go_wp2_with (first
      | (go_at_call 18; refine (lawLong_any t _).mono ?_; rintro e w' ⟨rfl, rfl⟩)
      | (go_at_call 17; refine (many_any s _ _ _).mono ?_; rintro e w' ⟨rfl, rfl⟩)
      | (go_at_call 19; refine (awake_any _ HW.out).mono ?_; rintro e w' ⟨rfl, hB⟩))
    go_ret
    exact ⟨rfl, hB⟩
  have t1 : decide (200 < s.length) = false := decide_eq_false h1
  clear h1 h3 h4
  go_enter Tryd.func8, Tryd.ntmps8
  go_wp2_with (first
    | (go_at_call 18; refine (lawLong_any t _).mono ?_; rintro e w' ⟨rfl, rfl⟩)
    | (go_at_call 17; refine (many_any s _ _ _).mono ?_; rintro e w' ⟨rfl, rfl⟩)
    | (go_at_call 51; refine (wavePack_any t _ ht).mono ?_; rintro e w1 ⟨A1, c1, xs, E, rfl, hO1, hB1, hF1⟩)
    | (go_at_call 52; refine (refPack_any t _ ht).mono ?_; rintro e w2 ⟨A2, c2, ys, E2, rfl, hO2, hB2, hF2⟩; have e2 : ys = xs := hF2.out.1.trans hF1.out.1.symm; subst e2; have e2 : E2 = E := hF2.out.2.trans hF1.out.2.symm; subst e2; have hW2 := below_step hB1 hB2)
    | (go_at_call 53; refine (waveUnpack_any b _ _ _ (H.out.below hW2) hbl HBY.out).mono ?_; rintro e w3 ⟨q, F, rfl, hB3, hF3⟩; have hW3 := below_step hW2 hB3)
    | (go_at_call 54; refine (refUnpack_any b _ _ _ (H.out.below hW3) hbl HBY.out).mono ?_; rintro e w4 ⟨q2, F2, rfl, hB4, hF4⟩; obtain rfl : q = q2 := (hF3.out.1.trans hF4.out.1.symm); obtain rfl : F = F2 := (hF3.out.2.trans hF4.out.2.symm); have hW4 := below_step hW3 hB4)
    | (go_at_call 55; refine (sameBytes_eq ((hO1.below hB2).below hB3 |>.below hB4).bts ((hO2.below hB3).below hB4).bts (Nat.le_trans hO1.le hO1.cap) rfl).mono ?_; rintro e w5 ⟨rfl, hB5⟩; have hW5 := below_step hW4 hB5)
    | (go_at_call 56; refine (waveQuiet_any s _ _ m _ (HI.out.below hW5) hsl).mono ?_; rintro e w6 ⟨A6, c6, us, G, rfl, hO6, hB6, hF6⟩; have hW6 := below_step hW5 hB6)
    | (go_at_call 57; refine (refQuiet_any m s _ _ _ (HI.out.below hW6) hsl).mono ?_; rintro e w7 ⟨A7, c7, vs, G2, rfl, hO7, hB7, hF7⟩; have e2 : vs = us := hF7.out.1.trans hF6.out.1.symm; subst e2; have e2 : G2 = G := hF7.out.2.trans hF6.out.2.symm; subst e2; have hW7 := below_step hW6 hB7)
    | (go_at_call 28; refine (sameInts_same vs _ _ _ _ _ (hO6.below hB7).ints hO7.ints (Nat.le_trans hO6.le hO6.cap)).mono ?_; rintro e w8 ⟨rfl, hB8⟩; have hW8 := below_step hW7 hB8)
    | (go_at_call 19; refine (awake_any _ (HW.out.below hW8)).mono ?_; rintro e w' ⟨rfl, hB⟩))
  go_ret
  exact ⟨rfl, below_step hW8 hB⟩
end Go.Proofs.YtcmnjmhedmneiaaDoor
