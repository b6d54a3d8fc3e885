/-
  The walk of WaveDecodes: it returns true, whatever it is given.
-/
import Derived.Test.YtcmnjmhedmneiaaDoorRefDecode
namespace Go.Proofs.YtcmnjmhedmneiaaDoor
open Go.RowKit Go.Shelf

set_option maxRecDepth 100000 in
set_option maxHeartbeats 1000000 in
theorem waveDecodes_walk (s : List Int) (A : Option Addr) (c : Nat) (t : ByteArray) (w : World) (hW : Wids w) (hs : Ints w A s) (hc : s.length ≤ c) (hc0 : c ≤ maxLen) (_hsw : I64s s) (ht : t.size ≤ maxLen) :
    Calls Tryd.prog 6 #[.slice A s.length c, .string t] w fun e w' => e = .returned (.bool true) ∧ Below w.heap.size w w' := by
  have H := Lib.hid hs
  have HW := Lib.hid hW
  have hsl : s.length ≤ maxLen := Nat.le_trans hc hc0
  clear hs hc hc0 _hsw hW
  by_cases h1 : 200 < s.length
  · have t1 : decide (200 < s.length) = true := decide_eq_true h1
    go_enter Tryd.func6, Tryd.ntmps6
    go_wp2_with (first
      | (go_at_call 17; refine (many_any _ _ _ _).mono ?_; rintro e w' ⟨rfl, rfl⟩)
      | (go_at_call 19; refine (awake_any _ HW.out).mono ?_; rintro e w' ⟨rfl, hB⟩))
    go_ret
    exact ⟨rfl, hB⟩
  have t1 : decide (200 < s.length) = false := decide_eq_false h1
  by_cases h3 : 2000 < t.size
  · have t3 : decide (2000 < t.size) = true := decide_eq_true h3
    go_enter Tryd.func6, Tryd.ntmps6
    go_wp2_with (first
      | (go_at_call 17; refine (many_any s _ _ _).mono ?_; rintro e w' ⟨rfl, rfl⟩)
      | (go_at_call 18; refine (lawLong_any t _).mono ?_; rintro e w' ⟨rfl, rfl⟩)
      | (go_at_call 19; refine (awake_any _ HW.out).mono ?_; rintro e w' ⟨rfl, hB⟩))
    go_ret
    exact ⟨rfl, hB⟩
  have t3 : decide (2000 < t.size) = false := decide_eq_false h3
  have TB : Hid True := Lib.hid trivial
  clear h1 h3
  go_enter Tryd.func6, Tryd.ntmps6
  go_wp2_with (first
    | (go_at_call 17; refine (many_any s _ _ _).mono ?_; rintro e w' ⟨rfl, rfl⟩)
    | (go_at_call 18; refine (lawLong_any t _).mono ?_; rintro e w' ⟨rfl, rfl⟩)
    | (go_at_call 41; refine (waveDecode_any t _ ht HW.out).mono ?_; rintro e w1 ⟨A1, c1, xs, E, rfl, hO1, hB1, hF1⟩)
    | (go_at_call 42; refine (refDecode_any t _ ht).mono ?_; rintro e w2 ⟨A2, c2, ys, E2, rfl, hO2, hB2, hF2⟩; have e2 : ys = xs := hF2.out.1.trans hF1.out.1.symm; subst e2; have e2 : E2 = E := hF2.out.2.trans hF1.out.2.symm; subst e2; have hW2 := below_step hB1 hB2)
    | (go_at_call 28; clear TB; refine (sameInts_same ys _ _ _ _ _ (hO1.below hB2).ints hO2.ints (Nat.le_trans hO1.le hO1.cap)).mono ?_; rintro e w6 ⟨rfl, hB6⟩; have hW6 := below_step hW2 hB6)
    | (go_at_call 43; refine (waveWidths_any t _ ht (HW.out.below hW6)).mono ?_; rintro e w1 ⟨A3, c3, us, F, rfl, hO3, hB3, hF3⟩; have hW3 := below_step hW6 hB3)
    | (go_at_call 44; refine (refWidths_any t _ ht).mono ?_; rintro e w2 ⟨A4, c4, vs, F2, rfl, hO4, hB4, hF4⟩; have e2 : vs = us := hF4.out.1.trans hF3.out.1.symm; subst e2; have e2 : F2 = F := hF4.out.2.trans hF3.out.2.symm; subst e2; have hW4 := below_step hW3 hB4)
    | (go_at_call 45; refine (waveChanges_any t _ ht (HW.out.below hW4)).mono ?_; rintro e w1 ⟨n, G, rfl, hB5, hF5⟩; have hW5 := below_step hW4 hB5)
    | (go_at_call 46; refine (refChanges_any t _ ht).mono ?_; rintro e w2 ⟨n2, G2, rfl, hB7, hF7⟩; have e2 : n2 = n := hF7.out.1.trans hF5.out.1.symm; subst e2; have e2 : G2 = G := hF7.out.2.trans hF5.out.2.symm; subst e2; have hW7 := below_step hW5 hB7)
    | (go_at_call 28; refine (sameInts_same vs _ _ _ _ _ (((hO3.below hB4).below hB5).below hB7).ints ((hO4.below hB5).below hB7).ints (Nat.le_trans hO3.le hO3.cap)).mono ?_; rintro e w6 ⟨rfl, hB8⟩; have hW8 := below_step hW7 hB8)
    | (go_at_call 47; refine (waveIsText_any s _ _ t _ (H.out.below hW8) hsl ht (HW.out.below hW8)).mono ?_; rintro e w2 ⟨b, I, rfl, hB9, hF9⟩; have hW9 := below_step hW8 hB9)
    | (go_at_call 48; refine (refIsText_any s _ _ t _ (H.out.below hW9) hsl ht).mono ?_; rintro e w2 ⟨b2, I2, rfl, hB10, hF10⟩; have e2 : b2 = b := hF10.out.1.trans hF9.out.1.symm; subst e2; have e2 : I2 = I := hF10.out.2.trans hF9.out.2.symm; subst e2; have hW10 := below_step hW9 hB10)
    | (go_at_call 19; refine (awake_any _ (HW.out.below hW10)).mono ?_; rintro e w8 ⟨rfl, hB11⟩))
  go_ret
  exact ⟨rfl, below_step hW10 hB11⟩
end Go.Proofs.YtcmnjmhedmneiaaDoor
