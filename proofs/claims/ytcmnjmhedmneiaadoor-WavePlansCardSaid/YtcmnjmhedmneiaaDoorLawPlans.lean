/-
  The walk of WavePlans: it returns true, whatever it is given.
-/
import Derived.Test.YtcmnjmhedmneiaaDoorPlan
namespace Go.Proofs.YtcmnjmhedmneiaaDoor
open Go.RowKit Go.Shelf

set_option maxRecDepth 100000 in
set_option maxHeartbeats 1000000 in
theorem wavePlans_walk (s : List Int) (A : Option Addr) (c : Nat) (l : List Int) (B : Option Addr) (d : Nat) (w : World) (hW : Wids w) (hs : Ints w A s) (hc : s.length ≤ c) (hc0 : c ≤ maxLen) (_hsw : I64s s) (hl : Ints w B l) (hd : l.length ≤ d) (hd0 : d ≤ maxLen) (_hlw : I64s l) :
    Calls Tryd.prog 7 #[.slice A s.length c, .slice B l.length d] w fun e w' => e = .returned (.bool true) ∧ Below w.heap.size w w' := by
  have H := Lib.hid hs
  have HL := Lib.hid hl
  have HW := Lib.hid hW
  have hsl : s.length ≤ maxLen := Nat.le_trans hc hc0
  have hll : l.length ≤ maxLen := Nat.le_trans hd hd0
  clear hs hc hc0 _hsw hl hd hd0 _hlw hW
  by_cases h1 : 200 < s.length
  · have t1 : decide (200 < s.length) = true := decide_eq_true h1
    go_enter Tryd.func7, Tryd.ntmps7
    go_wp2_with (first
      | (go_at_call 17; refine (many_any _ _ _ _).mono ?_; rintro e w' ⟨rfl, rfl⟩)
      | (go_at_call 19; refine (awake_any _ HW.out).mono ?_; rintro e w' ⟨rfl, hB⟩))
    go_ret
    exact ⟨rfl, hB⟩
  have t1 : decide (200 < s.length) = false := decide_eq_false h1
  have TA : Hid True := Lib.hid trivial
  by_cases h2 : 200 < l.length
  · have t2 : decide (200 < l.length) = true := decide_eq_true h2
    go_enter Tryd.func7, Tryd.ntmps7
    go_wp2_with (first
      | (go_at_call 17; clear TA; refine (many_any s _ _ _).mono ?_; rintro e w' ⟨rfl, rfl⟩)
      | (go_at_call 17; refine (many_any l _ _ _).mono ?_; rintro e w' ⟨rfl, rfl⟩)
      | (go_at_call 19; refine (awake_any _ HW.out).mono ?_; rintro e w' ⟨rfl, hB⟩))
    go_ret
    exact ⟨rfl, hB⟩
  have t2 : decide (200 < l.length) = false := decide_eq_false h2
  clear h1 h2
  go_enter Tryd.func7, Tryd.ntmps7
  go_wp2_with (first
    | (go_at_call 17; clear TA; refine (many_any s _ _ _).mono ?_; rintro e w' ⟨rfl, rfl⟩)
    | (go_at_call 17; refine (many_any l _ _ _).mono ?_; rintro e w' ⟨rfl, rfl⟩)
    | (go_at_call 49; refine (wavePlan_any s l _ _ _ _ _ H.out HL.out hsl hll HW.out).mono ?_; rintro e w1 ⟨q, E, rfl, hB1, hF1⟩)
    | (go_at_call 50; refine (refPlan_any s l _ _ _ _ _ (H.out.below hB1) (HL.out.below hB1) hsl hll).mono ?_; rintro e w2 ⟨q2, E2, rfl, hB2, hF2⟩; obtain rfl : q = q2 := (hF1.out.1.trans hF2.out.1.symm); obtain rfl : E = E2 := (hF1.out.2.trans hF2.out.2.symm); have hW2 := below_step hB1 hB2; clear hF1 hF2)
    | (go_at_call 19; refine (awake_any _ (HW.out.below hW2)).mono ?_; rintro e w8 ⟨rfl, hB8⟩))
  go_ret
  exact ⟨rfl, below_step hW2 hB8⟩
end Go.Proofs.YtcmnjmhedmneiaaDoor
