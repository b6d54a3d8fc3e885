/-
  The walk of WaveWords: it returns true, whatever it is given.
-/
import Derived.Test.YtcmnjmhedmneiaaDoorRefNumber
namespace Go.Proofs.YtcmnjmhedmneiaaDoor
open Go.RowKit Go.Shelf

set_option maxRecDepth 100000 in
set_option maxHeartbeats 1000000 in
theorem waveWords_walk (wi n : Int) (t : ByteArray) (w : World) (hW : Wids w) (_h1 : (Lit.int .i64 wi).wf = true) (_h2 : (Lit.int .i64 n).wf = true) (ht : t.size ≤ maxLen) :
    Calls Tryd.prog 4 #[.int .i64 wi, .int .i64 n, .string t] w fun e w' => e = .returned (.bool true) ∧ Below w.heap.size w w' := by
  have HW := Lib.hid hW
  clear hW _h1 _h2
  by_cases h1 : 2000 < t.size
  · have t1 : decide (2000 < t.size) = true := decide_eq_true h1
    go_enter Tryd.func4, Tryd.ntmps4
    go_wp2_with (first
      | (go_at_call 18; refine (lawLong_any _ _).mono ?_; rintro e w' ⟨rfl, rfl⟩)
      | (go_at_call 19; refine (awake_any _ HW.out).mono ?_; rintro e w' ⟨rfl, hB⟩))
    go_ret
    exact ⟨rfl, hB⟩
  have t1 : decide (2000 < t.size) = false := decide_eq_false h1
  clear h1
  go_enter Tryd.func4, Tryd.ntmps4
  go_wp2_with (first
    | (go_at_call 18; refine (lawLong_any t _).mono ?_; rintro e w' ⟨rfl, rfl⟩)
    | (go_at_call 29; refine (waveWord_any wi n _ HW.out).mono ?_; rintro e w1 ⟨q, E, rfl, hB1, hF1⟩)
    | (go_at_call 30; refine (refWord_any wi n _).mono ?_; rintro e w2 ⟨q2, E2, rfl, hB2, hF2⟩; obtain rfl : q = q2 := (hF1.out.1.trans hF2.out.1.symm); obtain rfl : E = E2 := (hF1.out.2.trans hF2.out.2.symm); have hW2 := below_step hB1 hB2; clear hF1 hF2)
    | (go_at_call 31; refine (waveNumber_any t _ (HW.out.below hW2) ht).mono ?_; rintro e w3 ⟨m3, E3, rfl, hB3, hF3⟩; have hW3 := below_step hW2 hB3)
    | (go_at_call 32; refine (refNumber_any t _ ht).mono ?_; rintro e w4 ⟨m4, E4, rfl, hB4, hF4⟩; obtain rfl : m3 = m4 := (hF3.out.1.trans hF4.out.1.symm); obtain rfl : E3 = E4 := (hF3.out.2.trans hF4.out.2.symm); have hW4 := below_step hW3 hB4; clear hF3 hF4)
    | (go_at_call 19; refine (awake_any _ (HW.out.below hW4)).mono ?_; rintro e w8 ⟨rfl, hB8⟩))
  go_ret
  exact ⟨rfl, below_step hW4 hB8⟩
end Go.Proofs.YtcmnjmhedmneiaaDoor
