/-
  The walk of AlertStretches: it returns true, whatever it is given.
-/
import Derived.Test.YthanmiifcpajhaaSane
set_option linter.unusedVariables false
set_option linter.unusedSimpArgs false
namespace Go.Proofs.Ythanmiifcpajhaa
open Go Go.RowKit Go.Shelf

set_option maxRecDepth 100000 in
set_option maxHeartbeats 4000000 in
theorem alertStretches_walk (ts : List (Int × Int × Int)) (A : Option Addr) (cap : Nat) (a b : Int) (w : World) (hA : Marks w A ts) (hc : ts.length ≤ cap) (hc0 : cap ≤ maxLen) (_ha : (Lit.int .i64 a).wf = true) (_hb : (Lit.int .i64 b).wf = true) :
    Calls Try.prog 5 #[.slice A ts.length cap, .int .i64 a, .int .i64 b] w fun e w' => e = .returned (.bool true) ∧ Below w.heap.size w w' := by
  have H := Lib.hid hA
  have HL : Hid (ts.length ≤ maxLen) := Lib.hid (Nat.le_trans hc hc0)
  have hW0 := Below.refl w.heap.size w
  clear hA hc hc0 _ha _hb
  cases hm : decide (40 < ts.length) with
  | true =>
    have HLo : Hid (∀ W : World, Calls Try.prog 15 #[.slice A ts.length cap] W fun e w' => e = .returned (.bool true) ∧ W = w') := Lib.hid fun W => (long_any ts A cap W).mono fun _ _ h => ⟨by rw [h.1, hm], h.2⟩
    clear hm
    go_enter Try.func5, Try.ntmps5
    go_wp2_with (first
      | (go_at_call 15; refine (HLo.out _).mono ?_; rintro e w' ⟨rfl, rfl⟩)
      | (go_at_call 16; refine (sane_any _).mono ?_; rintro e w1 ⟨rfl, hB1⟩; have hW1 := below_step hW0 hB1; clear hB1)
      | fail)
    go_ret
    exact ⟨rfl, hW1⟩
  | false =>
    have HLo : Hid (∀ W : World, Calls Try.prog 15 #[.slice A ts.length cap] W fun e w' => e = .returned (.bool false) ∧ W = w') := Lib.hid fun W => (long_any ts A cap W).mono fun _ _ h => ⟨by rw [h.1, hm], h.2⟩
    clear hm
    go_enter Try.func5, Try.ntmps5
    go_wp2_with (first
      | (go_at_call 15; refine (HLo.out _).mono ?_; rintro e w' ⟨rfl, rfl⟩)
      | (go_at_call 36; refine (demandX_any ts _ _ a b _ (H.out.below hW0) HL.out).mono ?_; rintro e w1 ⟨rfl, hB1⟩; have hW1 := below_step hW0 hB1; clear hB1)
      | (go_at_call 37; refine (refDemandX_any ts _ _ a b _ (H.out.below hW1) HL.out).mono ?_; rintro e w2 ⟨rfl, hB2⟩; have hW2 := below_step hW1 hB2; clear hB2)
      | (go_at_call 38; refine (slackA ts _ _ _ (H.out.below hW2) HL.out).mono ?_; rintro e w3 ⟨rfl, hB3⟩; have hW3 := below_step hW2 hB3; clear hB3)
      | (go_at_call 39; refine (refSlackA ts _ _ _ (H.out.below hW3) HL.out).mono ?_; rintro e w4 ⟨rfl, hB4⟩; have hW4 := below_step hW3 hB4; clear hB4)
      | (go_at_call 40; refine (overA ts _ _ _ (H.out.below hW4) HL.out).mono ?_; rintro e w5 ⟨rfl, hB5⟩; have hW5 := below_step hW4 hB5; clear hB5)
      | (go_at_call 41; refine (refOverA ts _ _ _ (H.out.below hW5) HL.out).mono ?_; rintro e w6 ⟨rfl, hB6⟩; have hW6 := below_step hW5 hB6; clear hB6)
      | (go_at_call 16; refine (sane_any _).mono ?_; rintro e w7 ⟨rfl, hB7⟩; have hW7 := below_step hW6 hB7; clear hB7)
      | fail)
    go_ret
    exact ⟨rfl, hW7⟩
end Go.Proofs.Ythanmiifcpajhaa
