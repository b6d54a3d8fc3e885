/-
  The walk of ProvValues: it returns true, whatever it is given.
-/
import Derived.Test.YtdekpggfepllhaaSane
set_option linter.unusedVariables false
set_option linter.unusedSimpArgs false
namespace Go.Proofs.Ytdekpggfepllhaa
open Go Go.RowKit

set_option maxRecDepth 100000 in
set_option maxHeartbeats 8000000 in
theorem provValues_walk (s : Sm) (A : Option Addr) (cap : Nat) (l : List Int) (B : Option Addr) (cb : Nat) (w : World) (hA : Marks w A s) (hz : Szs s) (hc : s.length ≤ cap) (hc0 : cap ≤ maxLen) (hB : Ints w B l) (hd : l.length ≤ cb) (hd0 : cb ≤ maxLen) :
    Calls Try.prog 4 #[.slice A s.length cap, .slice B l.length cb] w fun e w' => e = .returned (.bool true) ∧ Below w.heap.size w w' := by
  have H := Lib.hid hA
  have HI := Lib.hid hB
  have HZ := Lib.hid hz
  have HL : Hid (s.length ≤ maxLen) := Lib.hid (Nat.le_trans hc hc0)
  have HL2 : Hid (l.length ≤ maxLen) := Lib.hid (Nat.le_trans hd hd0)
  have hW0 := Below.refl w.heap.size w
  have HLo : Hid (Calls Try.prog 10 #[.slice A s.length cap] w fun e w' => e = .returned (.bool (lgB s)) ∧ Below w.heap.size w w') := Lib.hid (long_any s A cap w hA hz (Nat.le_trans hc hc0))
  clear hA hz hc hc0 hB hd hd0
  cases hm : lgB s with
  | true =>
    rw [hm] at HLo
    clear hm
    go_enter Try.func4, Try.ntmps4
    go_wp2_with (first
      | (go_at_call 10; refine (HLo.out).mono ?_; rintro e w1 ⟨rfl, hB1⟩; have hW1 := below_step hW0 hB1; clear hB1)
      | (go_at_call 11; refine (awake_any _).mono ?_; rintro e w2 ⟨rfl, hB2⟩; have hW2 := below_step hW1 hB2; clear hB2)
      | fail)
    go_ret
    exact ⟨rfl, hW2⟩
  | false =>
    rw [hm] at HLo
    clear hm
    by_cases hl : 100 < l.length
    · have u1 : decide (100 < (l.length : Int)) = true := decide_eq_true (by omega)
      clear hl
      go_enter Try.func4, Try.ntmps4
      go_wp2_with (first
        | (go_at_call 10; refine (HLo.out).mono ?_; rintro e w1 ⟨rfl, hB1⟩; have hW1 := below_step hW0 hB1; clear hB1)
        | (go_at_call 11; refine (awake_any _).mono ?_; rintro e w2 ⟨rfl, hB2⟩; have hW2 := below_step hW1 hB2; clear hB2)
        | fail)
      go_ret
      exact ⟨rfl, hW2⟩
    · have u1 : decide (100 < (l.length : Int)) = false := decide_eq_false (by omega)
      clear hl
      go_enter Try.func4, Try.ntmps4
      go_wp2_with (first
        | (go_at_call 10; refine (HLo.out).mono ?_; rintro e w1 ⟨rfl, hB1⟩; have hW1 := below_step hW0 hB1; clear hB1)
        | (go_at_call 19; refine (valueX_any s _ _ l _ _ _ (H.out.below hW1) HZ.out HL.out (HI.out.below hW1) HL2.out).mono ?_; rintro e w2 ⟨rfl, hB2⟩; have hW2 := below_step hW1 hB2; clear hB2)
        | (go_at_call 20; refine (refValueX_any s _ _ l _ _ _ (H.out.below hW2) HZ.out HL.out (HI.out.below hW2) HL2.out).mono ?_; rintro e w3 ⟨rfl, hB3⟩; have hW3 := below_step hW2 hB3; clear hB3)
        | (go_at_call 21; refine (costX_any s _ _ l _ _ _ (H.out.below hW3) HZ.out HL.out (HI.out.below hW3) HL2.out).mono ?_; rintro e w4 ⟨rfl, hB4⟩; have hW4 := below_step hW3 hB4; clear hB4)
        | (go_at_call 22; refine (refCostX_any s _ _ l _ _ _ (H.out.below hW4) HZ.out HL.out (HI.out.below hW4) HL2.out).mono ?_; rintro e w5 ⟨rfl, hB5⟩; have hW5 := below_step hW4 hB5; clear hB5)
        | (go_at_call 11; refine (awake_any _).mono ?_; rintro e w6 ⟨rfl, hB6⟩; have hW6 := below_step hW5 hB6; clear hB6)
        | fail)
      go_ret
      exact ⟨rfl, hW6⟩
end Go.Proofs.Ytdekpggfepllhaa
