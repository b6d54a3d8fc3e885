/-
  The walk of AlertMoves: it returns true, whatever it is given.
-/
import Derived.Test.YthanmiifcpajhaaRefKept
import Derived.Test.YthanmiifcpajhaaSane
set_option linter.unusedVariables false
set_option linter.unusedSimpArgs false
namespace Go.Proofs.Ythanmiifcpajhaa
open Go Go.RowKit

theorem sameT_yes (xs : Ts) (A B : Option Addr) (c d : Nat) (w : World) (hA : Clk w A c xs) (hB : Clk w B d xs) : Calls Try.prog 50 #[.slice A xs.length c, .slice B xs.length d] w fun e w' => e = .returned (.bool true) ∧ Below w.heap.size w w' :=
  (sameTasks_any xs xs A B c d w hA.marks hB.marks hA.len).mono fun _ _ h => ⟨by rw [h.1]; simp, h.2⟩
theorem sameI_yes (xs : List Int) (A B : Option Addr) (c d : Nat) (w : World) (hA : Out w A c xs) (hB : Out w B d xs) : Calls Try.prog 27 #[.slice A xs.length c, .slice B xs.length d] w fun e w' => e = .returned (.bool true) ∧ Below w.heap.size w w' :=
  sameInts_same xs A B c d w hA.ints hB.ints (Nat.le_trans hA.le hA.cap)
set_option maxRecDepth 100000 in
set_option maxHeartbeats 8000000 in
theorem alertMoves_walk (ts : List (Int × Int × Int)) (A : Option Addr) (cap : Nat) (z : Int) (w : World) (hA : Marks w A ts) (hc : ts.length ≤ cap) (hc0 : cap ≤ maxLen) (hz0 : (Lit.int .i64 z).wf = true) :
    Calls Try.prog 7 #[.slice A ts.length cap, .int .i64 z] w fun e w' => e = .returned (.bool true) ∧ Below w.heap.size w w' := by
  have hz : -9223372036854775808 ≤ z ∧ z ≤ 9223372036854775807 := by simpa [Lit.wf, IntKind.min, IntKind.max, IntKind.bits, IntKind.signed] using hz0
  have H := Lib.hid hA
  have HL : Hid (ts.length ≤ maxLen) := Lib.hid (Nat.le_trans hc hc0)
  have HZ := Lib.hid hz
  have hW0 := Below.refl w.heap.size w
  have TA : Hid True := Lib.hid trivial
  have TB : Hid True := Lib.hid trivial
  clear hA hc hc0 hz hz0
  cases hm : decide (40 < ts.length) with
  | true =>
    have HLo : Hid (∀ W : World, Calls Try.prog 15 #[.slice A ts.length cap] W fun e w' => e = .returned (.bool true) ∧ W = w') := Lib.hid fun W => (long_any ts A cap W).mono fun _ _ h => ⟨by rw [h.1, hm], h.2⟩
    clear hm
    go_enter Try.func7, Try.ntmps7
    go_wp2_with (first
      | (go_at_call 15; refine (HLo.out _).mono ?_; rintro e w' ⟨rfl, rfl⟩)
      | (go_at_call 16; refine (sane_any _).mono ?_; rintro e w1 ⟨rfl, hB1⟩; have hW1 := below_step hW0 hB1; clear hB1)
      | fail)
    go_ret
    exact ⟨rfl, hW1⟩
  | false =>
    have HLo : Hid (∀ W : World, Calls Try.prog 15 #[.slice A ts.length cap] W fun e w' => e = .returned (.bool false) ∧ W = w') := Lib.hid fun W => (long_any ts A cap W).mono fun _ _ h => ⟨by rw [h.1, hm], h.2⟩
    clear hm
    go_enter Try.func7, Try.ntmps7
    go_wp2_with (first
      | (go_at_call 15; refine (HLo.out _).mono ?_; rintro e w' ⟨rfl, rfl⟩)
      | (go_at_call 48; refine (movedX_any ts _ _ z _ (H.out.below hW0) HL.out).mono ?_; rintro e w1 ⟨D1, e1, rfl, hOO1, hB1⟩; have hW1 := below_step hW0 hB1; have O1 := Lib.hid hOO1; clear hOO1; clear hB1)
      | (go_at_call 49; refine (refMovedX_any ts _ _ z _ (H.out.below hW1) HL.out HZ.out).mono ?_; rintro e w2 ⟨D2, e2, rfl, hOO2, hB2⟩; have hW2 := below_step hW1 hB2; have O1 := Lib.hid (O1.out.below hB2); have O2 := Lib.hid hOO2; clear hOO2; clear hB2)
      | (go_at_call 50; clear TA; refine (sameT_yes (mvV ts z) D1 D2 e1 e2 _ O1.out O2.out).mono ?_; rintro e w3 ⟨rfl, hB3⟩; have hW3 := below_step hW2 hB3; clear hB3)
      | (go_at_call 51; refine (turnedX_any ts _ _ _ (H.out.below hW3) HL.out).mono ?_; rintro e w4 ⟨D3, e3, rfl, hOO3, hB4⟩; have hW4 := below_step hW3 hB4; have O3 := Lib.hid hOO3; clear hOO3; clear hB4)
      | (go_at_call 52; refine (refTurnedX_any ts _ _ _ (H.out.below hW4) HL.out).mono ?_; rintro e w5 ⟨D4, e4, rfl, hOO4, hB5⟩; have hW5 := below_step hW4 hB5; have O3 := Lib.hid (O3.out.below hB5); have O4 := Lib.hid hOO4; clear hOO4; clear hB5)
      | (go_at_call 53; refine (keptX_any ts _ _ _ (H.out.below hW5) HL.out).mono ?_; rintro e w6 ⟨D5, e5, rfl, hOO5, hB6⟩; have hW6 := below_step hW5 hB6; have O3 := Lib.hid (O3.out.below hB6); have O4 := Lib.hid (O4.out.below hB6); have O5 := Lib.hid hOO5; clear hOO5; clear hB6)
      | (go_at_call 54; refine (refKeptX_any ts _ _ _ (H.out.below hW6) HL.out).mono ?_; rintro e w7 ⟨D6, e6, rfl, hOO6, hB7⟩; have hW7 := below_step hW6 hB7; have O3 := Lib.hid (O3.out.below hB7); have O4 := Lib.hid (O4.out.below hB7); have O5 := Lib.hid (O5.out.below hB7); have O6 := Lib.hid hOO6; clear hOO6; clear hB7)
      | (go_at_call 50; refine (sameT_yes (tnV ts) D3 D4 e3 e4 _ O3.out O4.out).mono ?_; rintro e w8 ⟨rfl, hB8⟩; have hW8 := below_step hW7 hB8; have O5 := Lib.hid (O5.out.below hB8); have O6 := Lib.hid (O6.out.below hB8); clear hB8)
      | (go_at_call 27; refine (sameI_yes (kpV ts) D5 D6 e5 e6 _ O5.out O6.out).mono ?_; rintro e w9 ⟨rfl, hB9⟩; have hW9 := below_step hW8 hB9; clear hB9)
      | (go_at_call 16; refine (sane_any _).mono ?_; rintro e w10 ⟨rfl, hB10⟩; have hW10 := below_step hW9 hB10; clear hB10)
      | fail)
    go_ret
    exact ⟨rfl, hW10⟩
end Go.Proofs.Ythanmiifcpajhaa
