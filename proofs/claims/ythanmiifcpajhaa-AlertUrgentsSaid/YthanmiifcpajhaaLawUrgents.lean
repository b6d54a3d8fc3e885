/-
  The walk of AlertUrgents: it returns true, whatever it is given.
-/
import Derived.Test.YthanmiifcpajhaaSane
import Derived.Test.YthanmiifcpajhaaSameI
import Derived.Test.YthanmiifcpajhaaRefUrgs
set_option linter.unusedVariables false
set_option linter.unusedSimpArgs false
namespace Go.Proofs.Ythanmiifcpajhaa
open Go Go.RowKit Go.Shelf

theorem same_yes (xs : List Int) (A B : Option Addr) (c d : Nat) (w : World) (hA : Ints w A xs) (hB : Ints w B xs) (hl : xs.length ≤ maxLen) :
    Calls Try.prog 27 #[.slice A xs.length c, .slice B xs.length d] w fun e w' => e = .returned (.bool true) ∧ Below w.heap.size w w' :=
  (sameInts_any xs xs A B c d w hA hB hl).mono fun _ _ ⟨h, n, hn⟩ => ⟨by rw [h]; simp, by rw [hn]; exact below_drewN (Below.refl _ _) _⟩
theorem urL_len (ts : List (Int × Int × Int)) : (urL ts).length ≤ maxLen := by
  unfold urL maxLen; split
  · rw [vL_len]; omega
  · simp
theorem udV_len (ts : List (Int × Int × Int)) (h : ts.length ≤ maxLen) : (udV ts).length ≤ maxLen := by
  unfold udV; split
  · exact Nat.le_trans (udK_len ts (urF ts) ts.length) h
  · simp

set_option maxRecDepth 100000 in
set_option maxHeartbeats 8000000 in
theorem alertUrgents_walk (ts : List (Int × Int × Int)) (A : Option Addr) (cap : Nat) (w : World) (hA : Marks w A ts) (hc : ts.length ≤ cap) (hc0 : cap ≤ maxLen) :
    Calls Try.prog 4 #[.slice A ts.length cap] w fun e w' => e = .returned (.bool true) ∧ Below w.heap.size w w' := by
  have H := Lib.hid hA
  have HL : Hid (ts.length ≤ maxLen) := Lib.hid (Nat.le_trans hc hc0)
  have hW0 := Below.refl w.heap.size w
  have TA : Hid True := Lib.hid trivial
  clear hA hc hc0
  cases hm : decide (40 < ts.length) with
  | true =>
    have HLo : Hid (∀ W : World, Calls Try.prog 15 #[.slice A ts.length cap] W fun e w' => e = .returned (.bool true) ∧ W = w') := Lib.hid fun W => (long_any ts A cap W).mono fun _ _ h => ⟨by rw [h.1, hm], h.2⟩
    clear hm
    go_enter Try.func4, Try.ntmps4
    go_wp2_with (first
      | (go_at_call 15; refine (HLo.out _).mono ?_; rintro e w' ⟨rfl, rfl⟩)
      | (go_at_call 16; refine (sane_any _).mono ?_; rintro e w1 ⟨rfl, hB1⟩; have hW1 := below_step hW0 hB1; clear hB1)
      | fail)
    go_ret
    exact ⟨rfl, hW1⟩
  | false =>
    have HLo : Hid (∀ W : World, Calls Try.prog 15 #[.slice A ts.length cap] W fun e w' => e = .returned (.bool false) ∧ W = w') := Lib.hid fun W => (long_any ts A cap W).mono fun _ _ h => ⟨by rw [h.1, hm], h.2⟩
    clear hm
    go_enter Try.func4, Try.ntmps4
    go_wp2_with (first
      | (go_at_call 15; refine (HLo.out _).mono ?_; rintro e w' ⟨rfl, rfl⟩)
      | (go_at_call 28; refine (urgentX_any ts _ _ _ (H.out.below hW0) HL.out).mono ?_; rintro e w1 ⟨D1, e1, rfl, hOO1, hB1⟩; have hW1 := below_step hW0 hB1; have O1 := Lib.hid hOO1; clear hOO1; clear hB1)
      | (go_at_call 29; refine (refUrgentX_any ts _ _ _ (H.out.below hW1) HL.out).mono ?_; rintro e w2 ⟨D2, e2, rfl, hOO2, hB2⟩; have hW2 := below_step hW1 hB2; have O1 := Lib.hid (O1.out.below hB2); have O2 := Lib.hid hOO2; clear hOO2; clear hB2)
      | (go_at_call 30; refine (canX_any ts _ _ _ (H.out.below hW2) HL.out).mono ?_; rintro e w3 ⟨rfl, hB3⟩; have hW3 := below_step hW2 hB3; have O1 := Lib.hid (O1.out.below hB3); have O2 := Lib.hid (O2.out.below hB3); clear hB3)
      | (go_at_call 31; refine (refCanX_any ts _ _ _ (H.out.below hW3) HL.out).mono ?_; rintro e w4 ⟨rfl, hB4⟩; have hW4 := below_step hW3 hB4; have O1 := Lib.hid (O1.out.below hB4); have O2 := Lib.hid (O2.out.below hB4); clear hB4)
      | (go_at_call 27; clear TA; refine (same_yes (urL ts) D1 D2 e1 e2 _ O1.out.ints O2.out.ints (urL_len ts)).mono ?_; rintro e w5 ⟨rfl, hB5⟩; have hW5 := below_step hW4 hB5; clear hB5)
      | (go_at_call 32; refine (undoneX_any ts _ _ _ (H.out.below hW5) HL.out).mono ?_; rintro e w6 ⟨D3, e3, rfl, hOO3, hB6⟩; have hW6 := below_step hW5 hB6; have O3 := Lib.hid hOO3; clear hOO3; clear hB6)
      | (go_at_call 33; refine (refUndoneX_any ts _ _ _ (H.out.below hW6) HL.out).mono ?_; rintro e w7 ⟨D4, e4, rfl, hOO4, hB7⟩; have hW7 := below_step hW6 hB7; have O3 := Lib.hid (O3.out.below hB7); have O4 := Lib.hid hOO4; clear hOO4; clear hB7)
      | (go_at_call 34; refine (longestX_any ts _ _ _ (H.out.below hW7) HL.out).mono ?_; rintro e w8 ⟨rfl, hB8⟩; have hW8 := below_step hW7 hB8; have O3 := Lib.hid (O3.out.below hB8); have O4 := Lib.hid (O4.out.below hB8); clear hB8)
      | (go_at_call 35; refine (refLongestX_any ts _ _ _ (H.out.below hW8) HL.out).mono ?_; rintro e w9 ⟨rfl, hB9⟩; have hW9 := below_step hW8 hB9; have O3 := Lib.hid (O3.out.below hB9); have O4 := Lib.hid (O4.out.below hB9); clear hB9)
      | (go_at_call 27; refine (same_yes (udV ts) D3 D4 e3 e4 _ O3.out.ints O4.out.ints (udV_len ts HL.out)).mono ?_; rintro e w10 ⟨rfl, hB10⟩; have hW10 := below_step hW9 hB10; have O3 := Lib.hid (O3.out.below hB10); have O4 := Lib.hid (O4.out.below hB10); clear hB10)
      | (go_at_call 16; refine (sane_any _).mono ?_; rintro e w11 ⟨rfl, hB11⟩; have hW11 := below_step hW10 hB11; have O3 := Lib.hid (O3.out.below hB11); have O4 := Lib.hid (O4.out.below hB11); clear hB11)
      | fail)
    go_ret
    exact ⟨rfl, hW11⟩
end Go.Proofs.Ythanmiifcpajhaa
