/-
  The walk of TickCounts: it returns true, whatever it is given.
-/
import Derived.Test.YtjghlfagdleglaaRounds
namespace Go.Proofs.Ytjghlfagdleglaa
open Go.RowKit

theorem sameInts_same (zs : List Int) (A B : Option Addr) (c d : Nat) (w : World) (hA : Ints w A zs) (hB : Ints w B zs) (hl : zs.length ≤ maxLen) :
    Calls Try.prog 22 #[.slice A zs.length c, .slice B zs.length d] w fun e w' => e = .returned (.bool true) ∧ ∃ n, w' = w.drewN n :=
  (sameInts_any zs zs A B c d w hA hB hl).mono fun e w' ⟨he, hw⟩ => ⟨by rw [he]; simp, hw⟩
theorem Ints.drewN {w : World} {A : Option Addr} {zs : List Int} (h : Ints w A zs) (n : Nat) : Ints (w.drewN n) A zs := h
theorem below_step {w w1 w2 : World} (h : Below w.heap.size w w1) (k : Below w1.heap.size w1 w2) : Below w.heap.size w w2 := h.trans (k.mono h.size)
theorem countsF_len (b : Int) (zs : List Int) : (countsF b zs).length ≤ zs.length := by unfold countsF; split <;> simp [cnts_length]
theorem readingsF_len (b : Int) (zs : List Int) : (readingsF b zs).length ≤ zs.length := by unfold readingsF; split <;> simp
theorem stepsF_len (zs : List Int) : (stepsF zs).length ≤ zs.length := by unfold stepsF; split <;> simp [stepsK]

set_option maxRecDepth 100000 in
set_option maxHeartbeats 1000000 in
theorem tickCounts_walk (b : Int) (rs : List Int) (A : Option Addr) (c : Nat) (cs : List Int) (B : Option Addr) (d : Nat) (w : World) (_hb : (Lit.int .i64 b).wf = true)
    (hA : Ints w A rs) (hc : rs.length ≤ c) (hc0 : c ≤ maxLen) (hB : Ints w B cs) (hd : cs.length ≤ d) (hd1 : d ≤ maxLen) :
    Calls Try.prog 3 #[.int .i64 b, .slice A rs.length c, .slice B cs.length d] w fun e w' => e = .returned (.bool true) ∧ Below w.heap.size w w' := by
  have hc1 : rs.length ≤ maxLen := Nat.le_trans hc hc0
  clear hc hc0
  have HA := Lib.hid hA
  have HB := Lib.hid hB
  have hd2 : cs.length ≤ maxLen := by omega
  have HD := Lib.hid hd
  have HD1 := Lib.hid hd1
  have HD2 := Lib.hid hd2
  have HC1 := Lib.hid hc1
  clear hA hB hd hc1 hd1 hd2
  by_cases hm : 200 < rs.length
  · have hm1 : decide (200 < rs.length) = true := decide_eq_true hm
    go_enter Try.func3, Try.ntmps3
    go_wp2_with (first
      | (go_at_call 14; refine (many_any _ _ _ _).mono ?_; rintro e w' ⟨rfl, rfl⟩)
      | (go_at_call 15; refine (awake_any _).mono ?_; rintro e w' ⟨rfl, hW⟩))
    go_ret
    exact ⟨rfl, hW⟩
  by_cases hm2 : 200 < cs.length
  · have hm1 : decide (200 < cs.length) = true := decide_eq_true hm2
    have hm3 : decide (200 < rs.length) = false := decide_eq_false hm
    go_enter Try.func3, Try.ntmps3
    go_wp2_with (first
      | (go_at_call 14; refine (many_any _ _ _ _).mono ?_; rintro e w' ⟨rfl, rfl⟩)
      | (go_at_call 15; refine (awake_any _).mono ?_; rintro e w' ⟨rfl, hW⟩))
    go_ret
    exact ⟨rfl, hW⟩
  have hm3 : decide (200 < rs.length) = false := decide_eq_false hm
  have hm4 : decide (200 < cs.length) = false := decide_eq_false hm2
  go_enter Try.func3, Try.ntmps3
  go_wp2_with (first
    | (go_at_call 14; refine (many_any _ _ _ _).mono ?_; rintro e w' ⟨rfl, rfl⟩)
    | (go_at_call 16; refine (counts_any _ _ _ _ _ HA.out HC1.out).mono ?_; rintro e w1 ⟨A1, c1, ys, E, rfl, hI1, hB1, hF1⟩)
    | (go_at_call 17; refine (refCounts_any _ _ _ _ _ (HA.out.below hB1) HC1.out).mono ?_; rintro e w2 ⟨A2, c2, ys2, E2, rfl, hI2, hB2, hF2⟩; obtain rfl : ys2 = ys := (hF2.out.1.trans hF1.out.1.symm); obtain rfl : E2 = E := (hF2.out.2.trans hF1.out.2.symm))
    | (go_at_call 18; refine (validReadings_any _ _ _ _ _ (HA.out.below (below_step hB1 hB2)) HC1.out).mono ?_; rintro e w' ⟨rfl, rfl⟩)
    | (go_at_call 19; refine (refValidReadings_any _ _ _ _ _ (HA.out.below (below_step hB1 hB2)) HC1.out).mono ?_; rintro e w' ⟨rfl, rfl⟩)
    | (go_at_call 20; refine (validCounts_any _ _ _ _ (HB.out.below (below_step hB1 hB2)) HD2.out).mono ?_; rintro e w' ⟨rfl, rfl⟩)
    | (go_at_call 21; refine (refValidCounts_any _ _ _ _ (HB.out.below (below_step hB1 hB2)) HD2.out).mono ?_; rintro e w' ⟨rfl, rfl⟩)
    | fail)
  have hL2 : ys2.length ≤ maxLen := by rw [hF1.out.1]; have := countsF_len b rs; have := HC1.out; omega
  refine (sameInts_same _ _ _ _ _ _ (hI1.ints.below hB2) hI2.ints hL2).mono ?_
  rintro e w' ⟨rfl, m, rfl⟩
  have hW2 : Below w.heap.size w (w2.drewN m) := below_drewN (below_step hB1 hB2) m
  generalize w2.drewN m = w3 at hW2 ⊢
  clear hL2 hI1 hI2 hF1 hF2 hB1 hB2
  go_wp2_with (first
    | (go_at_call 23; refine (readings_any _ _ _ _ _ (HB.out.below hW2) HD2.out).mono ?_; rintro e w4 ⟨A3, c3, xs, E3, rfl, hI3, hB3, hF3⟩)
    | (go_at_call 24; refine (refReadings_any _ _ _ _ _ (HB.out.below (below_step hW2 hB3)) HD2.out).mono ?_; rintro e w5 ⟨A4, c4, xs2, E4, rfl, hI4, hB4, hF4⟩; obtain rfl : xs2 = xs := (hF4.out.1.trans hF3.out.1.symm); obtain rfl : E4 = E3 := (hF4.out.2.trans hF3.out.2.symm))
    | fail)
  have hL3 : xs2.length ≤ maxLen := by rw [hF3.out.1]; have := readingsF_len b cs; have := HD2.out; omega
  refine (sameInts_same _ _ _ _ _ _ (hI3.ints.below hB4) hI4.ints hL3).mono ?_
  rintro e w' ⟨rfl, m2, rfl⟩
  have hW5 : Below w.heap.size w (w5.drewN m2) := below_drewN (below_step (below_step hW2 hB3) hB4) m2
  generalize w5.drewN m2 = w6 at hW5 ⊢
  clear hL3 hI3 hI4 hF3 hF4 hB3 hB4 hW2
  go_wp2_with (first
    | (go_at_call 25; refine (steps_any _ _ _ _ (HB.out.below hW5) HD.out HD1.out).mono ?_; rintro e w7 ⟨A5, c5, zs, E5, rfl, hI5, hB5, hF5⟩)
    | (go_at_call 26; refine (refSteps_any _ _ _ _ (HB.out.below (below_step hW5 hB5)) HD2.out).mono ?_; rintro e w8 ⟨A6, c6, zs2, E6, rfl, hI6, hB6, hF6⟩; obtain rfl : zs2 = zs := (hF6.out.1.trans hF5.out.1.symm); obtain rfl : E6 = E5 := (hF6.out.2.trans hF5.out.2.symm); have hW8 := below_step (below_step hW5 hB5) hB6)
    | (go_at_call 27; refine (rounds_any _ _ _ _ _ (HA.out.below hW8) HC1.out).mono ?_; rintro e w9 ⟨n1, E7, rfl, hB7, hF7⟩)
    | (go_at_call 28; refine (refRounds_any _ _ _ _ _ (HA.out.below (below_step hW8 hB7)) HC1.out).mono ?_; rintro e w10 ⟨n2, E8, rfl, hB8, hF8⟩; obtain rfl : n2 = n1 := (hF8.out.1.trans hF7.out.1.symm); obtain rfl : E8 = E7 := (hF8.out.2.trans hF7.out.2.symm))
    | fail)
  have hL5 : zs2.length ≤ maxLen := by rw [hF5.out.1]; have := stepsF_len cs; have := HD2.out; omega
  refine (sameInts_same _ _ _ _ _ _ ((hI5.ints.below hB6).below (hB7.trans (hB8.mono hB7.size))) (hI6.ints.below (hB7.trans (hB8.mono hB7.size))) hL5).mono ?_
  rintro e w' ⟨rfl, m3, rfl⟩
  have hW10 : Below w.heap.size w (w10.drewN m3) := below_drewN (below_step (below_step hW8 hB7) hB8) m3
  generalize w10.drewN m3 = w11 at hW10 ⊢
  clear hL5 hI5 hI6 hF5 hF6 hB5 hB6 hW5 hW8 hB7 hB8 hF7 hF8
  go_wp2_with (go_at_call 15; refine (awake_any _).mono ?_; rintro e w12 ⟨rfl, hW12⟩)
  go_ret
  exact ⟨rfl, below_step hW10 hW12⟩
end Go.Proofs.Ytjghlfagdleglaa
