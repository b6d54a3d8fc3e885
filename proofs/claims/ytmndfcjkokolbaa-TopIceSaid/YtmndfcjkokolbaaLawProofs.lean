/-
  The walk of IceProofs: it returns true, whatever it is given.
-/
import Derived.Test.YtmndfcjkokolbaaProofM
import Derived.Test.YtmndfcjkokolbaaRefLightW
namespace Go.Proofs.Ytmndfcjkokolbaa
open Go.RowKit Go.Shelf

theorem areRes_yes {ms : List (Int × Int)} {s : Int} {ps : List Int} {b : Bool} {E : Int} (h : AreRes ms s ps b E) (h0 : areE ms s ps = 0) (hD : DarkP (mtL ms) s ps) : b = true ∧ E = 0 := by
  obtain ⟨rfl, h⟩ := h
  rcases h with ⟨_, hk⟩ | ⟨h1, _⟩
  · exact ⟨hk.2 hD, h0⟩
  · exact absurd h0 h1
theorem areRes_no {ms : List (Int × Int)} {s : Int} {ps : List Int} {b : Bool} {E : Int} (h : AreRes ms s ps b E) (hD : ¬ DarkP (mtL ms) s ps) : b = false := by
  obtain ⟨rfl, h⟩ := h
  rcases h with ⟨_, hk⟩ | ⟨_, h1⟩
  · cases b with
    | false => rfl
    | true => exact absurd (hk.1 rfl) hD
  · exact h1
theorem areRes_err {ms : List (Int × Int)} {s : Int} {ps : List Int} {b : Bool} {E : Int} (h : AreRes ms s ps b E) (h0 : areE ms s ps ≠ 0) : b = false ∧ (E != 0) = true := by
  obtain ⟨rfl, h⟩ := h
  rcases h with ⟨h1, _⟩ | ⟨_, h1⟩
  · exact absurd h1 h0
  · exact ⟨h1, by simpa using h0⟩
theorem lightR_zero {ms : List (Int × Int)} {s : Int} {ns : List Int} (h : lightR ms s ns = true) : lightE ms s ns = 0 := by
  rcases Classical.em (lightE ms s ns = 0) with h0 | h0
  · exact h0
  · rw [lightR_no h0] at h; cases h

set_option maxRecDepth 100000 in
set_option maxHeartbeats 8000000 in
theorem iceProofs_walk (ms : List (Int × Int)) (A : Option Addr) (c : Nat) (s : Int) (D0 : Option Addr) (d0 : Nat) (ns : List Int) (D1 : Option Addr) (d1 : Nat) (ps : List Int) (w : World) (hA : Marks w A ms) (hc : ms.length ≤ c) (hc0 : c ≤ maxLen) (_hs : (Lit.int .i64 s).wf = true)
    (h0 : Ints w D0 ns) (_h0c : ns.length ≤ d0) (_h0m : d0 ≤ maxLen) (h1 : Ints w D1 ps) (_h1c : ps.length ≤ d1) (_h1m : d1 ≤ maxLen) :
    Calls Try.prog 12 #[.slice A ms.length c, .int .i64 s, .agg #[.slice D0 ns.length d0, .slice D1 ps.length d1]] w fun e w' => e = .returned (.bool true) ∧ Below w.heap.size w w' := by
  have H : Hid (Clk w A c ms) := ⟨hA, hc, hc0⟩
  have HN := Lib.hid h0
  have HP := Lib.hid h1
  clear hA hc hc0 _hs h0 _h0c _h0m h1 _h1c _h1m
  have hB0 : Below w.heap.size w (w.alloc (.cells #[.slice D0 ns.length d0, .slice D1 ps.length d1] 60)) := (by repeat (first | with_reducible exact Below.refl _ _ | with_reducible assumption | refine below_drewN ?_ _ | with_reducible refine Below.drew ?_ | (refine Below.setCell ?_ (by first | (simp; done) | (simp; omega) | omega) _) | (refine Below.alloc ?_ (by first | (simp; done) | (simp; omega) | omega) _)))
  by_cases hm : 60 < ms.length
  · have hm1 : decide (60 < ms.length) = true := decide_eq_true hm
    go_enter Try.func12, Try.ntmps12
    go_wp2_with (first
      | (go_at_call 17; refine (lawLong_any _ _ _ _).mono ?_; rintro e w' ⟨rfl, rfl⟩)
      | (go_at_call 18; refine (sane_any _).mono ?_; rintro e w' ⟨rfl, hW⟩))
    go_ret
    exact ⟨rfl, hB0.trans (hW.mono (by simp))⟩
  have hm1 : decide (60 < ms.length) = false := decide_eq_false hm
  clear hm
  cases hv : viB ms with
  | false =>
    go_enter Try.func12, Try.ntmps12
    go_wp2_with (first
      | (go_at_call 17; refine (lawLong_any _ _ _ _).mono ?_; rintro e w' ⟨rfl, rfl⟩)
      | (go_at_call 22; refine (refValid_any ms _ _ _ (H.out.below hB0).marks H.out.len).mono ?_; rintro e w1 ⟨rfl, n, rfl⟩)
      | (go_at_call 18; refine (sane_any _).mono ?_; rintro e w' ⟨rfl, hW⟩))
    go_ret
    exact ⟨rfl, Below.trans (below_drewN hB0 n) (hW.mono (by simp))⟩
  | true =>
  have HV := Lib.hid hv
  by_cases hn : 700 < (ns.length : Int)
  · have hn1 : decide (700 < (ns.length : Int)) = true := decide_eq_true hn
    go_enter Try.func12, Try.ntmps12
    go_wp2_with (first
      | (go_at_call 17; refine (lawLong_any _ _ _ _).mono ?_; rintro e w' ⟨rfl, rfl⟩)
      | (go_at_call 22; refine (refValid_any ms _ _ _ (H.out.below hB0).marks H.out.len).mono ?_; rintro e w1 ⟨rfl, n, rfl⟩)
      | (go_at_call 18; refine (sane_any _).mono ?_; rintro e w' ⟨rfl, hW⟩))
    go_ret
    exact ⟨rfl, Below.trans (below_drewN hB0 n) (hW.mono (by simp))⟩
  have hn1 : decide (700 < (ns.length : Int)) = false := decide_eq_false hn
  have hn2 : ns.length ≤ 700 := by omega
  clear hn
  by_cases hp : 700 < (ps.length : Int)
  · have hp1 : decide (700 < (ps.length : Int)) = true := decide_eq_true hp
    go_enter Try.func12, Try.ntmps12
    go_wp2_with (first
      | (go_at_call 17; refine (lawLong_any _ _ _ _).mono ?_; rintro e w' ⟨rfl, rfl⟩)
      | (go_at_call 22; refine (refValid_any ms _ _ _ (H.out.below hB0).marks H.out.len).mono ?_; rintro e w1 ⟨rfl, n, rfl⟩)
      | (go_at_call 18; refine (sane_any _).mono ?_; rintro e w' ⟨rfl, hW⟩))
    go_ret
    exact ⟨rfl, Below.trans (below_drewN hB0 n) (hW.mono (by simp))⟩
  have hp1 : decide (700 < (ps.length : Int)) = false := decide_eq_false hp
  have hp2 : ps.length ≤ 700 := by omega
  clear hp
  by_cases hE : lampsE ms s = 0
  · have HE := Lib.hid hE
    have PR := Lib.hid (proofs hE)
    clear hE
    cases hl : lightR ms s ns with
    | true =>
      have HL := Lib.hid hl
      clear hl
      by_cases ha : areE ms s ps = 0
      · by_cases hd : DarkP (mtL ms) s ps
        · have HAA := Lib.hid (And.intro ha hd)
          clear ha hd
          have TA : Hid True := Lib.hid trivial
          have TB : Hid True := Lib.hid trivial
          go_enter Try.func12, Try.ntmps12
          go_wp2_with (first
            | (go_at_call 17; refine (lawLong_any _ _ _ _).mono ?_; rintro e w' ⟨rfl, rfl⟩)
            | (go_at_call 22; refine (refValid_any ms _ _ _ (H.out.below hB0).marks H.out.len).mono ?_; rintro e w1 ⟨rfl, n, rfl⟩; have hW1 := below_drewN hB0 n)
            | (go_at_call 37; refine (iceLamps_any ms _ _ s _ (H.out.below hW1)).mono ?_; rintro e w2 ⟨A2, c2, xs, E2, rfl, hO2, hB2, hF2⟩; obtain rfl : E2 = 0 := hF2.out.2.trans HE.out; have hz2 := hB2.size; simp at hz2; have k2 : w.heap.size < w2.heap.size := (by omega); have hW2 : Below w.heap.size w w2 := Below.trans hW1 (hB2.mono (by simp)); have b0 := (hB2.cell (p := ⟨w.heap.size, 0, none⟩) (by simp)).trans (show World.cell? _ _ = some (.slice D0 ns.length d0) by go_simp); have b1 := (hB2.cell (p := ⟨w.heap.size, 1, none⟩) (by simp)).trans (show World.cell? _ _ = some (.slice D1 ps.length d1) by go_simp); have HO2 := Lib.hid hO2; clear hB2 hO2)
            | (go_at_call 42; refine (iceDark_any ms _ _ s _ (H.out.below hW2)).mono ?_; rintro e w3 ⟨A3, c3, ys, E3, rfl, hO3, hB3, hF3⟩; obtain rfl : E3 = 0 := hF3.out.2.trans HE.out; have LX : Hid (xs = lampsL ms s ∧ ys = darkL ms s) := Lib.hid (And.intro hF2.out.1 hF3.out.1); have hxy : xs.length = ys.length := (by rw [LX.out.1, LX.out.2]; exact PR.out.2.2.2.2.1); have PX : Hid (xs.length ≤ 600 ∧ ys.length ≤ 600) := Lib.hid (by have := PR.out.2.2.2.2.2.2.1; rw [← LX.out.1] at this; omega); have v1 : ((xs.length : Int) != (ys.length : Int)) = false := (by simp; omega); have v2 : (xs.length != ys.length) = false := (by simp; omega); have HXY := Lib.hid hxy; clear hxy hF2 hF3; have k3 : w.heap.size < w3.heap.size := (Nat.lt_of_lt_of_le k2 hB3.size); have b0 := (hB3.cell (p := ⟨w.heap.size, 0, none⟩) k2).trans b0; have b1 := (hB3.cell (p := ⟨w.heap.size, 1, none⟩) k2).trans b1; have hW3 := below_step hW2 hB3; have HO2 := Lib.hid (HO2.out.below hB3); have HO3 := Lib.hid hO3; clear hB3 hO3)
            | (go_at_call 39; clear TA; refine (iceLight_any ms _ _ s ns _ _ _ (H.out.below hW3) (HN.out.below hW3) hn2).mono ?_; rintro e w4 ⟨bL, EL, rfl, hB4, hF4⟩; obtain rfl : bL = true := hF4.out.1.trans HL.out; obtain rfl : EL = 0 := hF4.out.2.trans (lightR_zero HL.out); have k4 : w.heap.size < w4.heap.size := (Nat.lt_of_lt_of_le k3 hB4.size); have b0 := (hB4.cell (p := ⟨w.heap.size, 0, none⟩) k3).trans b0; have b1 := (hB4.cell (p := ⟨w.heap.size, 1, none⟩) k3).trans b1; have hW4 := below_step hW3 hB4; have HO2 := Lib.hid (HO2.out.below hB4); have HO3 := Lib.hid (HO3.out.below hB4); clear hB4 hF4)
            | (go_at_call 44; clear TB; refine (iceAreDark_any ms _ _ s ps _ _ _ (H.out.below hW4) (HP.out.below hW4) hp2).mono ?_; rintro e w5 ⟨bA, EA, rfl, hB5, hF5⟩; have h5 := areRes_yes hF5.out HAA.out.1 HAA.out.2; obtain ⟨rfl, rfl⟩ := h5; have k5 : w.heap.size < w5.heap.size := (Nat.lt_of_lt_of_le k4 hB5.size); have b0 := (hB5.cell (p := ⟨w.heap.size, 0, none⟩) k4).trans b0; have b1 := (hB5.cell (p := ⟨w.heap.size, 1, none⟩) k4).trans b1; have hW5 := below_step hW4 hB5; have HO2 := Lib.hid (HO2.out.below hB5); have HO3 := Lib.hid (HO3.out.below hB5); clear hB5 hF5)
            | (go_at_call 39; refine (iceLight_any ms _ _ s xs _ _ _ (H.out.below hW5) HO2.out.ints (by have := PX.out; omega)).mono ?_; rintro e w6 ⟨b6, E6, rfl, hB6, hF6⟩; obtain rfl : b6 = true := hF6.out.1.trans (by rw [LX.out.1]; exact PR.out.2.1); obtain rfl : E6 = 0 := hF6.out.2.trans (by rw [LX.out.1]; exact PR.out.1); have k6 : w.heap.size < w6.heap.size := (Nat.lt_of_lt_of_le k5 hB6.size); have b0 := (hB6.cell (p := ⟨w.heap.size, 0, none⟩) k5).trans b0; have b1 := (hB6.cell (p := ⟨w.heap.size, 1, none⟩) k5).trans b1; have hW6 := below_step hW5 hB6; have HO3 := Lib.hid (HO3.out.below hB6); clear hB6 hF6)
            | (go_at_call 44; refine (iceAreDark_any ms _ _ s ys _ _ _ (H.out.below hW6) HO3.out.ints (by have := PX.out; omega)).mono ?_; rintro e w7 ⟨b7, E7, rfl, hB7, hF7⟩; have h7 := areRes_yes hF7.out (by rw [LX.out.2]; exact PR.out.2.2.1) (by rw [LX.out.2]; exact PR.out.2.2.2.1); obtain ⟨rfl, rfl⟩ := h7; have b0 := (hB7.cell (p := ⟨w.heap.size, 0, none⟩) k6).trans b0; have b1 := (hB7.cell (p := ⟨w.heap.size, 1, none⟩) k6).trans b1; have hW7 := below_step hW6 hB7; clear hB7 hF7; have u1 : decide ((ys.length : Int) ≤ (ns.length : Int)) = true := decide_eq_true (by have := duality HL.out PR.out.2.2.1 PR.out.2.2.2.1; rw [← LX.out.2] at this; omega); have u1n : ys.length ≤ ns.length := (by have := of_decide_eq_true u1; omega); have u2 : decide ((ps.length : Int) ≤ (xs.length : Int)) = true := decide_eq_true (by have := duality PR.out.2.1 HAA.out.1 HAA.out.2; rw [← LX.out.1] at this; omega); have u2n : ps.length ≤ xs.length := (by have := of_decide_eq_true u2; omega); have u3 : decide ((ps.length : Int) ≤ (ns.length : Int)) = true := decide_eq_true (by have := duality HL.out HAA.out.1 HAA.out.2; omega); have u3n : ps.length ≤ ns.length := (by have := of_decide_eq_true u3; omega))
            | (go_at_call 18; refine (sane_any _).mono ?_; rintro e w9 ⟨rfl, hB9⟩)
            | fail)
          go_ret
          exact ⟨rfl, below_step hW7 hB9⟩
        · have HAA := Lib.hid (And.intro ha hd)
          clear ha hd
          have TA : Hid True := Lib.hid trivial
          have TB : Hid True := Lib.hid trivial
          go_enter Try.func12, Try.ntmps12
          go_wp2_with (first
            | (go_at_call 17; refine (lawLong_any _ _ _ _).mono ?_; rintro e w' ⟨rfl, rfl⟩)
            | (go_at_call 22; refine (refValid_any ms _ _ _ (H.out.below hB0).marks H.out.len).mono ?_; rintro e w1 ⟨rfl, n, rfl⟩; have hW1 := below_drewN hB0 n)
            | (go_at_call 37; refine (iceLamps_any ms _ _ s _ (H.out.below hW1)).mono ?_; rintro e w2 ⟨A2, c2, xs, E2, rfl, hO2, hB2, hF2⟩; obtain rfl : E2 = 0 := hF2.out.2.trans HE.out; have hz2 := hB2.size; simp at hz2; have k2 : w.heap.size < w2.heap.size := (by omega); have hW2 : Below w.heap.size w w2 := Below.trans hW1 (hB2.mono (by simp)); have b0 := (hB2.cell (p := ⟨w.heap.size, 0, none⟩) (by simp)).trans (show World.cell? _ _ = some (.slice D0 ns.length d0) by go_simp); have b1 := (hB2.cell (p := ⟨w.heap.size, 1, none⟩) (by simp)).trans (show World.cell? _ _ = some (.slice D1 ps.length d1) by go_simp); have HO2 := Lib.hid hO2; clear hB2 hO2)
            | (go_at_call 42; refine (iceDark_any ms _ _ s _ (H.out.below hW2)).mono ?_; rintro e w3 ⟨A3, c3, ys, E3, rfl, hO3, hB3, hF3⟩; obtain rfl : E3 = 0 := hF3.out.2.trans HE.out; have LX : Hid (xs = lampsL ms s ∧ ys = darkL ms s) := Lib.hid (And.intro hF2.out.1 hF3.out.1); have hxy : xs.length = ys.length := (by rw [LX.out.1, LX.out.2]; exact PR.out.2.2.2.2.1); have PX : Hid (xs.length ≤ 600 ∧ ys.length ≤ 600) := Lib.hid (by have := PR.out.2.2.2.2.2.2.1; rw [← LX.out.1] at this; omega); have v1 : ((xs.length : Int) != (ys.length : Int)) = false := (by simp; omega); have v2 : (xs.length != ys.length) = false := (by simp; omega); have HXY := Lib.hid hxy; clear hxy hF2 hF3; have k3 : w.heap.size < w3.heap.size := (Nat.lt_of_lt_of_le k2 hB3.size); have b0 := (hB3.cell (p := ⟨w.heap.size, 0, none⟩) k2).trans b0; have b1 := (hB3.cell (p := ⟨w.heap.size, 1, none⟩) k2).trans b1; have hW3 := below_step hW2 hB3; have HO2 := Lib.hid (HO2.out.below hB3); have HO3 := Lib.hid hO3; clear hB3 hO3)
            | (go_at_call 39; clear TA; refine (iceLight_any ms _ _ s ns _ _ _ (H.out.below hW3) (HN.out.below hW3) hn2).mono ?_; rintro e w4 ⟨bL, EL, rfl, hB4, hF4⟩; obtain rfl : bL = true := hF4.out.1.trans HL.out; obtain rfl : EL = 0 := hF4.out.2.trans (lightR_zero HL.out); have k4 : w.heap.size < w4.heap.size := (Nat.lt_of_lt_of_le k3 hB4.size); have b0 := (hB4.cell (p := ⟨w.heap.size, 0, none⟩) k3).trans b0; have b1 := (hB4.cell (p := ⟨w.heap.size, 1, none⟩) k3).trans b1; have hW4 := below_step hW3 hB4; have HO2 := Lib.hid (HO2.out.below hB4); have HO3 := Lib.hid (HO3.out.below hB4); clear hB4 hF4)
            | (go_at_call 44; clear TB; refine (iceAreDark_any ms _ _ s ps _ _ _ (H.out.below hW4) (HP.out.below hW4) hp2).mono ?_; rintro e w5 ⟨bA, EA, rfl, hB5, hF5⟩; obtain rfl : bA = false := areRes_no hF5.out HAA.out.2; obtain rfl : EA = 0 := hF5.out.1.trans HAA.out.1; have k5 : w.heap.size < w5.heap.size := (Nat.lt_of_lt_of_le k4 hB5.size); have b0 := (hB5.cell (p := ⟨w.heap.size, 0, none⟩) k4).trans b0; have b1 := (hB5.cell (p := ⟨w.heap.size, 1, none⟩) k4).trans b1; have hW5 := below_step hW4 hB5; have HO2 := Lib.hid (HO2.out.below hB5); have HO3 := Lib.hid (HO3.out.below hB5); clear hB5 hF5)
            | (go_at_call 39; refine (iceLight_any ms _ _ s xs _ _ _ (H.out.below hW5) HO2.out.ints (by have := PX.out; omega)).mono ?_; rintro e w6 ⟨b6, E6, rfl, hB6, hF6⟩; obtain rfl : b6 = true := hF6.out.1.trans (by rw [LX.out.1]; exact PR.out.2.1); obtain rfl : E6 = 0 := hF6.out.2.trans (by rw [LX.out.1]; exact PR.out.1); have k6 : w.heap.size < w6.heap.size := (Nat.lt_of_lt_of_le k5 hB6.size); have b0 := (hB6.cell (p := ⟨w.heap.size, 0, none⟩) k5).trans b0; have b1 := (hB6.cell (p := ⟨w.heap.size, 1, none⟩) k5).trans b1; have hW6 := below_step hW5 hB6; have HO3 := Lib.hid (HO3.out.below hB6); clear hB6 hF6)
            | (go_at_call 44; refine (iceAreDark_any ms _ _ s ys _ _ _ (H.out.below hW6) HO3.out.ints (by have := PX.out; omega)).mono ?_; rintro e w7 ⟨b7, E7, rfl, hB7, hF7⟩; have h7 := areRes_yes hF7.out (by rw [LX.out.2]; exact PR.out.2.2.1) (by rw [LX.out.2]; exact PR.out.2.2.2.1); obtain ⟨rfl, rfl⟩ := h7; have b0 := (hB7.cell (p := ⟨w.heap.size, 0, none⟩) k6).trans b0; have b1 := (hB7.cell (p := ⟨w.heap.size, 1, none⟩) k6).trans b1; have hW7 := below_step hW6 hB7; clear hB7 hF7; have u1 : decide ((ys.length : Int) ≤ (ns.length : Int)) = true := decide_eq_true (by have := duality HL.out PR.out.2.2.1 PR.out.2.2.2.1; rw [← LX.out.2] at this; omega); have u1n : ys.length ≤ ns.length := (by have := of_decide_eq_true u1; omega))
            | (go_at_call 18; refine (sane_any _).mono ?_; rintro e w9 ⟨rfl, hB9⟩)
            | fail)
          go_ret
          exact ⟨rfl, below_step hW7 hB9⟩
      · have HAA := Lib.hid ha
        clear ha
        have TA : Hid True := Lib.hid trivial
        have TB : Hid True := Lib.hid trivial
        go_enter Try.func12, Try.ntmps12
        go_wp2_with (first
          | (go_at_call 17; refine (lawLong_any _ _ _ _).mono ?_; rintro e w' ⟨rfl, rfl⟩)
          | (go_at_call 22; refine (refValid_any ms _ _ _ (H.out.below hB0).marks H.out.len).mono ?_; rintro e w1 ⟨rfl, n, rfl⟩; have hW1 := below_drewN hB0 n)
          | (go_at_call 37; refine (iceLamps_any ms _ _ s _ (H.out.below hW1)).mono ?_; rintro e w2 ⟨A2, c2, xs, E2, rfl, hO2, hB2, hF2⟩; obtain rfl : E2 = 0 := hF2.out.2.trans HE.out; have hz2 := hB2.size; simp at hz2; have k2 : w.heap.size < w2.heap.size := (by omega); have hW2 : Below w.heap.size w w2 := Below.trans hW1 (hB2.mono (by simp)); have b0 := (hB2.cell (p := ⟨w.heap.size, 0, none⟩) (by simp)).trans (show World.cell? _ _ = some (.slice D0 ns.length d0) by go_simp); have b1 := (hB2.cell (p := ⟨w.heap.size, 1, none⟩) (by simp)).trans (show World.cell? _ _ = some (.slice D1 ps.length d1) by go_simp); have HO2 := Lib.hid hO2; clear hB2 hO2)
          | (go_at_call 42; refine (iceDark_any ms _ _ s _ (H.out.below hW2)).mono ?_; rintro e w3 ⟨A3, c3, ys, E3, rfl, hO3, hB3, hF3⟩; obtain rfl : E3 = 0 := hF3.out.2.trans HE.out; have LX : Hid (xs = lampsL ms s ∧ ys = darkL ms s) := Lib.hid (And.intro hF2.out.1 hF3.out.1); have hxy : xs.length = ys.length := (by rw [LX.out.1, LX.out.2]; exact PR.out.2.2.2.2.1); have PX : Hid (xs.length ≤ 600 ∧ ys.length ≤ 600) := Lib.hid (by have := PR.out.2.2.2.2.2.2.1; rw [← LX.out.1] at this; omega); have v1 : ((xs.length : Int) != (ys.length : Int)) = false := (by simp; omega); have v2 : (xs.length != ys.length) = false := (by simp; omega); have HXY := Lib.hid hxy; clear hxy hF2 hF3; have k3 : w.heap.size < w3.heap.size := (Nat.lt_of_lt_of_le k2 hB3.size); have b0 := (hB3.cell (p := ⟨w.heap.size, 0, none⟩) k2).trans b0; have b1 := (hB3.cell (p := ⟨w.heap.size, 1, none⟩) k2).trans b1; have hW3 := below_step hW2 hB3; have HO2 := Lib.hid (HO2.out.below hB3); have HO3 := Lib.hid hO3; clear hB3 hO3)
          | (go_at_call 39; clear TA; refine (iceLight_any ms _ _ s ns _ _ _ (H.out.below hW3) (HN.out.below hW3) hn2).mono ?_; rintro e w4 ⟨bL, EL, rfl, hB4, hF4⟩; obtain rfl : bL = true := hF4.out.1.trans HL.out; obtain rfl : EL = 0 := hF4.out.2.trans (lightR_zero HL.out); have k4 : w.heap.size < w4.heap.size := (Nat.lt_of_lt_of_le k3 hB4.size); have b0 := (hB4.cell (p := ⟨w.heap.size, 0, none⟩) k3).trans b0; have b1 := (hB4.cell (p := ⟨w.heap.size, 1, none⟩) k3).trans b1; have hW4 := below_step hW3 hB4; have HO2 := Lib.hid (HO2.out.below hB4); have HO3 := Lib.hid (HO3.out.below hB4); clear hB4 hF4)
          | (go_at_call 44; clear TB; refine (iceAreDark_any ms _ _ s ps _ _ _ (H.out.below hW4) (HP.out.below hW4) hp2).mono ?_; rintro e w5 ⟨bA, EA, rfl, hB5, hF5⟩; have h5 := areRes_err hF5.out HAA.out; obtain ⟨rfl, g5⟩ := h5; have k5 : w.heap.size < w5.heap.size := (Nat.lt_of_lt_of_le k4 hB5.size); have b0 := (hB5.cell (p := ⟨w.heap.size, 0, none⟩) k4).trans b0; have b1 := (hB5.cell (p := ⟨w.heap.size, 1, none⟩) k4).trans b1; have hW5 := below_step hW4 hB5; have HO2 := Lib.hid (HO2.out.below hB5); have HO3 := Lib.hid (HO3.out.below hB5); clear hB5 hF5)
          | (go_at_call 39; refine (iceLight_any ms _ _ s xs _ _ _ (H.out.below hW5) HO2.out.ints (by have := PX.out; omega)).mono ?_; rintro e w6 ⟨b6, E6, rfl, hB6, hF6⟩; obtain rfl : b6 = true := hF6.out.1.trans (by rw [LX.out.1]; exact PR.out.2.1); obtain rfl : E6 = 0 := hF6.out.2.trans (by rw [LX.out.1]; exact PR.out.1); have k6 : w.heap.size < w6.heap.size := (Nat.lt_of_lt_of_le k5 hB6.size); have b0 := (hB6.cell (p := ⟨w.heap.size, 0, none⟩) k5).trans b0; have b1 := (hB6.cell (p := ⟨w.heap.size, 1, none⟩) k5).trans b1; have hW6 := below_step hW5 hB6; have HO3 := Lib.hid (HO3.out.below hB6); clear hB6 hF6)
          | (go_at_call 44; refine (iceAreDark_any ms _ _ s ys _ _ _ (H.out.below hW6) HO3.out.ints (by have := PX.out; omega)).mono ?_; rintro e w7 ⟨b7, E7, rfl, hB7, hF7⟩; have h7 := areRes_yes hF7.out (by rw [LX.out.2]; exact PR.out.2.2.1) (by rw [LX.out.2]; exact PR.out.2.2.2.1); obtain ⟨rfl, rfl⟩ := h7; have b0 := (hB7.cell (p := ⟨w.heap.size, 0, none⟩) k6).trans b0; have b1 := (hB7.cell (p := ⟨w.heap.size, 1, none⟩) k6).trans b1; have hW7 := below_step hW6 hB7; clear hB7 hF7; have u1 : decide ((ys.length : Int) ≤ (ns.length : Int)) = true := decide_eq_true (by have := duality HL.out PR.out.2.2.1 PR.out.2.2.2.1; rw [← LX.out.2] at this; omega); have u1n : ys.length ≤ ns.length := (by have := of_decide_eq_true u1; omega))
          | (go_at_call 18; refine (sane_any _).mono ?_; rintro e w9 ⟨rfl, hB9⟩)
          | fail)
        go_ret
        exact ⟨rfl, below_step hW7 hB9⟩
    | false =>
      by_cases hl0 : lightE ms s ns = 0
      · have HL := Lib.hid (And.intro hl hl0)
        clear hl hl0
        by_cases ha : areE ms s ps = 0
        · by_cases hd : DarkP (mtL ms) s ps
          · have HAA := Lib.hid (And.intro ha hd)
            clear ha hd
            have TA : Hid True := Lib.hid trivial
            have TB : Hid True := Lib.hid trivial
            go_enter Try.func12, Try.ntmps12
            go_wp2_with (first
              | (go_at_call 17; refine (lawLong_any _ _ _ _).mono ?_; rintro e w' ⟨rfl, rfl⟩)
              | (go_at_call 22; refine (refValid_any ms _ _ _ (H.out.below hB0).marks H.out.len).mono ?_; rintro e w1 ⟨rfl, n, rfl⟩; have hW1 := below_drewN hB0 n)
              | (go_at_call 37; refine (iceLamps_any ms _ _ s _ (H.out.below hW1)).mono ?_; rintro e w2 ⟨A2, c2, xs, E2, rfl, hO2, hB2, hF2⟩; obtain rfl : E2 = 0 := hF2.out.2.trans HE.out; have hz2 := hB2.size; simp at hz2; have k2 : w.heap.size < w2.heap.size := (by omega); have hW2 : Below w.heap.size w w2 := Below.trans hW1 (hB2.mono (by simp)); have b0 := (hB2.cell (p := ⟨w.heap.size, 0, none⟩) (by simp)).trans (show World.cell? _ _ = some (.slice D0 ns.length d0) by go_simp); have b1 := (hB2.cell (p := ⟨w.heap.size, 1, none⟩) (by simp)).trans (show World.cell? _ _ = some (.slice D1 ps.length d1) by go_simp); have HO2 := Lib.hid hO2; clear hB2 hO2)
              | (go_at_call 42; refine (iceDark_any ms _ _ s _ (H.out.below hW2)).mono ?_; rintro e w3 ⟨A3, c3, ys, E3, rfl, hO3, hB3, hF3⟩; obtain rfl : E3 = 0 := hF3.out.2.trans HE.out; have LX : Hid (xs = lampsL ms s ∧ ys = darkL ms s) := Lib.hid (And.intro hF2.out.1 hF3.out.1); have hxy : xs.length = ys.length := (by rw [LX.out.1, LX.out.2]; exact PR.out.2.2.2.2.1); have PX : Hid (xs.length ≤ 600 ∧ ys.length ≤ 600) := Lib.hid (by have := PR.out.2.2.2.2.2.2.1; rw [← LX.out.1] at this; omega); have v1 : ((xs.length : Int) != (ys.length : Int)) = false := (by simp; omega); have v2 : (xs.length != ys.length) = false := (by simp; omega); have HXY := Lib.hid hxy; clear hxy hF2 hF3; have k3 : w.heap.size < w3.heap.size := (Nat.lt_of_lt_of_le k2 hB3.size); have b0 := (hB3.cell (p := ⟨w.heap.size, 0, none⟩) k2).trans b0; have b1 := (hB3.cell (p := ⟨w.heap.size, 1, none⟩) k2).trans b1; have hW3 := below_step hW2 hB3; have HO2 := Lib.hid (HO2.out.below hB3); have HO3 := Lib.hid hO3; clear hB3 hO3)
              | (go_at_call 39; clear TA; refine (iceLight_any ms _ _ s ns _ _ _ (H.out.below hW3) (HN.out.below hW3) hn2).mono ?_; rintro e w4 ⟨bL, EL, rfl, hB4, hF4⟩; obtain rfl : bL = false := hF4.out.1.trans HL.out.1; obtain rfl : EL = 0 := hF4.out.2.trans HL.out.2; have k4 : w.heap.size < w4.heap.size := (Nat.lt_of_lt_of_le k3 hB4.size); have b0 := (hB4.cell (p := ⟨w.heap.size, 0, none⟩) k3).trans b0; have b1 := (hB4.cell (p := ⟨w.heap.size, 1, none⟩) k3).trans b1; have hW4 := below_step hW3 hB4; have HO2 := Lib.hid (HO2.out.below hB4); have HO3 := Lib.hid (HO3.out.below hB4); clear hB4 hF4)
              | (go_at_call 44; clear TB; refine (iceAreDark_any ms _ _ s ps _ _ _ (H.out.below hW4) (HP.out.below hW4) hp2).mono ?_; rintro e w5 ⟨bA, EA, rfl, hB5, hF5⟩; have h5 := areRes_yes hF5.out HAA.out.1 HAA.out.2; obtain ⟨rfl, rfl⟩ := h5; have k5 : w.heap.size < w5.heap.size := (Nat.lt_of_lt_of_le k4 hB5.size); have b0 := (hB5.cell (p := ⟨w.heap.size, 0, none⟩) k4).trans b0; have b1 := (hB5.cell (p := ⟨w.heap.size, 1, none⟩) k4).trans b1; have hW5 := below_step hW4 hB5; have HO2 := Lib.hid (HO2.out.below hB5); have HO3 := Lib.hid (HO3.out.below hB5); clear hB5 hF5)
              | (go_at_call 39; refine (iceLight_any ms _ _ s xs _ _ _ (H.out.below hW5) HO2.out.ints (by have := PX.out; omega)).mono ?_; rintro e w6 ⟨b6, E6, rfl, hB6, hF6⟩; obtain rfl : b6 = true := hF6.out.1.trans (by rw [LX.out.1]; exact PR.out.2.1); obtain rfl : E6 = 0 := hF6.out.2.trans (by rw [LX.out.1]; exact PR.out.1); have k6 : w.heap.size < w6.heap.size := (Nat.lt_of_lt_of_le k5 hB6.size); have b0 := (hB6.cell (p := ⟨w.heap.size, 0, none⟩) k5).trans b0; have b1 := (hB6.cell (p := ⟨w.heap.size, 1, none⟩) k5).trans b1; have hW6 := below_step hW5 hB6; have HO3 := Lib.hid (HO3.out.below hB6); clear hB6 hF6)
              | (go_at_call 44; refine (iceAreDark_any ms _ _ s ys _ _ _ (H.out.below hW6) HO3.out.ints (by have := PX.out; omega)).mono ?_; rintro e w7 ⟨b7, E7, rfl, hB7, hF7⟩; have h7 := areRes_yes hF7.out (by rw [LX.out.2]; exact PR.out.2.2.1) (by rw [LX.out.2]; exact PR.out.2.2.2.1); obtain ⟨rfl, rfl⟩ := h7; have b0 := (hB7.cell (p := ⟨w.heap.size, 0, none⟩) k6).trans b0; have b1 := (hB7.cell (p := ⟨w.heap.size, 1, none⟩) k6).trans b1; have hW7 := below_step hW6 hB7; clear hB7 hF7; have u2 : decide ((ps.length : Int) ≤ (xs.length : Int)) = true := decide_eq_true (by have := duality PR.out.2.1 HAA.out.1 HAA.out.2; rw [← LX.out.1] at this; omega); have u2n : ps.length ≤ xs.length := (by have := of_decide_eq_true u2; omega))
              | (go_at_call 18; refine (sane_any _).mono ?_; rintro e w9 ⟨rfl, hB9⟩)
              | fail)
            go_ret
            exact ⟨rfl, below_step hW7 hB9⟩
          · have HAA := Lib.hid (And.intro ha hd)
            clear ha hd
            have TA : Hid True := Lib.hid trivial
            have TB : Hid True := Lib.hid trivial
            go_enter Try.func12, Try.ntmps12
            go_wp2_with (first
              | (go_at_call 17; refine (lawLong_any _ _ _ _).mono ?_; rintro e w' ⟨rfl, rfl⟩)
              | (go_at_call 22; refine (refValid_any ms _ _ _ (H.out.below hB0).marks H.out.len).mono ?_; rintro e w1 ⟨rfl, n, rfl⟩; have hW1 := below_drewN hB0 n)
              | (go_at_call 37; refine (iceLamps_any ms _ _ s _ (H.out.below hW1)).mono ?_; rintro e w2 ⟨A2, c2, xs, E2, rfl, hO2, hB2, hF2⟩; obtain rfl : E2 = 0 := hF2.out.2.trans HE.out; have hz2 := hB2.size; simp at hz2; have k2 : w.heap.size < w2.heap.size := (by omega); have hW2 : Below w.heap.size w w2 := Below.trans hW1 (hB2.mono (by simp)); have b0 := (hB2.cell (p := ⟨w.heap.size, 0, none⟩) (by simp)).trans (show World.cell? _ _ = some (.slice D0 ns.length d0) by go_simp); have b1 := (hB2.cell (p := ⟨w.heap.size, 1, none⟩) (by simp)).trans (show World.cell? _ _ = some (.slice D1 ps.length d1) by go_simp); have HO2 := Lib.hid hO2; clear hB2 hO2)
              | (go_at_call 42; refine (iceDark_any ms _ _ s _ (H.out.below hW2)).mono ?_; rintro e w3 ⟨A3, c3, ys, E3, rfl, hO3, hB3, hF3⟩; obtain rfl : E3 = 0 := hF3.out.2.trans HE.out; have LX : Hid (xs = lampsL ms s ∧ ys = darkL ms s) := Lib.hid (And.intro hF2.out.1 hF3.out.1); have hxy : xs.length = ys.length := (by rw [LX.out.1, LX.out.2]; exact PR.out.2.2.2.2.1); have PX : Hid (xs.length ≤ 600 ∧ ys.length ≤ 600) := Lib.hid (by have := PR.out.2.2.2.2.2.2.1; rw [← LX.out.1] at this; omega); have v1 : ((xs.length : Int) != (ys.length : Int)) = false := (by simp; omega); have v2 : (xs.length != ys.length) = false := (by simp; omega); have HXY := Lib.hid hxy; clear hxy hF2 hF3; have k3 : w.heap.size < w3.heap.size := (Nat.lt_of_lt_of_le k2 hB3.size); have b0 := (hB3.cell (p := ⟨w.heap.size, 0, none⟩) k2).trans b0; have b1 := (hB3.cell (p := ⟨w.heap.size, 1, none⟩) k2).trans b1; have hW3 := below_step hW2 hB3; have HO2 := Lib.hid (HO2.out.below hB3); have HO3 := Lib.hid hO3; clear hB3 hO3)
              | (go_at_call 39; clear TA; refine (iceLight_any ms _ _ s ns _ _ _ (H.out.below hW3) (HN.out.below hW3) hn2).mono ?_; rintro e w4 ⟨bL, EL, rfl, hB4, hF4⟩; obtain rfl : bL = false := hF4.out.1.trans HL.out.1; obtain rfl : EL = 0 := hF4.out.2.trans HL.out.2; have k4 : w.heap.size < w4.heap.size := (Nat.lt_of_lt_of_le k3 hB4.size); have b0 := (hB4.cell (p := ⟨w.heap.size, 0, none⟩) k3).trans b0; have b1 := (hB4.cell (p := ⟨w.heap.size, 1, none⟩) k3).trans b1; have hW4 := below_step hW3 hB4; have HO2 := Lib.hid (HO2.out.below hB4); have HO3 := Lib.hid (HO3.out.below hB4); clear hB4 hF4)
              | (go_at_call 44; clear TB; refine (iceAreDark_any ms _ _ s ps _ _ _ (H.out.below hW4) (HP.out.below hW4) hp2).mono ?_; rintro e w5 ⟨bA, EA, rfl, hB5, hF5⟩; obtain rfl : bA = false := areRes_no hF5.out HAA.out.2; obtain rfl : EA = 0 := hF5.out.1.trans HAA.out.1; have k5 : w.heap.size < w5.heap.size := (Nat.lt_of_lt_of_le k4 hB5.size); have b0 := (hB5.cell (p := ⟨w.heap.size, 0, none⟩) k4).trans b0; have b1 := (hB5.cell (p := ⟨w.heap.size, 1, none⟩) k4).trans b1; have hW5 := below_step hW4 hB5; have HO2 := Lib.hid (HO2.out.below hB5); have HO3 := Lib.hid (HO3.out.below hB5); clear hB5 hF5)
              | (go_at_call 39; refine (iceLight_any ms _ _ s xs _ _ _ (H.out.below hW5) HO2.out.ints (by have := PX.out; omega)).mono ?_; rintro e w6 ⟨b6, E6, rfl, hB6, hF6⟩; obtain rfl : b6 = true := hF6.out.1.trans (by rw [LX.out.1]; exact PR.out.2.1); obtain rfl : E6 = 0 := hF6.out.2.trans (by rw [LX.out.1]; exact PR.out.1); have k6 : w.heap.size < w6.heap.size := (Nat.lt_of_lt_of_le k5 hB6.size); have b0 := (hB6.cell (p := ⟨w.heap.size, 0, none⟩) k5).trans b0; have b1 := (hB6.cell (p := ⟨w.heap.size, 1, none⟩) k5).trans b1; have hW6 := below_step hW5 hB6; have HO3 := Lib.hid (HO3.out.below hB6); clear hB6 hF6)
              | (go_at_call 44; refine (iceAreDark_any ms _ _ s ys _ _ _ (H.out.below hW6) HO3.out.ints (by have := PX.out; omega)).mono ?_; rintro e w7 ⟨b7, E7, rfl, hB7, hF7⟩; have h7 := areRes_yes hF7.out (by rw [LX.out.2]; exact PR.out.2.2.1) (by rw [LX.out.2]; exact PR.out.2.2.2.1); obtain ⟨rfl, rfl⟩ := h7; have b0 := (hB7.cell (p := ⟨w.heap.size, 0, none⟩) k6).trans b0; have b1 := (hB7.cell (p := ⟨w.heap.size, 1, none⟩) k6).trans b1; have hW7 := below_step hW6 hB7; clear hB7 hF7; skip)
              | (go_at_call 18; refine (sane_any _).mono ?_; rintro e w9 ⟨rfl, hB9⟩)
              | fail)
            go_ret
            exact ⟨rfl, below_step hW7 hB9⟩
        · have HAA := Lib.hid ha
          clear ha
          have TA : Hid True := Lib.hid trivial
          have TB : Hid True := Lib.hid trivial
          go_enter Try.func12, Try.ntmps12
          go_wp2_with (first
            | (go_at_call 17; refine (lawLong_any _ _ _ _).mono ?_; rintro e w' ⟨rfl, rfl⟩)
            | (go_at_call 22; refine (refValid_any ms _ _ _ (H.out.below hB0).marks H.out.len).mono ?_; rintro e w1 ⟨rfl, n, rfl⟩; have hW1 := below_drewN hB0 n)
            | (go_at_call 37; refine (iceLamps_any ms _ _ s _ (H.out.below hW1)).mono ?_; rintro e w2 ⟨A2, c2, xs, E2, rfl, hO2, hB2, hF2⟩; obtain rfl : E2 = 0 := hF2.out.2.trans HE.out; have hz2 := hB2.size; simp at hz2; have k2 : w.heap.size < w2.heap.size := (by omega); have hW2 : Below w.heap.size w w2 := Below.trans hW1 (hB2.mono (by simp)); have b0 := (hB2.cell (p := ⟨w.heap.size, 0, none⟩) (by simp)).trans (show World.cell? _ _ = some (.slice D0 ns.length d0) by go_simp); have b1 := (hB2.cell (p := ⟨w.heap.size, 1, none⟩) (by simp)).trans (show World.cell? _ _ = some (.slice D1 ps.length d1) by go_simp); have HO2 := Lib.hid hO2; clear hB2 hO2)
            | (go_at_call 42; refine (iceDark_any ms _ _ s _ (H.out.below hW2)).mono ?_; rintro e w3 ⟨A3, c3, ys, E3, rfl, hO3, hB3, hF3⟩; obtain rfl : E3 = 0 := hF3.out.2.trans HE.out; have LX : Hid (xs = lampsL ms s ∧ ys = darkL ms s) := Lib.hid (And.intro hF2.out.1 hF3.out.1); have hxy : xs.length = ys.length := (by rw [LX.out.1, LX.out.2]; exact PR.out.2.2.2.2.1); have PX : Hid (xs.length ≤ 600 ∧ ys.length ≤ 600) := Lib.hid (by have := PR.out.2.2.2.2.2.2.1; rw [← LX.out.1] at this; omega); have v1 : ((xs.length : Int) != (ys.length : Int)) = false := (by simp; omega); have v2 : (xs.length != ys.length) = false := (by simp; omega); have HXY := Lib.hid hxy; clear hxy hF2 hF3; have k3 : w.heap.size < w3.heap.size := (Nat.lt_of_lt_of_le k2 hB3.size); have b0 := (hB3.cell (p := ⟨w.heap.size, 0, none⟩) k2).trans b0; have b1 := (hB3.cell (p := ⟨w.heap.size, 1, none⟩) k2).trans b1; have hW3 := below_step hW2 hB3; have HO2 := Lib.hid (HO2.out.below hB3); have HO3 := Lib.hid hO3; clear hB3 hO3)
            | (go_at_call 39; clear TA; refine (iceLight_any ms _ _ s ns _ _ _ (H.out.below hW3) (HN.out.below hW3) hn2).mono ?_; rintro e w4 ⟨bL, EL, rfl, hB4, hF4⟩; obtain rfl : bL = false := hF4.out.1.trans HL.out.1; obtain rfl : EL = 0 := hF4.out.2.trans HL.out.2; have k4 : w.heap.size < w4.heap.size := (Nat.lt_of_lt_of_le k3 hB4.size); have b0 := (hB4.cell (p := ⟨w.heap.size, 0, none⟩) k3).trans b0; have b1 := (hB4.cell (p := ⟨w.heap.size, 1, none⟩) k3).trans b1; have hW4 := below_step hW3 hB4; have HO2 := Lib.hid (HO2.out.below hB4); have HO3 := Lib.hid (HO3.out.below hB4); clear hB4 hF4)
            | (go_at_call 44; clear TB; refine (iceAreDark_any ms _ _ s ps _ _ _ (H.out.below hW4) (HP.out.below hW4) hp2).mono ?_; rintro e w5 ⟨bA, EA, rfl, hB5, hF5⟩; have h5 := areRes_err hF5.out HAA.out; obtain ⟨rfl, g5⟩ := h5; have k5 : w.heap.size < w5.heap.size := (Nat.lt_of_lt_of_le k4 hB5.size); have b0 := (hB5.cell (p := ⟨w.heap.size, 0, none⟩) k4).trans b0; have b1 := (hB5.cell (p := ⟨w.heap.size, 1, none⟩) k4).trans b1; have hW5 := below_step hW4 hB5; have HO2 := Lib.hid (HO2.out.below hB5); have HO3 := Lib.hid (HO3.out.below hB5); clear hB5 hF5)
            | (go_at_call 39; refine (iceLight_any ms _ _ s xs _ _ _ (H.out.below hW5) HO2.out.ints (by have := PX.out; omega)).mono ?_; rintro e w6 ⟨b6, E6, rfl, hB6, hF6⟩; obtain rfl : b6 = true := hF6.out.1.trans (by rw [LX.out.1]; exact PR.out.2.1); obtain rfl : E6 = 0 := hF6.out.2.trans (by rw [LX.out.1]; exact PR.out.1); have k6 : w.heap.size < w6.heap.size := (Nat.lt_of_lt_of_le k5 hB6.size); have b0 := (hB6.cell (p := ⟨w.heap.size, 0, none⟩) k5).trans b0; have b1 := (hB6.cell (p := ⟨w.heap.size, 1, none⟩) k5).trans b1; have hW6 := below_step hW5 hB6; have HO3 := Lib.hid (HO3.out.below hB6); clear hB6 hF6)
            | (go_at_call 44; refine (iceAreDark_any ms _ _ s ys _ _ _ (H.out.below hW6) HO3.out.ints (by have := PX.out; omega)).mono ?_; rintro e w7 ⟨b7, E7, rfl, hB7, hF7⟩; have h7 := areRes_yes hF7.out (by rw [LX.out.2]; exact PR.out.2.2.1) (by rw [LX.out.2]; exact PR.out.2.2.2.1); obtain ⟨rfl, rfl⟩ := h7; have b0 := (hB7.cell (p := ⟨w.heap.size, 0, none⟩) k6).trans b0; have b1 := (hB7.cell (p := ⟨w.heap.size, 1, none⟩) k6).trans b1; have hW7 := below_step hW6 hB7; clear hB7 hF7; skip)
            | (go_at_call 18; refine (sane_any _).mono ?_; rintro e w9 ⟨rfl, hB9⟩)
            | fail)
          go_ret
          exact ⟨rfl, below_step hW7 hB9⟩
      · have HL := Lib.hid hl0
        clear hl hl0
        by_cases ha : areE ms s ps = 0
        · by_cases hd : DarkP (mtL ms) s ps
          · have HAA := Lib.hid (And.intro ha hd)
            clear ha hd
            have TA : Hid True := Lib.hid trivial
            have TB : Hid True := Lib.hid trivial
            go_enter Try.func12, Try.ntmps12
            go_wp2_with (first
              | (go_at_call 17; refine (lawLong_any _ _ _ _).mono ?_; rintro e w' ⟨rfl, rfl⟩)
              | (go_at_call 22; refine (refValid_any ms _ _ _ (H.out.below hB0).marks H.out.len).mono ?_; rintro e w1 ⟨rfl, n, rfl⟩; have hW1 := below_drewN hB0 n)
              | (go_at_call 37; refine (iceLamps_any ms _ _ s _ (H.out.below hW1)).mono ?_; rintro e w2 ⟨A2, c2, xs, E2, rfl, hO2, hB2, hF2⟩; obtain rfl : E2 = 0 := hF2.out.2.trans HE.out; have hz2 := hB2.size; simp at hz2; have k2 : w.heap.size < w2.heap.size := (by omega); have hW2 : Below w.heap.size w w2 := Below.trans hW1 (hB2.mono (by simp)); have b0 := (hB2.cell (p := ⟨w.heap.size, 0, none⟩) (by simp)).trans (show World.cell? _ _ = some (.slice D0 ns.length d0) by go_simp); have b1 := (hB2.cell (p := ⟨w.heap.size, 1, none⟩) (by simp)).trans (show World.cell? _ _ = some (.slice D1 ps.length d1) by go_simp); have HO2 := Lib.hid hO2; clear hB2 hO2)
              | (go_at_call 42; refine (iceDark_any ms _ _ s _ (H.out.below hW2)).mono ?_; rintro e w3 ⟨A3, c3, ys, E3, rfl, hO3, hB3, hF3⟩; obtain rfl : E3 = 0 := hF3.out.2.trans HE.out; have LX : Hid (xs = lampsL ms s ∧ ys = darkL ms s) := Lib.hid (And.intro hF2.out.1 hF3.out.1); have hxy : xs.length = ys.length := (by rw [LX.out.1, LX.out.2]; exact PR.out.2.2.2.2.1); have PX : Hid (xs.length ≤ 600 ∧ ys.length ≤ 600) := Lib.hid (by have := PR.out.2.2.2.2.2.2.1; rw [← LX.out.1] at this; omega); have v1 : ((xs.length : Int) != (ys.length : Int)) = false := (by simp; omega); have v2 : (xs.length != ys.length) = false := (by simp; omega); have HXY := Lib.hid hxy; clear hxy hF2 hF3; have k3 : w.heap.size < w3.heap.size := (Nat.lt_of_lt_of_le k2 hB3.size); have b0 := (hB3.cell (p := ⟨w.heap.size, 0, none⟩) k2).trans b0; have b1 := (hB3.cell (p := ⟨w.heap.size, 1, none⟩) k2).trans b1; have hW3 := below_step hW2 hB3; have HO2 := Lib.hid (HO2.out.below hB3); have HO3 := Lib.hid hO3; clear hB3 hO3)
              | (go_at_call 39; clear TA; refine (iceLight_any ms _ _ s ns _ _ _ (H.out.below hW3) (HN.out.below hW3) hn2).mono ?_; rintro e w4 ⟨bL, EL, rfl, hB4, hF4⟩; obtain rfl : bL = false := hF4.out.1.trans (lightR_no HL.out); have g4 : (EL != 0) = true := (by have := hF4.out.2; have := HL.out; simp; omega); have k4 : w.heap.size < w4.heap.size := (Nat.lt_of_lt_of_le k3 hB4.size); have b0 := (hB4.cell (p := ⟨w.heap.size, 0, none⟩) k3).trans b0; have b1 := (hB4.cell (p := ⟨w.heap.size, 1, none⟩) k3).trans b1; have hW4 := below_step hW3 hB4; have HO2 := Lib.hid (HO2.out.below hB4); have HO3 := Lib.hid (HO3.out.below hB4); clear hB4 hF4)
              | (go_at_call 44; clear TB; refine (iceAreDark_any ms _ _ s ps _ _ _ (H.out.below hW4) (HP.out.below hW4) hp2).mono ?_; rintro e w5 ⟨bA, EA, rfl, hB5, hF5⟩; have h5 := areRes_yes hF5.out HAA.out.1 HAA.out.2; obtain ⟨rfl, rfl⟩ := h5; have k5 : w.heap.size < w5.heap.size := (Nat.lt_of_lt_of_le k4 hB5.size); have b0 := (hB5.cell (p := ⟨w.heap.size, 0, none⟩) k4).trans b0; have b1 := (hB5.cell (p := ⟨w.heap.size, 1, none⟩) k4).trans b1; have hW5 := below_step hW4 hB5; have HO2 := Lib.hid (HO2.out.below hB5); have HO3 := Lib.hid (HO3.out.below hB5); clear hB5 hF5)
              | (go_at_call 39; refine (iceLight_any ms _ _ s xs _ _ _ (H.out.below hW5) HO2.out.ints (by have := PX.out; omega)).mono ?_; rintro e w6 ⟨b6, E6, rfl, hB6, hF6⟩; obtain rfl : b6 = true := hF6.out.1.trans (by rw [LX.out.1]; exact PR.out.2.1); obtain rfl : E6 = 0 := hF6.out.2.trans (by rw [LX.out.1]; exact PR.out.1); have k6 : w.heap.size < w6.heap.size := (Nat.lt_of_lt_of_le k5 hB6.size); have b0 := (hB6.cell (p := ⟨w.heap.size, 0, none⟩) k5).trans b0; have b1 := (hB6.cell (p := ⟨w.heap.size, 1, none⟩) k5).trans b1; have hW6 := below_step hW5 hB6; have HO3 := Lib.hid (HO3.out.below hB6); clear hB6 hF6)
              | (go_at_call 44; refine (iceAreDark_any ms _ _ s ys _ _ _ (H.out.below hW6) HO3.out.ints (by have := PX.out; omega)).mono ?_; rintro e w7 ⟨b7, E7, rfl, hB7, hF7⟩; have h7 := areRes_yes hF7.out (by rw [LX.out.2]; exact PR.out.2.2.1) (by rw [LX.out.2]; exact PR.out.2.2.2.1); obtain ⟨rfl, rfl⟩ := h7; have b0 := (hB7.cell (p := ⟨w.heap.size, 0, none⟩) k6).trans b0; have b1 := (hB7.cell (p := ⟨w.heap.size, 1, none⟩) k6).trans b1; have hW7 := below_step hW6 hB7; clear hB7 hF7; have u2 : decide ((ps.length : Int) ≤ (xs.length : Int)) = true := decide_eq_true (by have := duality PR.out.2.1 HAA.out.1 HAA.out.2; rw [← LX.out.1] at this; omega); have u2n : ps.length ≤ xs.length := (by have := of_decide_eq_true u2; omega))
              | (go_at_call 18; refine (sane_any _).mono ?_; rintro e w9 ⟨rfl, hB9⟩)
              | fail)
            go_ret
            exact ⟨rfl, below_step hW7 hB9⟩
          · have HAA := Lib.hid (And.intro ha hd)
            clear ha hd
            have TA : Hid True := Lib.hid trivial
            have TB : Hid True := Lib.hid trivial
            go_enter Try.func12, Try.ntmps12
            go_wp2_with (first
              | (go_at_call 17; refine (lawLong_any _ _ _ _).mono ?_; rintro e w' ⟨rfl, rfl⟩)
              | (go_at_call 22; refine (refValid_any ms _ _ _ (H.out.below hB0).marks H.out.len).mono ?_; rintro e w1 ⟨rfl, n, rfl⟩; have hW1 := below_drewN hB0 n)
              | (go_at_call 37; refine (iceLamps_any ms _ _ s _ (H.out.below hW1)).mono ?_; rintro e w2 ⟨A2, c2, xs, E2, rfl, hO2, hB2, hF2⟩; obtain rfl : E2 = 0 := hF2.out.2.trans HE.out; have hz2 := hB2.size; simp at hz2; have k2 : w.heap.size < w2.heap.size := (by omega); have hW2 : Below w.heap.size w w2 := Below.trans hW1 (hB2.mono (by simp)); have b0 := (hB2.cell (p := ⟨w.heap.size, 0, none⟩) (by simp)).trans (show World.cell? _ _ = some (.slice D0 ns.length d0) by go_simp); have b1 := (hB2.cell (p := ⟨w.heap.size, 1, none⟩) (by simp)).trans (show World.cell? _ _ = some (.slice D1 ps.length d1) by go_simp); have HO2 := Lib.hid hO2; clear hB2 hO2)
              | (go_at_call 42; refine (iceDark_any ms _ _ s _ (H.out.below hW2)).mono ?_; rintro e w3 ⟨A3, c3, ys, E3, rfl, hO3, hB3, hF3⟩; obtain rfl : E3 = 0 := hF3.out.2.trans HE.out; have LX : Hid (xs = lampsL ms s ∧ ys = darkL ms s) := Lib.hid (And.intro hF2.out.1 hF3.out.1); have hxy : xs.length = ys.length := (by rw [LX.out.1, LX.out.2]; exact PR.out.2.2.2.2.1); have PX : Hid (xs.length ≤ 600 ∧ ys.length ≤ 600) := Lib.hid (by have := PR.out.2.2.2.2.2.2.1; rw [← LX.out.1] at this; omega); have v1 : ((xs.length : Int) != (ys.length : Int)) = false := (by simp; omega); have v2 : (xs.length != ys.length) = false := (by simp; omega); have HXY := Lib.hid hxy; clear hxy hF2 hF3; have k3 : w.heap.size < w3.heap.size := (Nat.lt_of_lt_of_le k2 hB3.size); have b0 := (hB3.cell (p := ⟨w.heap.size, 0, none⟩) k2).trans b0; have b1 := (hB3.cell (p := ⟨w.heap.size, 1, none⟩) k2).trans b1; have hW3 := below_step hW2 hB3; have HO2 := Lib.hid (HO2.out.below hB3); have HO3 := Lib.hid hO3; clear hB3 hO3)
              | (go_at_call 39; clear TA; refine (iceLight_any ms _ _ s ns _ _ _ (H.out.below hW3) (HN.out.below hW3) hn2).mono ?_; rintro e w4 ⟨bL, EL, rfl, hB4, hF4⟩; obtain rfl : bL = false := hF4.out.1.trans (lightR_no HL.out); have g4 : (EL != 0) = true := (by have := hF4.out.2; have := HL.out; simp; omega); have k4 : w.heap.size < w4.heap.size := (Nat.lt_of_lt_of_le k3 hB4.size); have b0 := (hB4.cell (p := ⟨w.heap.size, 0, none⟩) k3).trans b0; have b1 := (hB4.cell (p := ⟨w.heap.size, 1, none⟩) k3).trans b1; have hW4 := below_step hW3 hB4; have HO2 := Lib.hid (HO2.out.below hB4); have HO3 := Lib.hid (HO3.out.below hB4); clear hB4 hF4)
              | (go_at_call 44; clear TB; refine (iceAreDark_any ms _ _ s ps _ _ _ (H.out.below hW4) (HP.out.below hW4) hp2).mono ?_; rintro e w5 ⟨bA, EA, rfl, hB5, hF5⟩; obtain rfl : bA = false := areRes_no hF5.out HAA.out.2; obtain rfl : EA = 0 := hF5.out.1.trans HAA.out.1; have k5 : w.heap.size < w5.heap.size := (Nat.lt_of_lt_of_le k4 hB5.size); have b0 := (hB5.cell (p := ⟨w.heap.size, 0, none⟩) k4).trans b0; have b1 := (hB5.cell (p := ⟨w.heap.size, 1, none⟩) k4).trans b1; have hW5 := below_step hW4 hB5; have HO2 := Lib.hid (HO2.out.below hB5); have HO3 := Lib.hid (HO3.out.below hB5); clear hB5 hF5)
              | (go_at_call 39; refine (iceLight_any ms _ _ s xs _ _ _ (H.out.below hW5) HO2.out.ints (by have := PX.out; omega)).mono ?_; rintro e w6 ⟨b6, E6, rfl, hB6, hF6⟩; obtain rfl : b6 = true := hF6.out.1.trans (by rw [LX.out.1]; exact PR.out.2.1); obtain rfl : E6 = 0 := hF6.out.2.trans (by rw [LX.out.1]; exact PR.out.1); have k6 : w.heap.size < w6.heap.size := (Nat.lt_of_lt_of_le k5 hB6.size); have b0 := (hB6.cell (p := ⟨w.heap.size, 0, none⟩) k5).trans b0; have b1 := (hB6.cell (p := ⟨w.heap.size, 1, none⟩) k5).trans b1; have hW6 := below_step hW5 hB6; have HO3 := Lib.hid (HO3.out.below hB6); clear hB6 hF6)
              | (go_at_call 44; refine (iceAreDark_any ms _ _ s ys _ _ _ (H.out.below hW6) HO3.out.ints (by have := PX.out; omega)).mono ?_; rintro e w7 ⟨b7, E7, rfl, hB7, hF7⟩; have h7 := areRes_yes hF7.out (by rw [LX.out.2]; exact PR.out.2.2.1) (by rw [LX.out.2]; exact PR.out.2.2.2.1); obtain ⟨rfl, rfl⟩ := h7; have b0 := (hB7.cell (p := ⟨w.heap.size, 0, none⟩) k6).trans b0; have b1 := (hB7.cell (p := ⟨w.heap.size, 1, none⟩) k6).trans b1; have hW7 := below_step hW6 hB7; clear hB7 hF7; skip)
              | (go_at_call 18; refine (sane_any _).mono ?_; rintro e w9 ⟨rfl, hB9⟩)
              | fail)
            go_ret
            exact ⟨rfl, below_step hW7 hB9⟩
        · have HAA := Lib.hid ha
          clear ha
          have TA : Hid True := Lib.hid trivial
          have TB : Hid True := Lib.hid trivial
          go_enter Try.func12, Try.ntmps12
          go_wp2_with (first
            | (go_at_call 17; refine (lawLong_any _ _ _ _).mono ?_; rintro e w' ⟨rfl, rfl⟩)
            | (go_at_call 22; refine (refValid_any ms _ _ _ (H.out.below hB0).marks H.out.len).mono ?_; rintro e w1 ⟨rfl, n, rfl⟩; have hW1 := below_drewN hB0 n)
            | (go_at_call 37; refine (iceLamps_any ms _ _ s _ (H.out.below hW1)).mono ?_; rintro e w2 ⟨A2, c2, xs, E2, rfl, hO2, hB2, hF2⟩; obtain rfl : E2 = 0 := hF2.out.2.trans HE.out; have hz2 := hB2.size; simp at hz2; have k2 : w.heap.size < w2.heap.size := (by omega); have hW2 : Below w.heap.size w w2 := Below.trans hW1 (hB2.mono (by simp)); have b0 := (hB2.cell (p := ⟨w.heap.size, 0, none⟩) (by simp)).trans (show World.cell? _ _ = some (.slice D0 ns.length d0) by go_simp); have b1 := (hB2.cell (p := ⟨w.heap.size, 1, none⟩) (by simp)).trans (show World.cell? _ _ = some (.slice D1 ps.length d1) by go_simp); have HO2 := Lib.hid hO2; clear hB2 hO2)
            | (go_at_call 42; refine (iceDark_any ms _ _ s _ (H.out.below hW2)).mono ?_; rintro e w3 ⟨A3, c3, ys, E3, rfl, hO3, hB3, hF3⟩; obtain rfl : E3 = 0 := hF3.out.2.trans HE.out; have LX : Hid (xs = lampsL ms s ∧ ys = darkL ms s) := Lib.hid (And.intro hF2.out.1 hF3.out.1); have hxy : xs.length = ys.length := (by rw [LX.out.1, LX.out.2]; exact PR.out.2.2.2.2.1); have PX : Hid (xs.length ≤ 600 ∧ ys.length ≤ 600) := Lib.hid (by have := PR.out.2.2.2.2.2.2.1; rw [← LX.out.1] at this; omega); have v1 : ((xs.length : Int) != (ys.length : Int)) = false := (by simp; omega); have v2 : (xs.length != ys.length) = false := (by simp; omega); have HXY := Lib.hid hxy; clear hxy hF2 hF3; have k3 : w.heap.size < w3.heap.size := (Nat.lt_of_lt_of_le k2 hB3.size); have b0 := (hB3.cell (p := ⟨w.heap.size, 0, none⟩) k2).trans b0; have b1 := (hB3.cell (p := ⟨w.heap.size, 1, none⟩) k2).trans b1; have hW3 := below_step hW2 hB3; have HO2 := Lib.hid (HO2.out.below hB3); have HO3 := Lib.hid hO3; clear hB3 hO3)
            | (go_at_call 39; clear TA; refine (iceLight_any ms _ _ s ns _ _ _ (H.out.below hW3) (HN.out.below hW3) hn2).mono ?_; rintro e w4 ⟨bL, EL, rfl, hB4, hF4⟩; obtain rfl : bL = false := hF4.out.1.trans (lightR_no HL.out); have g4 : (EL != 0) = true := (by have := hF4.out.2; have := HL.out; simp; omega); have k4 : w.heap.size < w4.heap.size := (Nat.lt_of_lt_of_le k3 hB4.size); have b0 := (hB4.cell (p := ⟨w.heap.size, 0, none⟩) k3).trans b0; have b1 := (hB4.cell (p := ⟨w.heap.size, 1, none⟩) k3).trans b1; have hW4 := below_step hW3 hB4; have HO2 := Lib.hid (HO2.out.below hB4); have HO3 := Lib.hid (HO3.out.below hB4); clear hB4 hF4)
            | (go_at_call 44; clear TB; refine (iceAreDark_any ms _ _ s ps _ _ _ (H.out.below hW4) (HP.out.below hW4) hp2).mono ?_; rintro e w5 ⟨bA, EA, rfl, hB5, hF5⟩; have h5 := areRes_err hF5.out HAA.out; obtain ⟨rfl, g5⟩ := h5; have k5 : w.heap.size < w5.heap.size := (Nat.lt_of_lt_of_le k4 hB5.size); have b0 := (hB5.cell (p := ⟨w.heap.size, 0, none⟩) k4).trans b0; have b1 := (hB5.cell (p := ⟨w.heap.size, 1, none⟩) k4).trans b1; have hW5 := below_step hW4 hB5; have HO2 := Lib.hid (HO2.out.below hB5); have HO3 := Lib.hid (HO3.out.below hB5); clear hB5 hF5)
            | (go_at_call 39; refine (iceLight_any ms _ _ s xs _ _ _ (H.out.below hW5) HO2.out.ints (by have := PX.out; omega)).mono ?_; rintro e w6 ⟨b6, E6, rfl, hB6, hF6⟩; obtain rfl : b6 = true := hF6.out.1.trans (by rw [LX.out.1]; exact PR.out.2.1); obtain rfl : E6 = 0 := hF6.out.2.trans (by rw [LX.out.1]; exact PR.out.1); have k6 : w.heap.size < w6.heap.size := (Nat.lt_of_lt_of_le k5 hB6.size); have b0 := (hB6.cell (p := ⟨w.heap.size, 0, none⟩) k5).trans b0; have b1 := (hB6.cell (p := ⟨w.heap.size, 1, none⟩) k5).trans b1; have hW6 := below_step hW5 hB6; have HO3 := Lib.hid (HO3.out.below hB6); clear hB6 hF6)
            | (go_at_call 44; refine (iceAreDark_any ms _ _ s ys _ _ _ (H.out.below hW6) HO3.out.ints (by have := PX.out; omega)).mono ?_; rintro e w7 ⟨b7, E7, rfl, hB7, hF7⟩; have h7 := areRes_yes hF7.out (by rw [LX.out.2]; exact PR.out.2.2.1) (by rw [LX.out.2]; exact PR.out.2.2.2.1); obtain ⟨rfl, rfl⟩ := h7; have b0 := (hB7.cell (p := ⟨w.heap.size, 0, none⟩) k6).trans b0; have b1 := (hB7.cell (p := ⟨w.heap.size, 1, none⟩) k6).trans b1; have hW7 := below_step hW6 hB7; clear hB7 hF7; skip)
            | (go_at_call 18; refine (sane_any _).mono ?_; rintro e w9 ⟨rfl, hB9⟩)
            | fail)
          go_ret
          exact ⟨rfl, below_step hW7 hB9⟩
  · have HE := Lib.hid hE
    clear hE
    have TA : Hid True := Lib.hid trivial
    have TB : Hid True := Lib.hid trivial
    go_enter Try.func12, Try.ntmps12
    go_wp2_with (first
      | (go_at_call 17; refine (lawLong_any _ _ _ _).mono ?_; rintro e w' ⟨rfl, rfl⟩)
      | (go_at_call 22; refine (refValid_any ms _ _ _ (H.out.below hB0).marks H.out.len).mono ?_; rintro e w1 ⟨rfl, n, rfl⟩; have hW1 := below_drewN hB0 n)
      | (go_at_call 37; refine (iceLamps_any ms _ _ s _ (H.out.below hW1)).mono ?_; rintro e w2 ⟨A2, c2, xs, E2, rfl, hO2, hB2, hF2⟩; have g2 : (E2 != 0) = true := (by have := hF2.out.2; have := HE.out; simp; omega); obtain rfl : xs = [] := hF2.out.1.trans (lampsL_no rfl HE.out).1.symm; have hz2 := hB2.size; simp at hz2; have k2 : w.heap.size < w2.heap.size := (by omega); have hW2 : Below w.heap.size w w2 := Below.trans hW1 (hB2.mono (by simp)); have b0 := (hB2.cell (p := ⟨w.heap.size, 0, none⟩) (by simp)).trans (show World.cell? _ _ = some (.slice D0 ns.length d0) by go_simp); have b1 := (hB2.cell (p := ⟨w.heap.size, 1, none⟩) (by simp)).trans (show World.cell? _ _ = some (.slice D1 ps.length d1) by go_simp); have HO2 := Lib.hid hO2; clear hB2 hO2)
      | (go_at_call 42; refine (iceDark_any ms _ _ s _ (H.out.below hW2)).mono ?_; rintro e w3 ⟨A3, c3, ys, E3, rfl, hO3, hB3, hF3⟩; obtain rfl : ys = [] := hF3.out.1.trans (lampsL_no rfl HE.out).2.symm; obtain rfl : E3 = E2 := hF3.out.2.trans hF2.out.2.symm; have g3 : (E3 != E3) = false := (by simp); clear hF2 hF3; have k3 : w.heap.size < w3.heap.size := (Nat.lt_of_lt_of_le k2 hB3.size); have b0 := (hB3.cell (p := ⟨w.heap.size, 0, none⟩) k2).trans b0; have b1 := (hB3.cell (p := ⟨w.heap.size, 1, none⟩) k2).trans b1; have hW3 := below_step hW2 hB3; have HO2 := Lib.hid (HO2.out.below hB3); have HO3 := Lib.hid hO3; clear hB3 hO3)
      | (go_at_call 39; clear TA; refine (iceLight_any ms _ _ s ns _ _ _ (H.out.below hW3) (HN.out.below hW3) hn2).mono ?_; rintro e w4 ⟨bL, EL, rfl, hB4, hF4⟩; obtain rfl : bL = false := hF4.out.1.trans (none_unlit HE.out); have k4 : w.heap.size < w4.heap.size := (Nat.lt_of_lt_of_le k3 hB4.size); have b0 := (hB4.cell (p := ⟨w.heap.size, 0, none⟩) k3).trans b0; have b1 := (hB4.cell (p := ⟨w.heap.size, 1, none⟩) k3).trans b1; have hW4 := below_step hW3 hB4; have HO2 := Lib.hid (HO2.out.below hB4); have HO3 := Lib.hid (HO3.out.below hB4); clear hB4 hF4)
      | (go_at_call 44; clear TB; refine (iceAreDark_any ms _ _ s ps _ _ _ (H.out.below hW4) (HP.out.below hW4) hp2).mono ?_; rintro e w5 ⟨bA, EA, rfl, hB5, hF5⟩; skip; have k5 : w.heap.size < w5.heap.size := (Nat.lt_of_lt_of_le k4 hB5.size); have b0 := (hB5.cell (p := ⟨w.heap.size, 0, none⟩) k4).trans b0; have b1 := (hB5.cell (p := ⟨w.heap.size, 1, none⟩) k4).trans b1; have hW5 := below_step hW4 hB5; have HO2 := Lib.hid (HO2.out.below hB5); have HO3 := Lib.hid (HO3.out.below hB5); clear hB5 hF5)
      | (go_at_call 18; refine (sane_any _).mono ?_; rintro e w9 ⟨rfl, hB9⟩)
      | fail)
    go_ret
    exact ⟨rfl, below_step hW5 hB9⟩
end Go.Proofs.Ytmndfcjkokolbaa
