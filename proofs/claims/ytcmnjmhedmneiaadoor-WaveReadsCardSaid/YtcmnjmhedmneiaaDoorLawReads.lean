/-
  The walk of WaveReads: it returns true, whatever it is given.
-/
import Derived.Test.YtcmnjmhedmneiaaDoorBackM2
namespace Go.Proofs.YtcmnjmhedmneiaaDoor
open Go.RowKit Go.Shelf

set_option maxRecDepth 100000 in
set_option maxHeartbeats 2000000 in
theorem waveReads_walk (t : ByteArray) (w : World) (hW : Wids w) (ht : t.size ≤ maxLen) :
    Calls Tryd.prog 10 #[.string t] w fun e w' => e = .returned (.bool true) ∧ Below w.heap.size w w' := by
  have HW := Lib.hid hW
  clear hW
  by_cases h3 : 2000 < t.size
  · have t3 : decide (2000 < t.size) = true := decide_eq_true h3
    go_enter Tryd.func10, Tryd.ntmps10
    go_wp2_with (first
      | (go_at_call 18; refine (lawLong_any t _).mono ?_; rintro e w' ⟨rfl, rfl⟩)
      | (go_at_call 19; refine (awake_any _ HW.out).mono ?_; rintro e w' ⟨rfl, hB⟩))
    go_ret
    exact ⟨rfl, hB⟩
  have t3 : decide (2000 < t.size) = false := decide_eq_false h3
  clear h3
  have far : ∀ E : Int, dcE t = E → (E = 3 ∨ E = 31) → Calls Tryd.prog 10 #[.string t] w fun e w' => e = .returned (.bool true) ∧ Below w.heap.size w w' := by
    intro E hE hE3
    have HE := Lib.hid hE
    have HF := Lib.hid (dc_far (t := t) (by rw [hE]; omega))
    clear hE
    rcases hE3 with rfl | rfl
    all_goals
      go_enter Tryd.func10, Tryd.ntmps10
      go_wp2_with (first
        | (go_at_call 18; refine (lawLong_any t _).mono ?_; rintro e w' ⟨rfl, rfl⟩)
        | (go_at_call 41; refine (decode_eq (l := []) ht HW.out HE.out HF.out.1).mono ?_; rintro e w1 ⟨A1, c1, rfl, hO1, hB1⟩)
        | (go_at_call 43; refine (widths_eq (l := []) ht (HW.out.below hB1) HE.out HF.out.2.1).mono ?_; rintro e w2 ⟨A2, c2, rfl, hO2, hB2⟩; have hW2 := below_step hB1 hB2)
        | (go_at_call 45; refine (changes_eq (m := 0) ht (HW.out.below hW2) HE.out HF.out.2.2).mono ?_; rintro e w3 ⟨rfl, hB3⟩; have hW3 := below_step hW2 hB3)
        | (go_at_call 19; refine (awake_any _ (HW.out.below hW3)).mono ?_; rintro e w' ⟨rfl, hB⟩))
      go_ret
      exact ⟨rfl, below_step hW3 hB⟩
  rcases dc_cases t with h0 | h0 | h0
  · clear far
    obtain ⟨x, hv, hr, hs⟩ := dc_zero h0
    obtain ⟨d0, d1, d2, d3⟩ := dc_ok hv hr hs
    obtain ⟨a1, a2, a3, a4, a5, a6, _⟩ := rd_all hv hr hs
    have hvl := vb_parts hv
    have a2' : x.1.map Prod.fst = difL (sumL (dsO x)) := a2
    obtain ⟨p1, p2, p3⟩ := pl_fits hs a1 a2' (by omega)
    have HPD := Lib.hid (fun (q : ByteArray) (hq : q = ⟨(planG 2 x.1).toArray⟩) => plan_dec hs a1 a2' (by omega) hq)
    have HI : Hid (itE (sumL (dsO x)) t = 0 ∧ itB (sumL (dsO x)) t = true) := Lib.hid ⟨by simp [itE, hs, hv], by rw [it_of hs hv hr, decide_eq_true_eq]; exact a2⟩
    have HD := Lib.hid (And.intro d0 (And.intro d1 (And.intro d2 d3)))
    have HP : Hid (plE (sumL (dsO x)) (wsO x) = 0 ∧ plT (sumL (dsO x)) (wsO x) = planG 2 x.1) := Lib.hid (And.intro p1 p2)
    have hwl : (wsO x).length = (sumL (dsO x)).length := p3
    have HV := Lib.hid hs
    have hsl1 := (vw_parts hs).1
    have HLT := Lib.hid a6.len
    have HPT := Lib.hid a5
    have hpt : (planG 2 x.1).length ≤ t.size := a3
    have ht2 : t.size ≤ 1000 := hvl.1
    generalize hss : sumL (dsO x) = s at HI HD HP hwl HV hsl1 HLT HPD
    generalize wsO x = ws at HD hwl HP
    have hm : chgN 2 x.1 ≤ x.2 := a4
    obtain ⟨m, hm2⟩ : ∃ m, x.2 = m := ⟨_, rfl⟩
    rw [hm2] at hm HD
    have hsl : s.length ≤ maxLen := max_big (by omega)
    have hwl2 : ws.length ≤ maxLen := by rw [hwl]; exact hsl
    have e1 : ((ws.length : Int) != (s.length : Int)) = false := by rw [hwl]; simp
    clear h0 hv hr hs d0 d1 d2 d3 a1 a2 a2' a3 a4 a5 a6 p1 p2 p3 hvl hss hm2
    have HWL := Lib.hid hwl
    clear hwl
    have TB : Hid True := Lib.hid trivial
    rcases HPT.out with hcase | hcase
    · clear HPT
      go_enter Tryd.func10, Tryd.ntmps10
      go_wp2_with (first
        | (go_at_call 18; refine (lawLong_any t _).mono ?_; rintro e w' ⟨rfl, rfl⟩)
        | (go_at_call 41; refine (decode_eq (l := s) ht HW.out HD.out.1 HD.out.2.1).mono ?_; rintro e w1 ⟨A1, c1, rfl, hO1, hB1⟩)
        | (go_at_call 43; refine (widths_eq (l := ws) ht (HW.out.below hB1) HD.out.1 HD.out.2.2.1).mono ?_; rintro e w2 ⟨A2, c2, rfl, hO2, hB2⟩; have hW2 := below_step hB1 hB2; have hO1 := hO1.below hB2)
        | (go_at_call 45; clear TB; refine (changes_eq (m := m) ht (HW.out.below hW2) HD.out.1 HD.out.2.2.2).mono ?_; rintro e w3 ⟨rfl, hB3⟩; have hW3 := below_step hW2 hB3; have hO1 := hO1.below hB3; have hO2 := hO2.below hB3)
        | (go_at_call 47; refine (isText_eq (q := t) hO1.ints hsl ht (HW.out.below hW3) HI.out.1 HI.out.2).mono ?_; rintro e w4 ⟨rfl, hB4⟩; have hW4 := below_step hW3 hB4; have hO1 := hO1.below hB4; have hO2 := hO2.below hB4)
        | (go_at_call 25; refine (refValid_any s _ _ _ hO1.ints hsl).mono ?_; rintro e w' ⟨rfl, rfl⟩; rw [HV.out])
        | (go_at_call 49; refine (plan_eq hO1.ints hO2.ints hsl hwl2 (HW.out.below hW4) HP.out.1).mono ?_; rintro e w5 ⟨q, rfl, hB5, hq⟩; have hW5 := below_step hW4 hB5; have hO1 := hO1.below hB5; have hqe : Hid (q = ⟨(planG 2 x.1).toArray⟩) := Lib.hid (by rw [hq.out, HP.out.2]); have HQ := Lib.hid (HPD.out q hqe.out); have HQS : Hid (q.size ≤ maxLen) := Lib.hid (by rw [HQ.out.2.2.2.2.2.2.1]; exact max_big (by omega)); have hqz := HQ.out.2.2.2.2.2.2.1; have z0 : q.size < t.size := (by omega); have z1 : q.size ≤ t.size := (by omega); have z2 : (encT s).length ≤ q.size := (by have := HLT.out; omega); have z4 : ¬ t.size ≤ q.size := (by omega); clear hqz)
        | (go_at_call 45; refine (changes_eq (q := q) (m := chgN 2 x.1) HQS.out (HW.out.below hW5) HQ.out.1 HQ.out.2.2.2.1).mono ?_; rintro e w6 ⟨rfl, hB6⟩; have hW6 := below_step hW5 hB6; have hO1 := hO1.below hB6)
        | (go_at_call 35; refine (length_eq hO1.ints hsl (HW.out.below hW6) HV.out).mono ?_; rintro e w7 ⟨rfl, hB7⟩; have hW7 := below_step hW6 hB7)
        | (go_at_call 19; refine (awake_any _ (HW.out.below hW7)).mono ?_; rintro e w' ⟨rfl, hB⟩))
      go_ret
      exact ⟨rfl, below_step hW7 hB⟩
    · clear HPT
      have HCS := Lib.hid hcase
      clear hcase
      go_enter Tryd.func10, Tryd.ntmps10
      go_wp2_with (first
        | (go_at_call 18; refine (lawLong_any t _).mono ?_; rintro e w' ⟨rfl, rfl⟩)
        | (go_at_call 41; refine (decode_eq (l := s) ht HW.out HD.out.1 HD.out.2.1).mono ?_; rintro e w1 ⟨A1, c1, rfl, hO1, hB1⟩)
        | (go_at_call 43; refine (widths_eq (l := ws) ht (HW.out.below hB1) HD.out.1 HD.out.2.2.1).mono ?_; rintro e w2 ⟨A2, c2, rfl, hO2, hB2⟩; have hW2 := below_step hB1 hB2; have hO1 := hO1.below hB2)
        | (go_at_call 45; clear TB; refine (changes_eq (m := m) ht (HW.out.below hW2) HD.out.1 HD.out.2.2.2).mono ?_; rintro e w3 ⟨rfl, hB3⟩; have hW3 := below_step hW2 hB3; have hO1 := hO1.below hB3; have hO2 := hO2.below hB3)
        | (go_at_call 47; refine (isText_eq (q := t) hO1.ints hsl ht (HW.out.below hW3) HI.out.1 HI.out.2).mono ?_; rintro e w4 ⟨rfl, hB4⟩; have hW4 := below_step hW3 hB4; have hO1 := hO1.below hB4; have hO2 := hO2.below hB4)
        | (go_at_call 25; refine (refValid_any s _ _ _ hO1.ints hsl).mono ?_; rintro e w' ⟨rfl, rfl⟩; rw [HV.out])
        | (go_at_call 49; refine (plan_eq hO1.ints hO2.ints hsl hwl2 (HW.out.below hW4) HP.out.1).mono ?_; rintro e w5 ⟨q, rfl, hB5, hq⟩; have hW5 := below_step hW4 hB5; have hO1 := hO1.below hB5; have hqe : Hid (q = ⟨(planG 2 x.1).toArray⟩) := Lib.hid (by rw [hq.out, HP.out.2]); have HQ := Lib.hid (HPD.out q hqe.out); have HQS : Hid (q.size ≤ maxLen) := Lib.hid (by rw [HQ.out.2.2.2.2.2.2.1]; exact max_big (by omega)); have hqz := HQ.out.2.2.2.2.2.2.1; have hqt : q = t := hqe.out.trans HCS.out.symm; subst hqt; have z2 : (encT s).length ≤ q.size := (by have := HLT.out; omega); clear hqz)
        | (go_at_call 45; refine (changes_eq (q := q) (m := chgN 2 x.1) HQS.out (HW.out.below hW5) HQ.out.1 HQ.out.2.2.2.1).mono ?_; rintro e w6 ⟨rfl, hB6⟩; have hW6 := below_step hW5 hB6; have hO1 := hO1.below hB6)
        | (go_at_call 35; refine (length_eq hO1.ints hsl (HW.out.below hW6) HV.out).mono ?_; rintro e w7 ⟨rfl, hB7⟩; have hW7 := below_step hW6 hB7)
        | (go_at_call 19; refine (awake_any _ (HW.out.below hW7)).mono ?_; rintro e w' ⟨rfl, hB⟩))
      go_ret
      exact ⟨rfl, below_step hW7 hB⟩
  · exact far 3 h0 (by omega)
  · exact far 31 h0 (by omega)
end Go.Proofs.YtcmnjmhedmneiaaDoor
