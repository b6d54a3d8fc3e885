/-
  The walk of WavePlanned: it returns true, whatever it is given.
-/
import Derived.Test.YtcmnjmhedmneiaaDoorBackM2
namespace Go.Proofs.YtcmnjmhedmneiaaDoor
open Go.RowKit Go.Shelf

set_option maxRecDepth 100000 in
set_option maxHeartbeats 1000000 in
theorem wavePlanned_walk (s : List Int) (A : Option Addr) (c : Nat) (l : List Int) (B : Option Addr) (d : Nat) (w : World) (hW : Wids w) (hs : Ints w A s) (hc : s.length ≤ c) (hc0 : c ≤ maxLen) (_hsw : I64s s) (hl : Ints w B l) (hd : l.length ≤ d) (hd0 : d ≤ maxLen) (_hlw : I64s l) :
    Calls Tryd.prog 12 #[.slice A s.length c, .slice B l.length d] w fun e w' => e = .returned (.bool true) ∧ Below w.heap.size w w' := by
  have H := Lib.hid hs
  have HL := Lib.hid hl
  have HW := Lib.hid hW
  have hsl : s.length ≤ maxLen := Nat.le_trans hc hc0
  have hll : l.length ≤ maxLen := Nat.le_trans hd hd0
  clear hs hc hc0 _hsw hl hd hd0 _hlw hW
  by_cases h1 : 200 < s.length
  · have t1 : decide (200 < s.length) = true := decide_eq_true h1
    go_enter Tryd.func12, Tryd.ntmps12
    go_wp2_with (first
      | (go_at_call 17; refine (many_any _ _ _ _).mono ?_; rintro e w' ⟨rfl, rfl⟩)
      | (go_at_call 19; refine (awake_any _ HW.out).mono ?_; rintro e w' ⟨rfl, hB⟩))
    go_ret
    exact ⟨rfl, hB⟩
  have t1 : decide (200 < s.length) = false := decide_eq_false h1
  have TA : Hid True := Lib.hid trivial
  by_cases h2 : 200 < l.length
  · have t2 : decide (200 < l.length) = true := decide_eq_true h2
    go_enter Tryd.func12, Tryd.ntmps12
    go_wp2_with (first
      | (go_at_call 17; clear TA; refine (many_any s _ _ _).mono ?_; rintro e w' ⟨rfl, rfl⟩)
      | (go_at_call 17; refine (many_any l _ _ _).mono ?_; rintro e w' ⟨rfl, rfl⟩)
      | (go_at_call 19; refine (awake_any _ HW.out).mono ?_; rintro e w' ⟨rfl, hB⟩))
    go_ret
    exact ⟨rfl, hB⟩
  have t2 : decide (200 < l.length) = false := decide_eq_false h2
  cases hv : vwB s with
  | false =>
    have HV := Lib.hid hv
    clear hv h1 h2
    go_enter Tryd.func12, Tryd.ntmps12
    go_wp2_with (first
      | (go_at_call 17; clear TA; refine (many_any s _ _ _).mono ?_; rintro e w' ⟨rfl, rfl⟩)
      | (go_at_call 17; refine (many_any l _ _ _).mono ?_; rintro e w' ⟨rfl, rfl⟩)
      | (go_at_call 25; refine (refValid_any s _ _ _ H.out hsl).mono ?_; rintro e w' ⟨rfl, rfl⟩; rw [HV.out])
      | (go_at_call 19; refine (awake_any _ HW.out).mono ?_; rintro e w' ⟨rfl, hB⟩))
    go_ret
    exact ⟨rfl, hB⟩
  | true =>
    have HV := Lib.hid hv
    clear h1 h2
    have far : ∀ E : Int, plE s l = E → (E = 2 ∨ E = 5 ∨ E = 4) → Calls Tryd.prog 12 #[.slice A s.length c, .slice B l.length d] w fun e w' => e = .returned (.bool true) ∧ Below w.heap.size w w' := by
      intro E hE hE3
      have HE := Lib.hid hE
      have HT : Hid (plT s l = []) := Lib.hid (pl_far (by rw [hE]; omega))
      clear hE hv
      rcases hE3 with rfl | rfl | rfl
      all_goals
        go_enter Tryd.func12, Tryd.ntmps12
        go_wp2_with (first
          | (go_at_call 17; clear TA; refine (many_any s _ _ _).mono ?_; rintro e w' ⟨rfl, rfl⟩)
          | (go_at_call 17; refine (many_any l _ _ _).mono ?_; rintro e w' ⟨rfl, rfl⟩)
          | (go_at_call 25; refine (refValid_any s _ _ _ H.out hsl).mono ?_; rintro e w' ⟨rfl, rfl⟩; rw [HV.out])
          | (go_at_call 49; refine (plan_eq H.out HL.out hsl hll HW.out HE.out).mono ?_; rintro e w1 ⟨q, rfl, hB1, hq⟩; have hqe : q = ⟨#[]⟩ := (by rw [hq.out, HT.out]); subst hqe)
          | (go_at_call 19; refine (awake_any _ (HW.out.below hB1)).mono ?_; rintro e w' ⟨rfl, hB⟩))
        go_ret
        exact ⟨rfl, below_step hB1 hB⟩
    rcases pl_cases s l with h0 | h0 | h0 | h0 | h0
    · clear far
      obtain ⟨ps, _, p2, p3, p4, p5, p6⟩ := pl_zero h0
      have HP := Lib.hid (fun (q : ByteArray) (hq : q = ⟨(planG 2 ps).toArray⟩) => plan_dec hv p2 p3 p6 hq)
      have HE := Lib.hid h0
      have H4 := Lib.hid p4
      have H5 := Lib.hid p5
      have H6 := Lib.hid p6
      have TB : Hid True := Lib.hid trivial
      clear h0 hv p2 p3 p4 p5 p6
      go_enter Tryd.func12, Tryd.ntmps12
      go_wp2_with (first
        | (go_at_call 17; clear TA; refine (many_any s _ _ _).mono ?_; rintro e w' ⟨rfl, rfl⟩)
        | (go_at_call 17; refine (many_any l _ _ _).mono ?_; rintro e w' ⟨rfl, rfl⟩)
        | (go_at_call 25; refine (refValid_any s _ _ _ H.out hsl).mono ?_; rintro e w' ⟨rfl, rfl⟩; rw [HV.out])
        | (go_at_call 49; refine (plan_eq H.out HL.out hsl hll HW.out HE.out).mono ?_; rintro e w1 ⟨q, rfl, hB1, hq⟩; have HQ := Lib.hid (HP.out q (by rw [hq.out, H5.out])); have HQS : Hid (q.size ≤ maxLen) := Lib.hid (by rw [HQ.out.2.2.2.2.2.2.1]; exact max_big H6.out))
        | (go_at_call 41; refine (decode_eq (q := q) HQS.out (HW.out.below hB1) HQ.out.1 HQ.out.2.1).mono ?_; rintro e w7 ⟨A7, c7, rfl, hO7, hB7⟩; have hW7 := below_step hB1 hB7)
        | (go_at_call 43; refine (widths_eq (q := q) (l := l) HQS.out (HW.out.below hW7) HQ.out.1 (by rw [HQ.out.2.2.1, H4.out])).mono ?_; rintro e w8 ⟨A8, c8, rfl, hO8, hB8⟩; have hW8 := below_step hW7 hB8)
        | (go_at_call 47; refine (isText_eq (q := q) (H.out.below hW8) hsl HQS.out (HW.out.below hW8) HQ.out.2.2.2.2.1 HQ.out.2.2.2.2.2.1).mono ?_; rintro e w9 ⟨rfl, hB9⟩; have hW9 := below_step hW8 hB9)
        | (go_at_call 28; clear TB; refine (sameInts_same s _ _ _ _ _ ((hO7.below hB8).below hB9).ints (H.out.below hW9) hsl).mono ?_; rintro e w6 ⟨rfl, hB6⟩; have hW6 := below_step hW9 hB6)
        | (go_at_call 28; refine (sameInts_same l _ _ _ _ _ ((hO8.below hB9).below hB6).ints (HL.out.below hW6) hll).mono ?_; rintro e w10 ⟨rfl, hB10⟩; have hW10 := below_step hW6 hB10)
        | (go_at_call 19; refine (awake_any _ (HW.out.below hW10)).mono ?_; rintro e w' ⟨rfl, hB⟩))
      go_ret
      exact ⟨rfl, below_step hW10 hB⟩
    · exact far 2 h0 (by omega)
    · exact far 5 h0 (by omega)
    · exact far 4 h0 (by omega)
    · rw [hv] at h0; cases h0
end Go.Proofs.YtcmnjmhedmneiaaDoor
