/-
  The walk of WaveFewest: it returns true, whatever it is given.
-/
import Derived.Test.YtcmnjmhedmneiaaDoorBackM2
namespace Go.Proofs.YtcmnjmhedmneiaaDoor
open Go.RowKit Go.Shelf

/-- A text is none of a wave form, or no better than the best one. -/
theorem it_least {s : List Int} {t : ByteArray} (h : itB s t = true) : LeT (encT s) t.data.toList := by
  obtain ⟨x, hs, hv, hr, hd⟩ := it_true h
  have hsum : sumL (dsO x) = s := by rw [hd, sum_dif]
  have := (rd_all hv hr (by rw [hsum]; exact hs)).2.2.2.2.2.2
  rwa [hsum] at this
theorem pl_least {s ws : List Int} (h : plE s ws = 0) : LeT (encT s) (plT s ws) := by
  obtain ⟨ps, hv, hf, hd, _, hp, _⟩ := pl_zero h
  rw [hp, (enc_ok hv).2, ← hd]
  exact enc_least ps (fit_bd hf) hf 2
theorem it_cases (s : List Int) (t : ByteArray) (hv : vwB s = true) : (itE s t = 0 ∨ itE s t = 31) := by
  unfold itE
  rw [if_pos hv]
  cases vbB t with
  | true => exact .inl rfl
  | false => exact .inr rfl
theorem it_31 {s : List Int} {t : ByteArray} (h : itE s t = 31) : itB s t = false := by
  unfold itE at h
  cases hs : vwB s with
  | false => simp [itB, hs]
  | true =>
    rw [if_pos hs] at h
    cases hv : vbB t with
    | false => simp [itB, hv]
    | true => rw [if_pos hv] at h; cases h
theorem sv_list (l : List UInt8) : (⟨l.toArray⟩ : ByteArray).toList = l := by rw [Lib.toList_data]

set_option maxRecDepth 100000 in
set_option maxHeartbeats 4000000 in
theorem waveFewest_main (s : List Int) (A : Option Addr) (c : Nat) (t : ByteArray) (l : List Int) (B : Option Addr) (d : Nat) (w : World) (HW : Hid (Wids w)) (H : Hid (Ints w A s)) (hsl : s.length ≤ maxLen) (HL : Hid (Ints w B l)) (hll : l.length ≤ maxLen) (ht : t.size ≤ maxLen)
    (t1 : decide (200 < s.length) = false) (t2 : decide (200 < l.length) = false) (t3 : decide (2000 < t.size) = false) (HV : Hid (vwB s = true)) (E F : Int) (b : Bool) (hE : plE s l = E) (hF : itE s t = F) (hb : itB s t = b)
    (hF3 : (F = 0 ∧ b = true) ∨ (F = 0 ∧ b = false) ∨ (F = 31 ∧ b = false)) :
    Calls Tryd.prog 11 #[.slice A s.length c, .string t, .slice B l.length d] w fun e w' => e = .returned (.bool true) ∧ Below w.heap.size w w' := by
  obtain ⟨ps, d1, d2, d3, d4⟩ := enc_dec HV.out (q := ⟨(encT s).toArray⟩) rfl
  have hbest : encT s = planG 2 ps := by have := congrArg (fun q : ByteArray => q.data.toList) d3; simpa using this
  obtain ⟨p1, p2, p3⟩ := pl_fits HV.out d2 d1 (by omega)
  have HPD := Lib.hid (fun (q : ByteArray) (hq : q = ⟨(encT s).toArray⟩) => plan_dec (q := q) HV.out d2 d1 (by omega) (hq.trans (by rw [hbest])))
  have hbl : (encT s).length ≤ 451 := by rw [hbest]; exact d4
  have HBN : Hid (bndI (difL s) ≤ ((encT s).length : Int)) := Lib.hid (by rw [(enc_ok HV.out).2]; exact bnd_enc (dif_all HV.out))
  have HWI : Hid ((encT s).length ≤ (wideL s).length) := Lib.hid (by rw [(enc_ok HV.out).2, (wide_ok HV.out).2, wide_zip]; exact (enc_wide (dif_all HV.out)).len)
  obtain ⟨ws, hws⟩ : ∃ ws, wdL (ps.map Prod.snd) = ws := ⟨_, rfl⟩
  rw [hws] at p1 p2 p3
  have HWS := Lib.hid hws
  have HP : Hid (plE s ws = 0 ∧ plT s ws = encT s) := Lib.hid ⟨p1, by rw [p2, hbest]⟩
  have hwl2 : ws.length ≤ maxLen := by rw [p3]; exact hsl
  have HE := Lib.hid hE
  have HF := Lib.hid hF
  have HB := Lib.hid hb
  have HLE : Hid (E = 0 → LeT (encT s) (plT s l)) := Lib.hid (fun h => pl_least (hE.trans h))
  have HLT : Hid (b = true → LeT (encT s) t.data.toList) := Lib.hid (fun h => it_least (hb.trans h))
  obtain ⟨best, hbt⟩ : ∃ best, encT s = best := ⟨_, rfl⟩
  rw [hbt] at HPD hbl HBN HWI HP HLE HLT
  have HBT := Lib.hid hbt
  obtain ⟨bn, hbn⟩ : ∃ bn, bndI (difL s) = bn := ⟨_, rfl⟩
  rw [hbn] at HBN
  have HBD := Lib.hid hbn
  clear d1 d2 d3 d4 hbest p1 p2 p3 hws hE hF hb hbt hbn
  have hbnd := HBN.out
  have TA : Hid True := Lib.hid trivial
  have TB : Hid True := Lib.hid trivial
  have HF3 := Lib.hid hF3
  clear hF3
  go_enter Tryd.func11, Tryd.ntmps11
  go_upto_region 15 with (first
    | (go_at_call 17; clear TA; refine (many_any s _ _ _).mono ?_; rintro e w' ⟨rfl, rfl⟩)
    | (go_at_call 17; refine (many_any l _ _ _).mono ?_; rintro e w' ⟨rfl, rfl⟩)
    | (go_at_call 18; refine (lawLong_any t _).mono ?_; rintro e w' ⟨rfl, rfl⟩)
    | (go_at_call 25; refine (refValid_any s _ _ _ H.out hsl).mono ?_; rintro e w' ⟨rfl, rfl⟩; rw [HV.out])
    | (go_at_call 33; refine (encode_eq H.out hsl HW.out HV.out).mono ?_; rintro e w1 ⟨q, rfl, hB1, hq⟩; have HQ : Hid (q = ⟨best.toArray⟩) := Lib.hid (by rw [hq.out, HBT.out]); have HQS : Hid (best.length = q.size) := Lib.hid (by rw [HQ.out, sv_size]); have HQD := Lib.hid (HPD.out q HQ.out))
    | (go_at_call 35; refine (length_eq (H.out.below hB1) hsl (HW.out.below hB1) HV.out).mono ?_; rintro e w2 ⟨rfl, hB2⟩; rw [HBT.out, HQS.out]; have hW2 := below_step hB1 hB2)
    | (go_at_call 39; refine (bound_eq (H.out.below hW2) hsl (HW.out.below hW2) HV.out).mono ?_; rintro e w3 ⟨rfl, hB3⟩; rw [HBD.out]; have hW3 := below_step hW2 hB3; have z0 : bn ≤ (q.size : Int) := (by rw [← HQS.out]; exact hbnd))
    | (go_at_call 37; refine (wide_eq (H.out.below hW3) hsl (HW.out.below hW3) HV.out).mono ?_; rintro e w4 ⟨r, rfl, hB4, hr⟩; have hW4 := below_step hW3 hB4; have z1 : q.size ≤ r.size := (by rw [← HQS.out, hr.out, sv_size]; exact HWI.out))
    | (go_at_call 43; refine (widths_eq (q := q) (l := ws) (by rw [← HQS.out]; exact max_big (by omega)) (HW.out.below hW4) HQD.out.1 (HQD.out.2.2.1.trans HWS.out)).mono ?_; rintro e w5 ⟨A5, c5, rfl, hO5, hB5⟩; have hW5 := below_step hW4 hB5)
    | (go_at_call 49; clear TB; refine (plan_eq (H.out.below hW5) hO5.ints hsl hwl2 (HW.out.below hW5) HP.out.1).mono ?_; rintro e w6 ⟨q2, rfl, hB6, hq2⟩; have hW6 := below_step hW5 hB6; have hqq : q2 = q := (by rw [hq2.out, HP.out.2, HQ.out]); subst hqq)
    | (go_at_call 49; refine (plan_eq (H.out.below hW6) (HL.out.below hW6) hsl hll (HW.out.below hW6) HE.out).mono ?_; rintro e w7 ⟨q3, rfl, hB7, hq3⟩; have hW7 := below_step hW6 hB7)
    | (go_at_call 47; refine (isText_eq (q := t) (H.out.below hW7) hsl ht (HW.out.below hW7) HF.out HB.out).mono ?_; rintro e w8 ⟨rfl, hB8⟩; have hW8 := below_step hW7 hB8))
  have htl : t.data.toList.length = t.size := by simp
  have HQL : Hid (q2.toList = best) := Lib.hid (by rw [HQ.out, sv_list])
  have HQ3 : Hid (q3.toList = plT s l) := Lib.hid (by rw [hq3.out, sv_list])
  have h3l : (plT s l).length = q3.size := by rw [hq3.out, sv_size]
  clear z0 z1 hbnd t1 t2 t3
  by_cases hE0 : E = 0
  · have le1 := HLE.out hE0
    subst hE0
    have z2 : q2.size ≤ q3.size := by have := le1.len; rw [HQS.out, h3l] at this; exact this
    by_cases z3 : q2.size < q3.size
    · clear le1
      rcases HF3.out with ⟨rfl, rfl⟩ | ⟨rfl, rfl⟩ | ⟨rfl, rfl⟩
      · have le2 := HLT.out rfl
        have z5 : q2.size ≤ t.size := by have := le2.len; rw [HQS.out, htl] at this; exact this
        by_cases z6 : q2.size < t.size
        · clear le2
          go_wp2_with (go_at_call 19; refine (awake_any _ (HW.out.below hW8)).mono ?_; rintro e w' ⟨rfl, hB⟩)
          go_ret
          exact ⟨rfl, below_step hW8 hB⟩
        · have z7 : Op.bytesLess t.toList q2.toList = false := by rw [Lib.toList_data, HQL.out]; exact le2.less (by rw [HQS.out, htl]; omega)
          clear le2
          go_wp2_with (go_at_call 19; refine (awake_any _ (HW.out.below hW8)).mono ?_; rintro e w' ⟨rfl, hB⟩)
          go_ret
          exact ⟨rfl, below_step hW8 hB⟩
      · go_wp2_with (go_at_call 19; refine (awake_any _ (HW.out.below hW8)).mono ?_; rintro e w' ⟨rfl, hB⟩)
        go_ret
        exact ⟨rfl, below_step hW8 hB⟩
      · go_wp2_with (go_at_call 19; refine (awake_any _ (HW.out.below hW8)).mono ?_; rintro e w' ⟨rfl, hB⟩)
        go_ret
        exact ⟨rfl, below_step hW8 hB⟩
    · have z4 : Op.bytesLess q3.toList q2.toList = false := by rw [HQ3.out, HQL.out]; exact le1.less (by rw [HQS.out, h3l]; omega)
      clear le1
      rcases HF3.out with ⟨rfl, rfl⟩ | ⟨rfl, rfl⟩ | ⟨rfl, rfl⟩
      · have le2 := HLT.out rfl
        have z5 : q2.size ≤ t.size := by have := le2.len; rw [HQS.out, htl] at this; exact this
        by_cases z6 : q2.size < t.size
        · clear le2
          go_wp2_with (go_at_call 19; refine (awake_any _ (HW.out.below hW8)).mono ?_; rintro e w' ⟨rfl, hB⟩)
          go_ret
          exact ⟨rfl, below_step hW8 hB⟩
        · have z7 : Op.bytesLess t.toList q2.toList = false := by rw [Lib.toList_data, HQL.out]; exact le2.less (by rw [HQS.out, htl]; omega)
          clear le2
          go_wp2_with (go_at_call 19; refine (awake_any _ (HW.out.below hW8)).mono ?_; rintro e w' ⟨rfl, hB⟩)
          go_ret
          exact ⟨rfl, below_step hW8 hB⟩
      · go_wp2_with (go_at_call 19; refine (awake_any _ (HW.out.below hW8)).mono ?_; rintro e w' ⟨rfl, hB⟩)
        go_ret
        exact ⟨rfl, below_step hW8 hB⟩
      · go_wp2_with (go_at_call 19; refine (awake_any _ (HW.out.below hW8)).mono ?_; rintro e w' ⟨rfl, hB⟩)
        go_ret
        exact ⟨rfl, below_step hW8 hB⟩
  · have z8 : (E != 0) = true := by simpa using hE0
    rcases HF3.out with ⟨rfl, rfl⟩ | ⟨rfl, rfl⟩ | ⟨rfl, rfl⟩
    · have le2 := HLT.out rfl
      have z5 : q2.size ≤ t.size := by have := le2.len; rw [HQS.out, htl] at this; exact this
      by_cases z6 : q2.size < t.size
      · clear le2
        go_wp2_with (go_at_call 19; refine (awake_any _ (HW.out.below hW8)).mono ?_; rintro e w' ⟨rfl, hB⟩)
        go_ret
        exact ⟨rfl, below_step hW8 hB⟩
      · have z7 : Op.bytesLess t.toList q2.toList = false := by rw [Lib.toList_data, HQL.out]; exact le2.less (by rw [HQS.out, htl]; omega)
        clear le2
        go_wp2_with (go_at_call 19; refine (awake_any _ (HW.out.below hW8)).mono ?_; rintro e w' ⟨rfl, hB⟩)
        go_ret
        exact ⟨rfl, below_step hW8 hB⟩
    · go_wp2_with (go_at_call 19; refine (awake_any _ (HW.out.below hW8)).mono ?_; rintro e w' ⟨rfl, hB⟩)
      go_ret
      exact ⟨rfl, below_step hW8 hB⟩
    · go_wp2_with (go_at_call 19; refine (awake_any _ (HW.out.below hW8)).mono ?_; rintro e w' ⟨rfl, hB⟩)
      go_ret
      exact ⟨rfl, below_step hW8 hB⟩
end Go.Proofs.YtcmnjmhedmneiaaDoor
