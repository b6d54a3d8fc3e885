/-
  Contracts: decode, Decode, Widths, Changes, IsText (firnref03).
-/
import Derived.Test.YtcmnjmhedmneiaaDoorDecode2
namespace Go.Proofs.YtcmnjmhedmneiaaDoor
open Go.RowKit Go.Shelf

theorem refread_no {t : ByteArray} {w : World} (hb : vbB t = true) (hr : rdT t = none ∨ ∃ x, rdT t = some x ∧ dsO x = []) :
    Calls Tryd.prog 100 #[.string t] w fun e w' => ∃ v1 v2 v3 : Value, e = .returned (.tuple #[v1, v2, v3, .bool false]) ∧ Below w.heap.size w w' := by
  refine (refread_any t w hb).mono ?_
  rintro e w' ⟨hB, (⟨_, _, _, _, _, _, _, _, _, _, _, hne, hx⟩ | ⟨v1, v2, v3, rfl, _⟩)⟩
  · obtain ⟨x, hx, e1, _⟩ := hx.out
    rcases hr with hr | ⟨y, hy, e2⟩
    · rw [hr] at hx; cases hx
    · rw [hx] at hy
      obtain rfl := Option.some.inj hy
      exact absurd (e1.trans e2) hne.out
  · exact ⟨v1, v2, v3, rfl, hB⟩
theorem refread_yes {t : ByteArray} {w : World} {x : List (Int × Nat) × Nat} (hb : vbB t = true) (hr : rdT t = some x) (hne : dsO x ≠ []) :
    Calls Tryd.prog 100 #[.string t] w fun e w' => ∃ (A B : Option Addr) (c d : Nat) (zs ws : List Int) (m : Nat), e = .returned (.tuple #[.slice A zs.length c, .slice B ws.length d, .int .i64 m, .bool true]) ∧ Out w' A c zs ∧ Out w' B d ws ∧ Below w.heap.size w w' ∧ Hid (zs = dsO x ∧ ws = wsO x ∧ m = x.2) := by
  refine (refread_any t w hb).mono ?_
  rintro e w' ⟨hB, (⟨A, B, c, d, zs, ws, m, rfl, h1, h2, _, _, hx⟩ | ⟨_, _, _, _, hx⟩)⟩
  · obtain ⟨y, hy, e1, e2, e3⟩ := hx.out
    rw [hr] at hy
    obtain rfl := Option.some.inj hy
    exact ⟨A, B, c, d, zs, ws, m, rfl, h1, h2, hB, Lib.hid ⟨e1, e2, e3⟩⟩
  · rcases hx.out with hx | ⟨y, hy, e2⟩
    · rw [hr] at hx; cases hx
    · rw [hr] at hy
      obtain rfl := Option.some.inj hy
      exact absurd e2 hne
theorem dc_31 {t : ByteArray} (h : dcE t = 31) : vbB t = false := by
  cases hv : vbB t with
  | false => rfl
  | true =>
    cases hr : rdT t with
    | none => rw [(dc_none hv hr).1] at h; cases h
    | some x =>
      cases hw : vwB (sumL (dsO x)) with
      | false => rw [(dc_form hv hr hw).1] at h; cases h
      | true => rw [(dc_ok hv hr hw).1] at h; cases h
/-- What decode answers. -/
def DecRes (t : ByteArray) (e : Ending) (w w' : World) : Prop :=
  Below w.heap.size w w' ∧ ∃ (A B : Option Addr) (c d : Nat) (ss ws : List Int) (m : Nat) (E : Int),
    e = .returned (.tuple #[.slice A ss.length c, .slice B ws.length d, .int .i64 m, .int .i64 E]) ∧ Out w' A c ss ∧ Out w' B d ws ∧ Hid (ss = dcS t ∧ ws = dcW t ∧ m = dcC t ∧ E = dcE t)
theorem refSamples_eq {l zs : List Int} (A : Option Addr) (c : Nat) (w : World) (hz : zs = l) (h : Ints w A zs) (hl : zs.length ≤ maxLen) (E : Int) (he : smpE l = E) :
    Calls Tryd.prog 23 #[.slice A zs.length c] w fun e w' => ∃ (A : Option Addr) (c : Nat) (ss : List Int), e = .returned (.tuple #[.slice A ss.length c, .int .i64 E]) ∧ Out w' A c ss ∧ Below w.heap.size w w' ∧ Hid (ss = smpR l) := by
  subst hz
  refine (refSamples_any zs A c w h hl).mono ?_
  rintro e w' ⟨A', c', ss, F, rfl, hO, hB, hF⟩
  obtain rfl := hF.out.2.trans he
  exact ⟨A', c', ss, rfl, hO, hB, Lib.hid hF.out.1⟩

set_option maxRecDepth 100000 in
set_option maxHeartbeats 2000000 in
theorem refdecode_any (t : ByteArray) (w : World) (ht : t.size ≤ maxLen) :
    Calls Tryd.prog 83 #[.string t] w fun e w' => DecRes t e w w' := by
  cases hv : vbB t with
  | false =>
    have HV := Lib.hid hv
    have HD := Lib.hid (dc_bits hv)
    clear hv
    go_enter Tryd.func83, Tryd.ntmps83
    go_wp2_with (go_at_call 27; refine (refvb_any t _ ht).mono ?_; rintro e w1 ⟨rfl, rfl⟩; rw [HV.out])
    ((try simp only [Exit.inBlock, Exit.then]); refine bodyPost_ret (results_tmp4 rfl _ _ _) rfl ?_)
    exact ⟨Below.refl _ _, none, none, 0, 0, [], [], 0, 31, rfl, Out.nil_, Out.nil_, Lib.hid ⟨HD.out.2.1.symm, HD.out.2.2.1.symm, HD.out.2.2.2.symm, HD.out.1.symm⟩⟩
  | true =>
    have HV := Lib.hid hv
    by_cases hno : rdT t = none ∨ ∃ x, rdT t = some x ∧ dsO x = []
    · have HD : Hid (dcE t = 3 ∧ dcS t = [] ∧ dcW t = [] ∧ dcC t = 0) := Lib.hid (by
        rcases hno with hr | ⟨x, hr, hx⟩
        · exact dc_none hv hr
        · exact dc_form hv hr (by rw [hx]; rfl))
      have HC := Lib.hid (fun W' => refread_no (w := W') hv hno)
      clear hv hno
      go_enter Tryd.func83, Tryd.ntmps83
      go_wp2_with (first
        | (go_at_call 27; refine (refvb_any t _ ht).mono ?_; rintro e w1 ⟨rfl, rfl⟩; rw [HV.out])
        | (go_at_call 100; refine (HC.out _).mono ?_; rintro e w2 ⟨v1, v2, v3, rfl, hB2⟩))
      ((try simp only [Exit.inBlock, Exit.then]); refine bodyPost_ret (results_tmp4 rfl _ _ _) rfl ?_)
      exact ⟨hB2, none, none, 0, 0, [], [], 0, 3, rfl, Out.nil_, Out.nil_, Lib.hid ⟨HD.out.2.1.symm, HD.out.2.2.1.symm, HD.out.2.2.2.symm, HD.out.1.symm⟩⟩
    · cases hr : rdT t with
      | none => exact absurd (.inl hr) hno
      | some x =>
        have hne : dsO x ≠ [] := fun he => hno (.inr ⟨x, hr, he⟩)
        have HC := Lib.hid (fun W' => refread_yes (w := W') hv hr hne)
        cases hs : vwB (sumL (dsO x)) with
        | false =>
          have HD := Lib.hid (dc_form hv hr hs)
          have HE := Lib.hid (smp_no hs).1
          clear hv hr hs hno hne
          go_enter Tryd.func83, Tryd.ntmps83
          go_wp2_with (first
            | (go_at_call 27; refine (refvb_any t _ ht).mono ?_; rintro e w1 ⟨rfl, rfl⟩; rw [HV.out])
            | (go_at_call 100; refine (HC.out _).mono ?_; rintro e w2 ⟨A, B, c, d, zs, ws, m, rfl, hO1, hO2, hB2, hx⟩)
            | (go_at_call 23; refine (refSamples_eq _ _ _ hx.out.1 hO1.ints (Nat.le_trans hO1.le hO1.cap) 5 HE.out).mono ?_; rintro e w3 ⟨A3, c3, ss, rfl, hO3, hB3, hss⟩))
          ((try simp only [Exit.inBlock, Exit.then]); refine bodyPost_ret (results_tmp4 rfl _ _ _) rfl ?_)
          exact ⟨below_step hB2 hB3, none, none, 0, 0, [], [], 0, 3, rfl, Out.nil_, Out.nil_, Lib.hid ⟨HD.out.2.1.symm, HD.out.2.2.1.symm, HD.out.2.2.2.symm, HD.out.1.symm⟩⟩
        | true =>
          have HD := Lib.hid (dc_ok hv hr hs)
          have HE := Lib.hid (smp_ok hs)
          clear hv hr hs hno hne
          go_enter Tryd.func83, Tryd.ntmps83
          go_wp2_with (first
            | (go_at_call 27; refine (refvb_any t _ ht).mono ?_; rintro e w1 ⟨rfl, rfl⟩; rw [HV.out])
            | (go_at_call 100; refine (HC.out _).mono ?_; rintro e w2 ⟨A, B, c, d, zs, ws, m, rfl, hO1, hO2, hB2, hx⟩)
            | (go_at_call 23; refine (refSamples_eq _ _ _ hx.out.1 hO1.ints (Nat.le_trans hO1.le hO1.cap) 0 HE.out.1).mono ?_; rintro e w3 ⟨A3, c3, ss, rfl, hO3, hB3, hss⟩))
          ((try simp only [Exit.inBlock, Exit.then]); refine bodyPost_ret (results_tmp4 rfl _ _ _) rfl ?_)
          exact ⟨below_step hB2 hB3, A3, B, c3, d, ss, ws, m, 0, rfl, hO3, hO2.below hB3, Lib.hid ⟨by rw [hss.out, HE.out.2, HD.out.2.1], by rw [hx.out.2.1, HD.out.2.2.1], by rw [hx.out.2.2, HD.out.2.2.2], HD.out.1.symm⟩⟩

set_option maxRecDepth 100000 in
theorem refDecode_any (t : ByteArray) (w : World) (ht : t.size ≤ maxLen) :
    Calls Tryd.prog 42 #[.string t] w fun e w' => ListRes (dcE t) (dcS t) e w w' := by
  go_enter Tryd.func42, Tryd.ntmps42
  go_wp2_with (go_at_call 83; refine (refdecode_any t _ ht).mono ?_; rintro e w1 ⟨hB, A, B, c, d, ss, ws, m, E, rfl, hO1, hO2, hX⟩)
  go_ret2
  exact ⟨A, c, ss, E, rfl, hO1, hB, Lib.hid ⟨hX.out.1, hX.out.2.2.2⟩⟩
set_option maxRecDepth 100000 in
theorem refWidths_any (t : ByteArray) (w : World) (ht : t.size ≤ maxLen) :
    Calls Tryd.prog 44 #[.string t] w fun e w' => ListRes (dcE t) (dcW t) e w w' := by
  go_enter Tryd.func44, Tryd.ntmps44
  go_wp2_with (go_at_call 83; refine (refdecode_any t _ ht).mono ?_; rintro e w1 ⟨hB, A, B, c, d, ss, ws, m, E, rfl, hO1, hO2, hX⟩)
  go_ret2
  exact ⟨B, d, ws, E, rfl, hO2, hB, Lib.hid ⟨hX.out.2.1, hX.out.2.2.2⟩⟩
set_option maxRecDepth 100000 in
theorem refChanges_any (t : ByteArray) (w : World) (ht : t.size ≤ maxLen) :
    Calls Tryd.prog 46 #[.string t] w fun e w' => NumRes (dcE t) (dcC t) e w w' := by
  go_enter Tryd.func46, Tryd.ntmps46
  go_wp2_with (go_at_call 83; refine (refdecode_any t _ ht).mono ?_; rintro e w1 ⟨hB, A, B, c, d, ss, ws, m, E, rfl, hO1, hO2, hX⟩)
  go_ret2
  exact ⟨m, E, rfl, hB, Lib.hid ⟨by rw [hX.out.2.2.1], hX.out.2.2.2⟩⟩
theorem refDecode_eq {t : ByteArray} {w : World} (ht : t.size ≤ maxLen) (E : Int) (he : dcE t = E) :
    Calls Tryd.prog 42 #[.string t] w fun e w' => ∃ (A : Option Addr) (c : Nat) (ss : List Int), e = .returned (.tuple #[.slice A ss.length c, .int .i64 E]) ∧ Out w' A c ss ∧ Below w.heap.size w w' ∧ Hid (ss = dcS t) := by
  refine (refDecode_any t w ht).mono ?_
  rintro e w' ⟨A', c', ss, F, rfl, hO, hB, hF⟩
  obtain rfl := hF.out.2.trans he
  exact ⟨A', c', ss, rfl, hO, hB, Lib.hid hF.out.1⟩

set_option maxRecDepth 100000 in
set_option maxHeartbeats 2000000 in
theorem refIsText_any (s : List Int) (A0 : Option Addr) (c0 : Nat) (t : ByteArray) (w : World) (h : Ints w A0 s) (hl : s.length ≤ maxLen) (ht : t.size ≤ maxLen) :
    Calls Tryd.prog 48 #[.slice A0 s.length c0, .string t] w fun e w' => YesRes (itE s t) (itB s t) e w w' := by
  have H := Lib.hid h
  clear h
  cases hs : vwB s with
  | false =>
    have HS := Lib.hid hs
    have HR : Hid (itE s t = 30 ∧ itB s t = false) := Lib.hid (by simp [itE, itB, hs])
    clear hs
    go_enter Tryd.func48, Tryd.ntmps48
    go_wp2_with (go_at_call 25; refine (refValid_any s _ _ _ H.out hl).mono ?_; rintro e w1 ⟨rfl, rfl⟩; rw [HS.out])
    go_ret2
    exact ⟨false, 30, rfl, Below.refl _ _, Lib.hid ⟨HR.out.2.symm, HR.out.1.symm⟩⟩
  | true =>
    have HS := Lib.hid hs
    have HI := Lib.hid (it_dec (t := t) hs)
    rcases dc_cases t with he | he | he
    · have HE := Lib.hid he
      have HR : Hid (itE s t = 0) := Lib.hid (by obtain ⟨_, hb, _⟩ := dc_zero he; simp [itE, hs, hb])
      clear hs he
      go_enter Tryd.func48, Tryd.ntmps48
      go_wp2_with (first
        | (go_at_call 25; refine (refValid_any s _ _ _ H.out hl).mono ?_; rintro e w1 ⟨rfl, rfl⟩; rw [HS.out])
        | (go_at_call 42; refine (refDecode_eq ht 0 HE.out).mono ?_; rintro e w2 ⟨A2, c2, ss, rfl, hO2, hB2, hss⟩)
        | (go_at_call 28; refine (sameInts_any s ss _ _ _ _ _ (H.out.below hB2) hO2.ints hl).mono ?_; rintro e w3 ⟨rfl, n3, rfl⟩))
      go_ret2
      exact ⟨decide (s = ss), 0, rfl, below_drewN hB2 n3, Lib.hid ⟨by rw [HI.out, HE.out, hss.out]; rfl, HR.out.symm⟩⟩
    · have HE := Lib.hid he
      have HR : Hid (itE s t = 0 ∧ itB s t = false) := Lib.hid (by
        have hb : vbB t = true := by
          cases hv : vbB t with
          | true => rfl
          | false => rw [(dc_bits hv).1] at he; cases he
        exact ⟨by simp [itE, hs, hb], by rw [HI.out, he]; rfl⟩)
      clear hs he
      go_enter Tryd.func48, Tryd.ntmps48
      go_wp2_with (first
        | (go_at_call 25; refine (refValid_any s _ _ _ H.out hl).mono ?_; rintro e w1 ⟨rfl, rfl⟩; rw [HS.out])
        | (go_at_call 42; refine (refDecode_eq ht 3 HE.out).mono ?_; rintro e w2 ⟨A2, c2, ss, rfl, hO2, hB2, hss⟩))
      go_ret2
      exact ⟨false, 0, rfl, hB2, Lib.hid ⟨HR.out.2.symm, HR.out.1.symm⟩⟩
    · have HE := Lib.hid he
      have HR : Hid (itE s t = 31 ∧ itB s t = false) := Lib.hid (by
        have hb := dc_31 he
        exact ⟨by simp [itE, hs, hb], by rw [HI.out, he]; rfl⟩)
      clear hs he
      go_enter Tryd.func48, Tryd.ntmps48
      go_wp2_with (first
        | (go_at_call 25; refine (refValid_any s _ _ _ H.out hl).mono ?_; rintro e w1 ⟨rfl, rfl⟩; rw [HS.out])
        | (go_at_call 42; refine (refDecode_eq ht 31 HE.out).mono ?_; rintro e w2 ⟨A2, c2, ss, rfl, hO2, hB2, hss⟩))
      go_ret2
      exact ⟨false, 31, rfl, hB2, Lib.hid ⟨HR.out.2.symm, HR.out.1.symm⟩⟩
end Go.Proofs.YtcmnjmhedmneiaaDoor
