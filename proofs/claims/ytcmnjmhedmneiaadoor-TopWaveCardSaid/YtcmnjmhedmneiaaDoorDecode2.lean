/-
  Contracts: Decode, Widths, Changes, IsText (wave).
-/
import Derived.Test.YtcmnjmhedmneiaaDoorDecode
namespace Go.Proofs.YtcmnjmhedmneiaaDoor
open Go.RowKit Go.Shelf

set_option maxRecDepth 100000 in
theorem waveDecode_any (t : ByteArray) (w : World) (ht : t.size ≤ maxLen) (hW : Wids w) :
    Calls Tryd.prog 41 #[.string t] w fun e w' => ListRes (dcE t) (dcS t) e w w' := by
  have HW := Lib.hid hW
  clear hW
  go_enter Tryd.func41, Tryd.ntmps41
  go_wp2_with (go_at_call 82; refine (readWave_any t _ ht HW.out).mono ?_; rintro e w1 ⟨hB, A, B, C, c, d, f, zs, ws, ss, m, E, rfl, hO1, hO2, hO3, hX⟩; have hs1 := hB.size)
  go_ret2
  exact ⟨C, f, ss, E, rfl, hO3.below ((Below.refl _ _).alloc (Nat.le_refl _) _), (by repeat (first | with_reducible exact Below.refl _ _ | with_reducible assumption | refine below_drewN ?_ _ | with_reducible refine Below.drew ?_ | (refine Below.setCell ?_ (by first | (simp; done) | (simp; omega) | omega) _) | (refine Below.alloc ?_ (by first | (simp; done) | (simp; omega) | omega) _))), Lib.hid ⟨hX.out.1, hX.out.2.2.2⟩⟩
set_option maxRecDepth 100000 in
theorem waveWidths_any (t : ByteArray) (w : World) (ht : t.size ≤ maxLen) (hW : Wids w) :
    Calls Tryd.prog 43 #[.string t] w fun e w' => ListRes (dcE t) (dcW t) e w w' := by
  have HW := Lib.hid hW
  clear hW
  go_enter Tryd.func43, Tryd.ntmps43
  go_wp2_with (go_at_call 82; refine (readWave_any t _ ht HW.out).mono ?_; rintro e w1 ⟨hB, A, B, C, c, d, f, zs, ws, ss, m, E, rfl, hO1, hO2, hO3, hX⟩; have hs1 := hB.size)
  go_ret2
  exact ⟨B, d, ws, E, rfl, hO2.below ((Below.refl _ _).alloc (Nat.le_refl _) _), (by repeat (first | with_reducible exact Below.refl _ _ | with_reducible assumption | refine below_drewN ?_ _ | with_reducible refine Below.drew ?_ | (refine Below.setCell ?_ (by first | (simp; done) | (simp; omega) | omega) _) | (refine Below.alloc ?_ (by first | (simp; done) | (simp; omega) | omega) _))), Lib.hid ⟨hX.out.2.1, hX.out.2.2.2⟩⟩
set_option maxRecDepth 100000 in
theorem waveChanges_any (t : ByteArray) (w : World) (ht : t.size ≤ maxLen) (hW : Wids w) :
    Calls Tryd.prog 45 #[.string t] w fun e w' => NumRes (dcE t) (dcC t) e w w' := by
  have HW := Lib.hid hW
  clear hW
  go_enter Tryd.func45, Tryd.ntmps45
  go_wp2_with (go_at_call 82; refine (readWave_any t _ ht HW.out).mono ?_; rintro e w1 ⟨hB, A, B, C, c, d, f, zs, ws, ss, m, E, rfl, hO1, hO2, hO3, hX⟩; have hs1 := hB.size)
  go_ret2
  exact ⟨m, E, rfl, (by repeat (first | with_reducible exact Below.refl _ _ | with_reducible assumption | refine below_drewN ?_ _ | with_reducible refine Below.drew ?_ | (refine Below.setCell ?_ (by first | (simp; done) | (simp; omega) | omega) _) | (refine Below.alloc ?_ (by first | (simp; done) | (simp; omega) | omega) _))), Lib.hid ⟨by rw [hX.out.2.2.1], hX.out.2.2.2⟩⟩

/-- What a call answers that returns a yes or no and an error. -/
def YesRes (E : Int) (b : Bool) (e : Ending) (w w' : World) : Prop :=
  ∃ (x : Bool) (F : Int), e = .returned (.tuple #[.bool x, .int .i64 F]) ∧ Below w.heap.size w w' ∧ Hid (x = b ∧ F = E)
set_option maxRecDepth 100000 in
set_option maxHeartbeats 2000000 in
theorem waveIsText_any (s : List Int) (A0 : Option Addr) (c0 : Nat) (t : ByteArray) (w : World) (h : Ints w A0 s) (hl : s.length ≤ maxLen) (ht : t.size ≤ maxLen) (hW : Wids w) :
    Calls Tryd.prog 47 #[.slice A0 s.length c0, .string t] w fun e w' => YesRes (itE s t) (itB s t) e w w' := by
  have H := Lib.hid h
  have HW := Lib.hid hW
  clear h hW
  cases hs : vwB s with
  | false =>
    have HS := Lib.hid hs
    have HR : Hid (itE s t = 30 ∧ itB s t = false) := Lib.hid (by simp [itE, itB, hs])
    clear hs
    go_enter Tryd.func47, Tryd.ntmps47
    go_wp2_with (go_at_call 24; refine (valid_any s _ _ _ H.out hl).mono ?_; rintro e w1 ⟨rfl, rfl⟩; rw [HS.out])
    go_ret2
    exact ⟨false, 30, rfl, Below.refl _ _, Lib.hid ⟨HR.out.2.symm, HR.out.1.symm⟩⟩
  | true =>
    have HS := Lib.hid hs
    cases hv : vbB t with
    | false =>
      have HV := Lib.hid hv
      have HR : Hid (itE s t = 31 ∧ itB s t = false) := Lib.hid (by simp [itE, itB, hs, hv])
      clear hs hv
      go_enter Tryd.func47, Tryd.ntmps47
      go_wp2_with (first
        | (go_at_call 24; refine (valid_any s _ _ _ H.out hl).mono ?_; rintro e w1 ⟨rfl, rfl⟩; rw [HS.out])
        | (go_at_call 26; refine (wavevb_any t _ ht).mono ?_; rintro e w1 ⟨rfl, rfl⟩; rw [HV.out]))
      go_ret2
      exact ⟨false, 31, rfl, Below.refl _ _, Lib.hid ⟨HR.out.2.symm, HR.out.1.symm⟩⟩
    | true =>
      have HV := Lib.hid hv
      have HE : Hid (itE s t = 0) := Lib.hid (by simp [itE, hs, hv])
      cases hr : rdT t with
      | none =>
        have HR : Hid (itB s t = false) := Lib.hid (by simp [itB, hs, hv, hr])
        have HC := Lib.hid (read_none hv HW.out hr)
        clear hs hv hr
        go_enter Tryd.func47, Tryd.ntmps47
        go_wp2_with (first
          | (go_at_call 24; refine (valid_any s _ _ _ H.out hl).mono ?_; rintro e w1 ⟨rfl, rfl⟩; rw [HS.out])
          | (go_at_call 26; refine (wavevb_any t _ ht).mono ?_; rintro e w1 ⟨rfl, rfl⟩; rw [HV.out])
          | (go_at_call 84; refine HC.out.mono ?_; rintro e w2 ⟨rfl, hB2⟩; have hsz := hB2.size))
        go_quiet (fail)
        go_wp2
        go_ret2
        exact ⟨false, 0, rfl, (by repeat (first | with_reducible exact Below.refl _ _ | with_reducible assumption | refine below_drewN ?_ _ | with_reducible refine Below.drew ?_ | (refine Below.setCell ?_ (by first | (simp; done) | (simp; omega) | omega) _) | (refine Below.alloc ?_ (by first | (simp; done) | (simp; omega) | omega) _))), Lib.hid ⟨HR.out.symm, HE.out.symm⟩⟩
      | some x =>
        have HR : Hid (itB s t = decide (dsO x = difL s)) := Lib.hid (it_of hs hv hr)
        have HC := Lib.hid (read_some hv HW.out hr)
        have hsl := (vw_parts hs).1
        clear hs hv hr
        go_enter Tryd.func47, Tryd.ntmps47
        go_wp2_with (first
          | (go_at_call 24; refine (valid_any s _ _ _ H.out hl).mono ?_; rintro e w1 ⟨rfl, rfl⟩; rw [HS.out])
          | (go_at_call 26; refine (wavevb_any t _ ht).mono ?_; rintro e w1 ⟨rfl, rfl⟩; rw [HV.out])
          | (go_at_call 84; refine HC.out.mono ?_; rintro e w2 ⟨A, B, c, d, zs, ws, m, rfl, hO1, hO2, hB2, hm, hfr, hx⟩))
        have hW3 : Below w.heap.size w (w2.alloc (.cells #[.slice A zs.length c, .slice B ws.length d, .int .i64 m] 76)) := hB2.alloc hB2.size _
        have hW23 : Below w2.heap.size w2 (w2.alloc (.cells #[.slice A zs.length c, .slice B ws.length d, .int .i64 m] 76)) := (Below.refl _ _).alloc (Nat.le_refl _) _
        have hO3 := Lib.hid (hO1.below hW23)
        have q0 := (at3_new w2 (.slice A zs.length c) (.slice B ws.length d) (.int .i64 m) 76).c0
        have hb0 : w2.heap.size < (w2.alloc (.cells #[.slice A zs.length c, .slice B ws.length d, .int .i64 m] 76)).heap.size := by simp
        generalize w2.alloc (.cells #[.slice A zs.length c, .slice B ws.length d, .int .i64 m] 76) = W3 at hW3 hO3 q0 hb0 ⊢
        generalize w2.heap.size = b2 at q0 hb0 ⊢
        have HX := Lib.hid hx.out.1
        have hO3d : Hid (Out W3.drew A c zs) := Lib.hid ⟨hO3.out.ints, hO3.out.le, hO3.out.cap⟩
        have HL : Hid (s.length = (difL s).length) := Lib.hid (difG_len 0 s).symm
        have HZ : Hid (zs.length ≤ maxLen) := Lib.hid (Nat.le_trans hO3.out.le hO3.out.cap)
        clear hO1 hO2 hB2 hm hfr hx hW23
        go_region_held3 (fun w' => w'.cell? ⟨b2, 0, none⟩ = some (.slice A zs.length c))
          (exact q0)
          (first
            | (go_at_call 58; refine (differences_any s _ _ _ ((H.out.below hW3).drew) HS.out).mono ?_; rintro e w4 ⟨g, cg, rfl, _, hO4, hB4⟩; have q0 := (hB4.cell (p := ⟨b2, 0, none⟩) hb0).trans q0; have hO5 := hO3d.out.below hB4; have hW4 := below_step hW3.drew hB4)
            | (go_at_call 85; rw [HL.out]; refine (equal_any zs (difL s) _ _ _ _ _ hO5.ints hO4.ints HZ.out (by rw [← HL.out]; exact hl)).mono ?_; rintro e w6 ⟨rfl, hB6⟩; have q0 := (hB6.cell (p := ⟨b2, 0, none⟩) (Nat.lt_of_lt_of_le hb0 hB4.size)).trans q0; have hW6 := below_step hW4 hB6))
        go_wp2
        go_ret2
        exact ⟨decide (zs = difL s), 0, rfl, hW6, Lib.hid ⟨by rw [HR.out, HX.out], HE.out.symm⟩⟩
end Go.Proofs.YtcmnjmhedmneiaaDoor
