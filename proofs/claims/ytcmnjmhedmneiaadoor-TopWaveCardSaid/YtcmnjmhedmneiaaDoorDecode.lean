/-
  Contracts: slices.Equal of ints, readWave, Decode, Widths, Changes, IsText (wave).
-/
import Derived.Test.YtcmnjmhedmneiaaDoorRead
namespace Go.Proofs.YtcmnjmhedmneiaaDoor
open Go.RowKit Go.Shelf

theorem equal_any (xs ys : List Int) (A B : Option Addr) (c d : Nat) (w : World) (hA : Ints w A xs) (hB : Ints w B ys) (hx : xs.length ≤ maxLen) (hy : ys.length ≤ maxLen) :
    Calls Tryd.prog 85 #[.slice A xs.length c, .slice B ys.length d] w fun e w' => e = .returned (.bool (decide (xs = ys))) ∧ Below w.heap.size w w' := by
  unfold maxLen at hx hy
  by_cases hl : xs.length = ys.length
  · rcases Nat.eq_zero_or_pos xs.length with h0 | h0
    · obtain rfl := List.eq_nil_of_length_eq_zero h0
      obtain rfl := List.eq_nil_of_length_eq_zero (show ys.length = 0 by omega)
      refine (slices_Equal_int_empty A B c 0 d w (by omega)).mono ?_
      rintro e w' ⟨rfl, rfl⟩
      exact ⟨rfl, Below.refl _ _⟩
    · obtain ⟨b1, o1, e1, _, hc1⟩ := hA.open_ h0
      obtain ⟨b2, o2, e2, _, hc2⟩ := hB.open_ (show 0 < ys.length by omega)
      subst e1 e2
      refine (slices_Equal_int b1 o1 xs.length c b2 o2 ys.length d xs ys w (Nat.le_refl _) (Nat.le_refl _) (by omega) (by omega)
        (fun j hj => hc1 j _ (by rw [List.getD_eq_getElem?_getD, List.getElem?_eq_getElem hj]; rfl)) (fun j hj => hc2 j _ (by rw [List.getD_eq_getElem?_getD, List.getElem?_eq_getElem hj]; rfl))).mono ?_
      rintro e w' ⟨rfl, q, rfl⟩
      refine ⟨?_, below_drewN (Below.refl _ _) q⟩
      rw [List.take_length, List.take_length]
      congr 2
      rw [Bool.eq_iff_iff]; simp
  · refine (slices_Equal_int_lens A B xs.length c ys.length d w hl).mono ?_
    rintro e w' ⟨rfl, rfl⟩
    exact ⟨by rw [decide_eq_false]; rintro rfl; exact hl rfl, Below.refl _ _⟩

theorem fit_bd {ps : List (Int × Nat)} (h : Fits ps) : ∀ p ∈ ps, -1023 ≤ p.1 ∧ p.1 ≤ 1023 := by
  intro p hp
  have h1 := h p hp
  have h2 := half_bd (wdN p.2) (by have := wd_bd p.2; omega)
  have h3 := h1.2
  simp only [canB, decide_eq_true_eq] at h3
  omega
theorem rd_fits {t : ByteArray} {x : List (Int × Nat) × Nat} (hb : vbB t = true) (h : rdT t = some x) : Fits x.1 :=
  (rd_reads _ 2 _ (Nat.lt_succ_self _) (by omega) (vb_parts hb).2 x.1 x.2 h).1
theorem ds_bd {t : ByteArray} {x : List (Int × Nat) × Nat} (hb : vbB t = true) (h : rdT t = some x) : ∀ d ∈ dsO x, -1023 ≤ d ∧ d ≤ 1023 := by
  intro d hd
  obtain ⟨p, hp, rfl⟩ := List.mem_map.1 hd
  exact fit_bd (rd_fits hb h) p hp
theorem ds_i64 {t : ByteArray} {x : List (Int × Nat) × Nat} (hb : vbB t = true) (h : rdT t = some x) : I64s (dsO x) := fun d hd => by
  have := ds_bd hb h d hd; omega

/-- What readWave answers: a message, a wave form and an error. -/
def RwRes (t : ByteArray) (e : Ending) (w w' : World) : Prop :=
  Below w.heap.size w w' ∧ ∃ (A B C : Option Addr) (c d f : Nat) (zs ws ss : List Int) (m : Nat) (E : Int),
    e = .returned (.tuple #[.agg #[.slice A zs.length c, .slice B ws.length d, .int .i64 m], .slice C ss.length f, .int .i64 E]) ∧ Out w' A c zs ∧ Out w' B d ws ∧ Out w' C f ss ∧ Hid (ss = dcS t ∧ ws = dcW t ∧ m = dcC t ∧ E = dcE t)

theorem read_none {t : ByteArray} {w : World} (hb : vbB t = true) (hW : Wids w) (hr : rdT t = none) :
    Calls Tryd.prog 84 #[.string t] w fun e w' => e = .returned (.tuple #[.agg #[.slice none 0 0, .slice none 0 0, .int .i64 0], .bool false]) ∧ Below w.heap.size w w' := by
  refine (waveread_any t w hb hW).mono ?_
  rintro e w' ⟨hB, (⟨_, _, _, _, _, _, _, _, _, _, _, _, hx⟩ | ⟨rfl, _⟩)⟩
  · obtain ⟨x, hx, _⟩ := hx.out
    rw [hr] at hx; cases hx
  · exact ⟨rfl, hB⟩
theorem read_some {t : ByteArray} {w : World} {x : List (Int × Nat) × Nat} (hb : vbB t = true) (hW : Wids w) (hr : rdT t = some x) :
    Calls Tryd.prog 84 #[.string t] w fun e w' => ∃ (A B : Option Addr) (c d : Nat) (zs ws : List Int) (m : Nat), e = .returned (.tuple #[.agg #[.slice A zs.length c, .slice B ws.length d, .int .i64 m], .bool true]) ∧ Out w' A c zs ∧ Out w' B d ws ∧ Below w.heap.size w w' ∧ m ≤ 1000 ∧ Hid (Fr (w.heap.size + 2) A ∧ Fr (w.heap.size + 2) B) ∧ Hid (zs = dsO x ∧ ws = wsO x ∧ m = x.2) := by
  refine (waveread_any t w hb hW).mono ?_
  rintro e w' ⟨hB, (⟨A, B, c, d, zs, ws, m, rfl, h1, h2, hm, hfr, hx⟩ | ⟨_, hx⟩)⟩
  · obtain ⟨y, hy, e1, e2, e3⟩ := hx.out
    rw [hr] at hy
    obtain rfl := Option.some.inj hy
    exact ⟨A, B, c, d, zs, ws, m, rfl, h1, h2, hB, hm, hfr, Lib.hid ⟨e1, e2, e3⟩⟩
  · rw [hr] at hx; cases hx.out
theorem samples_some {l zs : List Int} {A : Option Addr} {c : Nat} {w : World} (h : Ints w A zs) (hl : zs.length ≤ maxLen) (hz : zs = l) (hw : I64s l) (hv : vwB (sumL l) = true) :
    Calls Tryd.prog 60 #[.slice A zs.length c] w fun e w' => ∃ (A : Option Addr) (c : Nat) (ss : List Int), e = .returned (.tuple #[.slice A ss.length c, .bool true]) ∧ Out w' A c ss ∧ Below w.heap.size w w' ∧ Hid (Fr w.heap.size A) ∧ Hid (ss = sumL l) := by
  subst hz
  refine (samplesF_any zs A c w h hl hw).mono ?_
  rintro e w' (⟨_, A, c, ss, rfl, hO, hs, hB, hf⟩ | ⟨hv2, _, _⟩)
  · exact ⟨A, c, ss, rfl, hO, hB, Lib.hid hf, Lib.hid hs⟩
  · rw [hv] at hv2; cases hv2
theorem samples_none {l zs : List Int} {A : Option Addr} {c : Nat} {w : World} (h : Ints w A zs) (hl : zs.length ≤ maxLen) (hz : zs = l) (hw : I64s l) (hv : vwB (sumL l) = false) :
    Calls Tryd.prog 60 #[.slice A zs.length c] w fun e w' => e = .returned (.tuple #[.slice none 0 0, .bool false]) ∧ Below w.heap.size w w' := by
  subst hz
  refine (samplesOf_any zs A c w h hl hw).mono ?_
  rintro e w' (⟨hv2, _⟩ | ⟨_, rfl, hB⟩)
  · rw [hv] at hv2; cases hv2
  · exact ⟨rfl, hB⟩

set_option maxRecDepth 100000 in
set_option maxHeartbeats 2000000 in
theorem readWave_any (t : ByteArray) (w : World) (ht : t.size ≤ maxLen) (hW : Wids w) :
    Calls Tryd.prog 82 #[.string t] w fun e w' => RwRes t e w w' := by
  have HW := Lib.hid hW
  have hB0 : Below w.heap.size w (w.alloc (.cells #[.slice none 0 0, .slice none 0 0, .int .i64 0] 76)) := (Below.refl _ _).alloc (Nat.le_refl _) _
  have HR0 := Lib.hid (at3_new w (.slice none 0 0) (.slice none 0 0) (.int .i64 0) 76)
  have hs0 : w.heap.size < (w.alloc (.cells #[.slice none 0 0, .slice none 0 0, .int .i64 0] 76)).heap.size := by simp
  clear hW
  cases hv : vbB t with
  | false =>
    have HV := Lib.hid hv
    have HD := Lib.hid (dc_bits hv)
    clear hv hB0 hs0
    go_enter Tryd.func82, Tryd.ntmps82
    go_wp2_with (go_at_call 26; refine (wavevb_any t _ ht).mono ?_; rintro e w1 ⟨rfl, rfl⟩; rw [HV.out])
    refine bodyPost_ret (v := .tuple #[.agg #[.slice none 0 0, .slice none 0 0, .int .i64 0], .slice none 0 0, .int .i64 31]) (by simp [results, Tryd.results82, go_sem]) rfl ?_
    exact ⟨(by repeat (first | with_reducible exact Below.refl _ _ | with_reducible assumption | refine below_drewN ?_ _ | with_reducible refine Below.drew ?_ | (refine Below.setCell ?_ (by first | (simp; done) | (simp; omega) | omega) _) | (refine Below.alloc ?_ (by first | (simp; done) | (simp; omega) | omega) _))), none, none, none, 0, 0, 0, [], [], [], 0, 31, rfl, Out.nil_, Out.nil_, Out.nil_, Lib.hid ⟨HD.out.2.1.symm, HD.out.2.2.1.symm, HD.out.2.2.2.symm, HD.out.1.symm⟩⟩
  | true =>
    have HV := Lib.hid hv
    cases hr : rdT t with
    | none =>
      have HD := Lib.hid (dc_none hv hr)
      have HC := Lib.hid (read_none hv (HW.out.below hB0) hr)
      clear hv hr
      go_enter Tryd.func82, Tryd.ntmps82
      go_wp2_with (first
        | (go_at_call 26; refine (wavevb_any t _ ht).mono ?_; rintro e w1 ⟨rfl, rfl⟩; rw [HV.out])
        | (go_at_call 84; refine HC.out.mono ?_; rintro e w2 ⟨rfl, hB2⟩; have hlt2 : w.heap.size < w2.heap.size := Nat.lt_of_lt_of_le hs0 hB2.size; have HR2 := Lib.hid (HR0.out.below hB2 hs0); have r0 := HR2.out.c0; have r1 := HR2.out.c1; have r2 := HR2.out.c2; have g0 := HR2.out.f0; have g1 := HR2.out.f1; have g2 := HR2.out.f2; have hB3 := below_step hB0 hB2))
      have P0 := HR2.out.put (.slice none 0 0) (.slice none 0 0) (.int .i64 0)
      have hP := put_below hB3 (Nat.le_refl w.heap.size) (.slice none 0 0) (.slice none 0 0) (.int .i64 0)
      have hsP : w.heap.size < (((w2.setCell ⟨w.heap.size, 0, none⟩ (.slice none 0 0)).setCell ⟨w.heap.size, 1, none⟩ (.slice none 0 0)).setCell ⟨w.heap.size, 2, none⟩ (.int .i64 0)).heap.size := by simp; omega
      have P := P0.below ((Below.refl _ _).alloc (Nat.le_refl _) (.cells #[.slice none 0 0, .slice none 0 0, .int .i64 0] 76)) hsP
      refine bodyPost_ret (v := .tuple #[.agg #[.slice none 0 0, .slice none 0 0, .int .i64 0], .slice none 0 0, .int .i64 3]) (by simp [results, Tryd.results82, go_sem, P.c0, P.c1, P.c2]) rfl ?_
      exact ⟨hP.alloc (Nat.le_of_lt hsP) _, none, none, none, 0, 0, 0, [], [], [], 0, 3, rfl, Out.nil_, Out.nil_, Out.nil_, Lib.hid ⟨HD.out.2.1.symm, HD.out.2.2.1.symm, HD.out.2.2.2.symm, HD.out.1.symm⟩⟩
    | some x =>
      have HC := Lib.hid (read_some hv (HW.out.below hB0) hr)
      have HI := Lib.hid (ds_i64 hv hr)
      cases hs : vwB (sumL (dsO x)) with
      | false =>
        have HD := Lib.hid (dc_form hv hr hs)
        have HS := Lib.hid hs
        clear hv hr hs
        go_enter Tryd.func82, Tryd.ntmps82
        go_wp2_with (first
          | (go_at_call 26; refine (wavevb_any t _ ht).mono ?_; rintro e w1 ⟨rfl, rfl⟩; rw [HV.out])
          | (go_at_call 84; refine HC.out.mono ?_; rintro e w2 ⟨A, B, c, d, zs, ws, m, rfl, hO1, hO2, hB2, hm, hfr, hx⟩; have hlt2 : w.heap.size < w2.heap.size := Nat.lt_of_lt_of_le hs0 hB2.size; have HR2 := Lib.hid (HR0.out.below hB2 hs0); have r0 := HR2.out.c0; have r1 := HR2.out.c1; have r2 := HR2.out.c2; have g0 := HR2.out.f0; have g1 := HR2.out.f1; have g2 := HR2.out.f2; have hB3 := below_step hB0 hB2)
          | (go_at_call 60; refine (samples_none (l := dsO x) (hO1.ints.below ((Below.refl _ _).alloc (Nat.le_refl _) _)) (Nat.le_trans hO1.le hO1.cap) hx.out.1 HI.out HS.out).mono ?_; rintro e w4 ⟨rfl, hB4⟩; have HR4 := Lib.hid (HR2.out.below (below_step ((Below.refl w2.heap.size w2).alloc (Nat.le_refl _) (.cells #[.slice A zs.length c, .slice B ws.length d, .int .i64 m] 76)) hB4) hlt2); have r0 := HR4.out.c0; have r1 := HR4.out.c1; have r2 := HR4.out.c2; have g0 := HR4.out.f0; have g1 := HR4.out.f1; have g2 := HR4.out.f2; have hB5 := below_step hB3 (below_step ((Below.refl w2.heap.size w2).alloc (Nat.le_refl _) _) hB4)))
        have P := HR4.out.put (.slice none 0 0) (.slice none 0 0) (.int .i64 0)
        refine bodyPost_ret (v := .tuple #[.agg #[.slice none 0 0, .slice none 0 0, .int .i64 0], .slice none 0 0, .int .i64 3]) (by simp [results, Tryd.results82, go_sem, P.c0, P.c1, P.c2]) rfl ?_
        exact ⟨put_below hB5 (Nat.le_refl _) _ _ _, none, none, none, 0, 0, 0, [], [], [], 0, 3, rfl, Out.nil_, Out.nil_, Out.nil_, Lib.hid ⟨HD.out.2.1.symm, HD.out.2.2.1.symm, HD.out.2.2.2.symm, HD.out.1.symm⟩⟩
      | true =>
        have HD := Lib.hid (dc_ok hv hr hs)
        have HS := Lib.hid hs
        clear hv hr hs
        go_enter Tryd.func82, Tryd.ntmps82
        go_wp2_with (first
          | (go_at_call 26; refine (wavevb_any t _ ht).mono ?_; rintro e w1 ⟨rfl, rfl⟩; rw [HV.out])
          | (go_at_call 84; refine HC.out.mono ?_; rintro e w2 ⟨A, B, c, d, zs, ws, m, rfl, hO1, hO2, hB2, hm, hfr, hx⟩; have hlt2 : w.heap.size < w2.heap.size := Nat.lt_of_lt_of_le hs0 hB2.size; have HR2 := Lib.hid (HR0.out.below hB2 hs0); have r0 := HR2.out.c0; have r1 := HR2.out.c1; have r2 := HR2.out.c2; have g0 := HR2.out.f0; have g1 := HR2.out.f1; have g2 := HR2.out.f2; have hB3 := below_step hB0 hB2)
          | (go_at_call 60; refine (samples_some (l := dsO x) (hO1.ints.below ((Below.refl _ _).alloc (Nat.le_refl _) _)) (Nat.le_trans hO1.le hO1.cap) hx.out.1 HI.out HS.out).mono ?_; rintro e w4 ⟨C, f, ss, rfl, hO3, hB4, hfr3, hss⟩; have HA4 := Lib.hid ((below_step ((Below.refl w2.heap.size w2).alloc (Nat.le_refl _) (.cells #[.slice A zs.length c, .slice B ws.length d, .int .i64 m] 76)) hB4)); have HR4 := Lib.hid (HR2.out.below HA4.out hlt2); have HM4 := Lib.hid ((at3_new w2 (.slice A zs.length c) (.slice B ws.length d) (.int .i64 m) 76).below hB4 (by simp)); have r0 := HR4.out.c0; have r1 := HR4.out.c1; have r2 := HR4.out.c2; have g0 := HR4.out.f0; have g1 := HR4.out.f1; have g2 := HR4.out.f2; have s0 := HM4.out.c0; have s1 := HM4.out.c1; have s2 := HM4.out.c2; have hB5 := below_step hB3 HA4.out))
        have P := HR4.out.put (.slice A zs.length c) (.slice B ws.length d) (.int .i64 m)
        have hBP := put_below hB5 (Nat.le_refl _) (.slice A zs.length c) (.slice B ws.length d) (.int .i64 m)
        refine bodyPost_ret (v := .tuple #[.agg #[.slice A zs.length c, .slice B ws.length d, .int .i64 m], .slice C ss.length f, .int .i64 0]) (by simp [results, Tryd.results82, go_sem, P.c0, P.c1, P.c2]) rfl ?_
        have hs4 := HA4.out.size
        have hpc : ∀ p : Addr, w.heap.size + 1 ≤ p.block → p.block < w4.heap.size → (((w4.setCell ⟨w.heap.size, 0, none⟩ (.slice A zs.length c)).setCell ⟨w.heap.size, 1, none⟩ (.slice B ws.length d)).setCell ⟨w.heap.size, 2, none⟩ (.int .i64 m)).cell? p = w4.cell? p := fun p hp _ => by
          have hne : ∀ i : Nat, (⟨w.heap.size, i, none⟩ : Addr) ≠ p := fun i e => by rw [← e] at hp; simp at hp; omega
          rw [World.cell?_setCell_other _ _ _ _ (hne 2), World.cell?_setCell_other _ _ _ _ (hne 1), World.cell?_setCell_other _ _ _ _ (hne 0)]
        have hf1 := hfr.out.1
        have hf2 := hfr.out.2
        have hx1 := hx.out
        refine ⟨hBP, A, B, C, c, d, f, zs, ws, ss, m, 0, rfl, ((hO1.below HA4.out).apart (hf1.less (by simp)) (by simp) hpc), ((hO2.below HA4.out).apart (hf2.less (by simp)) (by simp) hpc), (hO3.apart (hfr3.out.less (by simp; omega)) (by simp) hpc), Lib.hid ⟨by rw [hss.out, HD.out.2.1], by rw [hx1.2.1, HD.out.2.2.1], by rw [hx1.2.2, HD.out.2.2.2], HD.out.1.symm⟩⟩
end Go.Proofs.YtcmnjmhedmneiaaDoor
