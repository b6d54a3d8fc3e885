/-
  The walk of TopWave: it returns true, whatever it is given.
-/
import Derived.Test.YtcmnjmhedmneiaaDoorTopAll
namespace Go.Proofs.YtcmnjmhedmneiaaDoor
open Go.RowKit Go.Shelf

set_option maxRecDepth 100000 in
set_option maxHeartbeats 4000000 in
theorem topWave_pt (s : List Int) (A : Option Addr) (c : Nat) (l : List Int) (B : Option Addr) (d : Nat) (t : ByteArray) (w : World) (HW : Hid (Wids w)) (H : Hid (Ints w A s)) (hsl : s.length ≤ maxLen) (HL : Hid (Ints w B l)) (hll : l.length ≤ maxLen) (ht : t.size ≤ maxLen)
    (t1 : decide (200 < s.length) = false) (t2 : decide (200 < l.length) = false) (t3 : decide (2000 < t.size) = false) (HV : Hid (vwB s = true)) (HE : Hid (plE s l = 0)) (HF : Hid (itE s t = 0)) (HB : Hid (itB s t = true)) :
    Calls Tryd.prog 16 #[.slice A s.length c, .slice B l.length d, .string t] w fun e w' => e = .returned (.bool true) ∧ Below w.heap.size w w' := by
  have HBN0 := enc_bnd HV.out
  obtain ⟨bn, hbn⟩ : ∃ bn, bndI (difL s) = bn := ⟨_, rfl⟩
  rw [hbn] at HBN0
  have HBN := Lib.hid HBN0
  have HBD := Lib.hid hbn
  clear HBN0 hbn
  have TA : Hid True := Lib.hid trivial
  go_enter Tryd.func16, Tryd.ntmps16
  go_upto_region 8 with (first
    | (go_at_call 17; clear TA; refine (many_any s _ _ _).mono ?_; rintro e w' ⟨rfl, rfl⟩)
    | (go_at_call 17; refine (many_any l _ _ _).mono ?_; rintro e w' ⟨rfl, rfl⟩)
    | (go_at_call 18; refine (lawLong_any t _).mono ?_; rintro e w' ⟨rfl, rfl⟩)
    | (go_at_call 25; refine (refValid_any s _ _ _ H.out hsl).mono ?_; rintro e w' ⟨rfl, rfl⟩; rw [HV.out])
    | (go_at_call 33; refine (encode_eq H.out hsl HW.out HV.out).mono ?_; rintro e w1 ⟨q, rfl, hB1, hq⟩; have HQS : Hid ((encT s).length = q.size) := Lib.hid (by rw [hq.out, sv_size]))
    | (go_at_call 37; refine (wide_eq (H.out.below hB1) hsl (HW.out.below hB1) HV.out).mono ?_; rintro e w2 ⟨r, rfl, hB2, hr⟩; have hW2 := below_step hB1 hB2)
    | (go_at_call 39; refine (bound_eq (H.out.below hW2) hsl (HW.out.below hW2) HV.out).mono ?_; rintro e w3 ⟨rfl, hB3⟩; rw [HBD.out]; have hW3 := below_step hW2 hB3; have z0 : bn ≤ (q.size : Int) := (by rw [← HQS.out]; exact HBN.out)))
  have HG1 := Lib.hid (enc_good HV.out hq.out)
  have HG2 := Lib.hid (wide_good HV.out hr.out)
  have own0 : (w3.alloc (.cells #[.string q, .string r] 9)).ownsRow w.heap.size 9 1 (.slice (some ⟨w3.heap.size, 0, none⟩) 2 2) 2 ([q, r].map Value.string) := row_fullB (heap_alloc_new w3 _) hW3.size rfl (by unfold maxLen; omega)
  have hWa : Below w.heap.size w (w3.alloc (.cells #[.string q, .string r] 9)) := hW3.alloc hW3.size _
  clear z0 hB1 hB2 hB3 hW2 hW3
  go_upto_region 10 with (go_at_call 49; refine (plan_eq (H.out.below hWa) (HL.out.below hWa) hsl hll (HW.out.below hWa) HE.out).mono ?_; rintro e w5 ⟨p, rfl, hB5, hp⟩; have hWb := below_step hWa hB5; have own1 := own_below own0 hB5)
  have hszb := hWb.size
  clear hWa own0 hB5
  have HG3 := Lib.hid (plan_good HE.out hp.out)
  go_upto_region 12 with (at_builtin; refine wp_app_str _ rfl (.tmp 87) (.tmp 89) rfl w.heap.size _ 2 [q, r] p rfl own1 rfl (by omega) hszb ?_; intro g6 c6 w6 own2 hB6; have hWc := hWb.trans hB6)
  clear own1 hWb hB6
  generalize hT1 : [q, r] ++ [p] = T1 at own2
  have HT1 := Lib.hid hT1
  clear hT1
  go_upto_region 13 with (go_at_call 48; refine (refIsText_eq (H.out.below hWc) hsl ht HF.out HB.out).mono ?_; rintro e w7 ⟨rfl, hB7⟩; have hWd := below_step hWc hB7; have own3 := own_below own2 hB7)
  have hszd := hWd.size
  clear hWc own2 hB7
  go_upto_region 15 with (at_builtin; refine wp_app_str _ rfl (.tmp 102) (.tmp 104) rfl w.heap.size _ 3 T1 t rfl own3 rfl (by omega) hszd ?_; intro g8 c8 w8 own4 hB8; have hWe := hWd.trans hB8)
  clear own3 hWd hB8
  obtain ⟨T, hT⟩ : ∃ T, T = T1 ++ [t] := ⟨_, rfl⟩
  have HAll : Hid (AllT s T) := Lib.hid (by
    intro x hx
    rw [hT, ← HT1.out] at hx
    simp only [List.mem_append, List.mem_cons, List.not_mem_nil, or_false] at hx
    rcases hx with ((rfl | rfl) | rfl) | rfl
    · exact HG1.out
    · exact HG2.out
    · exact HG3.out
    · exact HB.out
    )
  have HTL : Hid (T.length = 4) := Lib.hid (by rw [hT, ← HT1.out]; rfl)
  rw [← hT] at own4
  obtain ⟨gg, hgg⟩ : ∃ gg, gg = g8 := ⟨_, rfl⟩
  rw [← hgg] at own4
  rw [← hgg]
  have HC0 := Lib.hid (fun k (hk : k < 4) => own4.cellAt k (by omega))
  have hgW : gg < w8.heap.size := (own_lt own4 rfl).2
  have HWf := Lib.hid hWe
  clear own4 hWe hT hgg
  go_wp2
  go_loopw [108] (fun i wr => ∃ k : Nat, k ≤ 4 ∧ i = .int .i64 k ∧ Below w8.heap.size w8 wr) (fun i _ => 4 - (intOf i).toNat)
  case atStart => exact ⟨0, Nat.zero_le _, rfl, Below.refl _ _⟩
  case round =>
    obtain ⟨k, hk, rfl, hB⟩ := hrel
    have hWr := below_step HWf.out hB
    by_cases hlt : k < 4
    · obtain ⟨x, hx⟩ := getElem?_of_lt (show k < T.length by rw [HTL.out]; exact hlt)
      have f0 := (hB.cell (p := ⟨gg, k, none⟩) hgW).trans (HC0.out k hlt)
      rw [List.getElem?_map, hx] at f0
      have f1 : wr.cell? ⟨gg, k, none⟩ = some (.string x) := f0
      have hgd := HAll.out x (List.mem_of_getElem? hx)
      have HIT := Lib.hid hgd
      have HLE := Lib.hid (it_least2 hgd)
      obtain ⟨ws, d0, d1, d2, d3, d4, d5, d6, d7, d8, d9⟩ := good_all hgd
      have HD := Lib.hid (And.intro d0 (And.intro d1 (And.intro d2 (And.intro d3 (And.intro d4 d5)))))
      have D6 := Lib.hid d6
      have D7 := Lib.hid d7
      have hxs : x.size ≤ maxLen := max_small d9
      have hwl : ws.length ≤ maxLen := by rw [d8]; exact hsl
      have y1 : q.size ≤ x.size := by rw [← HQS.out]; omega
      have TD : Hid True := Lib.hid trivial
      clear f0 hx hgd d0 d1 d2 d3 d4 d5 d6 d7 d8 d9
      have HFZ : Hid (x.size = q.size → Op.bytesLess x.toList q.toList = false) := Lib.hid (fun he => by
        rw [Lib.toList_data, hq.out, Lib.toList_data]
        exact HLE.out.less (by rw [HQS.out]; simpa using he))
      by_cases hxq : x.size = q.size
      · have y2 := HFZ.out hxq
        have HXQ := Lib.hid hxq
        have y3 : ((x.size : Int) == (q.size : Int)) = true := by rw [hxq]; simp
        clear hxq HFZ
        go_wp2_with (first
          | (go_at_call 41; refine (decode_eq (q := x) (l := s) hxs (HW.out.below hWr) HD.out.1 HD.out.2.1).mono ?_; rintro e w11 ⟨A11, c11, rfl, hO11, hB11⟩; have hV11 := below_step hWr hB11)
          | (go_at_call 47; refine (isText_eq (q := x) (H.out.below hV11) hsl hxs (HW.out.below hV11) HD.out.2.2.2.1 HIT.out).mono ?_; rintro e w12 ⟨rfl, hB12⟩; have hV12 := below_step hV11 hB12; have hO11 := hO11.below hB12)
          | (go_at_call 51; refine (pack_eq (t := x) hxs HD.out.2.2.2.2.1).mono ?_; rintro e w13 ⟨A13, c13, zs, rfl, hO13, hB13, hz⟩; have hV13 := below_step hV12 hB13; have hO11 := hO11.below hB13)
          | (go_at_call 28; refine (sameInts_same s _ _ _ _ _ hO11.ints (H.out.below hV13) hsl).mono ?_; rintro e w14 ⟨rfl, hB14⟩; have hV14 := below_step hV13 hB14; have hO13 := hO13.below hB14)
          | (go_at_call 53; refine (unpack_back hO13.bts hz.out HD.out.2.2.2.2.1).mono ?_; rintro e w15 ⟨rfl, hB15⟩; have hV15 := below_step hV14 hB15)
          | (go_at_call 43; refine (widths_eq (q := x) (l := ws) hxs (HW.out.below hV15) HD.out.1 HD.out.2.2.1).mono ?_; rintro e w16 ⟨A16, c16, rfl, hO16, hB16⟩; have hV16 := below_step hV15 hB16)
          | (go_at_call 49; refine (plan_eq (H.out.below hV16) hO16.ints hsl hwl (HW.out.below hV16) HD.out.2.2.2.2.2).mono ?_; rintro e w17 ⟨sh, rfl, hB17, hsh⟩; have hV17 := below_step hV16 hB17; have y4 : sh.size ≤ x.size := (by rw [hsh.out, sv_size (plT s ws)]; exact D6.out); have y5 : q.size ≤ sh.size := (by have hd7 := D7.out; rw [HQS.out] at hd7; rw [hsh.out, sv_size (plT s ws)]; exact hd7)))
        have hBn := (((((hB11.trans (hB12.mono hB11.size)).trans (hB13.mono (Nat.le_trans hB11.size hB12.size))).trans (hB14.mono (Nat.le_trans (Nat.le_trans hB11.size hB12.size) hB13.size))).trans (hB15.mono (Nat.le_trans (Nat.le_trans (Nat.le_trans hB11.size hB12.size) hB13.size) hB14.size))).trans (hB16.mono (Nat.le_trans (Nat.le_trans (Nat.le_trans (Nat.le_trans hB11.size hB12.size) hB13.size) hB14.size) hB15.size))).trans (hB17.mono (Nat.le_trans (Nat.le_trans (Nat.le_trans (Nat.le_trans (Nat.le_trans hB11.size hB12.size) hB13.size) hB14.size) hB15.size) hB16.size))
        go_roundw
        case rel => exact ⟨k + 1, by omega, by go_num, below_step hB hBn⟩
        case measure => simp [intOf]; omega
      · have y3 : ((x.size : Int) == (q.size : Int)) = false := beq_eq_false_iff_ne.2 (by omega)
        have HXQ : Hid True := Lib.hid trivial
        clear HFZ
        go_wp2_with (first
          | (go_at_call 41; refine (decode_eq (q := x) (l := s) hxs (HW.out.below hWr) HD.out.1 HD.out.2.1).mono ?_; rintro e w11 ⟨A11, c11, rfl, hO11, hB11⟩; have hV11 := below_step hWr hB11)
          | (go_at_call 47; refine (isText_eq (q := x) (H.out.below hV11) hsl hxs (HW.out.below hV11) HD.out.2.2.2.1 HIT.out).mono ?_; rintro e w12 ⟨rfl, hB12⟩; have hV12 := below_step hV11 hB12; have hO11 := hO11.below hB12)
          | (go_at_call 51; refine (pack_eq (t := x) hxs HD.out.2.2.2.2.1).mono ?_; rintro e w13 ⟨A13, c13, zs, rfl, hO13, hB13, hz⟩; have hV13 := below_step hV12 hB13; have hO11 := hO11.below hB13)
          | (go_at_call 28; refine (sameInts_same s _ _ _ _ _ hO11.ints (H.out.below hV13) hsl).mono ?_; rintro e w14 ⟨rfl, hB14⟩; have hV14 := below_step hV13 hB14; have hO13 := hO13.below hB14)
          | (go_at_call 53; refine (unpack_back hO13.bts hz.out HD.out.2.2.2.2.1).mono ?_; rintro e w15 ⟨rfl, hB15⟩; have hV15 := below_step hV14 hB15)
          | (go_at_call 43; refine (widths_eq (q := x) (l := ws) hxs (HW.out.below hV15) HD.out.1 HD.out.2.2.1).mono ?_; rintro e w16 ⟨A16, c16, rfl, hO16, hB16⟩; have hV16 := below_step hV15 hB16)
          | (go_at_call 49; refine (plan_eq (H.out.below hV16) hO16.ints hsl hwl (HW.out.below hV16) HD.out.2.2.2.2.2).mono ?_; rintro e w17 ⟨sh, rfl, hB17, hsh⟩; have hV17 := below_step hV16 hB17; have y4 : sh.size ≤ x.size := (by rw [hsh.out, sv_size (plT s ws)]; exact D6.out); have y5 : q.size ≤ sh.size := (by have hd7 := D7.out; rw [HQS.out] at hd7; rw [hsh.out, sv_size (plT s ws)]; exact hd7)))
        have hBn := (((((hB11.trans (hB12.mono hB11.size)).trans (hB13.mono (Nat.le_trans hB11.size hB12.size))).trans (hB14.mono (Nat.le_trans (Nat.le_trans hB11.size hB12.size) hB13.size))).trans (hB15.mono (Nat.le_trans (Nat.le_trans (Nat.le_trans hB11.size hB12.size) hB13.size) hB14.size))).trans (hB16.mono (Nat.le_trans (Nat.le_trans (Nat.le_trans (Nat.le_trans hB11.size hB12.size) hB13.size) hB14.size) hB15.size))).trans (hB17.mono (Nat.le_trans (Nat.le_trans (Nat.le_trans (Nat.le_trans (Nat.le_trans hB11.size hB12.size) hB13.size) hB14.size) hB15.size) hB16.size))
        go_roundw
        case rel => exact ⟨k + 1, by omega, by go_num, below_step hB hBn⟩
        case measure => simp [intOf]; omega
    · obtain rfl : k = 4 := by omega
      go_wp2_with (go_at_call 19; refine (awake_any _ (HW.out.below hWr)).mono ?_; rintro e w' ⟨rfl, hBz⟩)
      go_ret
      exact ⟨rfl, below_step hWr hBz⟩

set_option maxRecDepth 100000 in
set_option maxHeartbeats 4000000 in
theorem topWave_p0 (s : List Int) (A : Option Addr) (c : Nat) (l : List Int) (B : Option Addr) (d : Nat) (t : ByteArray) (w : World) (HW : Hid (Wids w)) (H : Hid (Ints w A s)) (hsl : s.length ≤ maxLen) (HL : Hid (Ints w B l)) (hll : l.length ≤ maxLen) (ht : t.size ≤ maxLen)
    (t1 : decide (200 < s.length) = false) (t2 : decide (200 < l.length) = false) (t3 : decide (2000 < t.size) = false) (HV : Hid (vwB s = true)) (HE : Hid (plE s l = 0)) (HF : Hid (itE s t = 0)) (HB : Hid (itB s t = false)) :
    Calls Tryd.prog 16 #[.slice A s.length c, .slice B l.length d, .string t] w fun e w' => e = .returned (.bool true) ∧ Below w.heap.size w w' := by
  have HBN0 := enc_bnd HV.out
  obtain ⟨bn, hbn⟩ : ∃ bn, bndI (difL s) = bn := ⟨_, rfl⟩
  rw [hbn] at HBN0
  have HBN := Lib.hid HBN0
  have HBD := Lib.hid hbn
  clear HBN0 hbn
  have TA : Hid True := Lib.hid trivial
  go_enter Tryd.func16, Tryd.ntmps16
  go_upto_region 8 with (first
    | (go_at_call 17; clear TA; refine (many_any s _ _ _).mono ?_; rintro e w' ⟨rfl, rfl⟩)
    | (go_at_call 17; refine (many_any l _ _ _).mono ?_; rintro e w' ⟨rfl, rfl⟩)
    | (go_at_call 18; refine (lawLong_any t _).mono ?_; rintro e w' ⟨rfl, rfl⟩)
    | (go_at_call 25; refine (refValid_any s _ _ _ H.out hsl).mono ?_; rintro e w' ⟨rfl, rfl⟩; rw [HV.out])
    | (go_at_call 33; refine (encode_eq H.out hsl HW.out HV.out).mono ?_; rintro e w1 ⟨q, rfl, hB1, hq⟩; have HQS : Hid ((encT s).length = q.size) := Lib.hid (by rw [hq.out, sv_size]))
    | (go_at_call 37; refine (wide_eq (H.out.below hB1) hsl (HW.out.below hB1) HV.out).mono ?_; rintro e w2 ⟨r, rfl, hB2, hr⟩; have hW2 := below_step hB1 hB2)
    | (go_at_call 39; refine (bound_eq (H.out.below hW2) hsl (HW.out.below hW2) HV.out).mono ?_; rintro e w3 ⟨rfl, hB3⟩; rw [HBD.out]; have hW3 := below_step hW2 hB3; have z0 : bn ≤ (q.size : Int) := (by rw [← HQS.out]; exact HBN.out)))
  have HG1 := Lib.hid (enc_good HV.out hq.out)
  have HG2 := Lib.hid (wide_good HV.out hr.out)
  have own0 : (w3.alloc (.cells #[.string q, .string r] 9)).ownsRow w.heap.size 9 1 (.slice (some ⟨w3.heap.size, 0, none⟩) 2 2) 2 ([q, r].map Value.string) := row_fullB (heap_alloc_new w3 _) hW3.size rfl (by unfold maxLen; omega)
  have hWa : Below w.heap.size w (w3.alloc (.cells #[.string q, .string r] 9)) := hW3.alloc hW3.size _
  clear z0 hB1 hB2 hB3 hW2 hW3
  go_upto_region 10 with (go_at_call 49; refine (plan_eq (H.out.below hWa) (HL.out.below hWa) hsl hll (HW.out.below hWa) HE.out).mono ?_; rintro e w5 ⟨p, rfl, hB5, hp⟩; have hWb := below_step hWa hB5; have own1 := own_below own0 hB5)
  have hszb := hWb.size
  clear hWa own0 hB5
  have HG3 := Lib.hid (plan_good HE.out hp.out)
  go_upto_region 12 with (at_builtin; refine wp_app_str _ rfl (.tmp 87) (.tmp 89) rfl w.heap.size _ 2 [q, r] p rfl own1 rfl (by omega) hszb ?_; intro g6 c6 w6 own2 hB6; have hWc := hWb.trans hB6)
  clear own1 hWb hB6
  generalize hT1 : [q, r] ++ [p] = T1 at own2
  have HT1 := Lib.hid hT1
  clear hT1
  go_upto_region 13 with (go_at_call 48; refine (refIsText_eq (H.out.below hWc) hsl ht HF.out HB.out).mono ?_; rintro e w7 ⟨rfl, hB7⟩; have hWd := below_step hWc hB7; have own3 := own_below own2 hB7)
  have hszd := hWd.size
  clear hWc own2 hB7
  go_upto_region 15 with fail
  obtain ⟨T, hT⟩ : ∃ T, T = T1 := ⟨_, rfl⟩
  have HAll : Hid (AllT s T) := Lib.hid (by
    intro x hx
    rw [hT, ← HT1.out] at hx
    simp only [List.mem_append, List.mem_cons, List.not_mem_nil, or_false] at hx
    rcases hx with (rfl | rfl) | rfl
    · exact HG1.out
    · exact HG2.out
    · exact HG3.out
    )
  have HTL : Hid (T.length = 3) := Lib.hid (by rw [hT, ← HT1.out]; rfl)
  rw [← hT] at own3
  obtain ⟨gg, hgg⟩ : ∃ gg, gg = g6 := ⟨_, rfl⟩
  rw [← hgg] at own3
  rw [← hgg]
  have HC0 := Lib.hid (fun k (hk : k < 3) => own3.cellAt k (by omega))
  have hgW : gg < w7.heap.size := (own_lt own3 rfl).2
  have HWf := Lib.hid hWd
  clear own3 hWd hT hgg
  go_wp2
  go_loopw [108] (fun i wr => ∃ k : Nat, k ≤ 3 ∧ i = .int .i64 k ∧ Below w7.heap.size w7 wr) (fun i _ => 3 - (intOf i).toNat)
  case atStart => exact ⟨0, Nat.zero_le _, rfl, Below.refl _ _⟩
  case round =>
    obtain ⟨k, hk, rfl, hB⟩ := hrel
    have hWr := below_step HWf.out hB
    by_cases hlt : k < 3
    · obtain ⟨x, hx⟩ := getElem?_of_lt (show k < T.length by rw [HTL.out]; exact hlt)
      have f0 := (hB.cell (p := ⟨gg, k, none⟩) hgW).trans (HC0.out k hlt)
      rw [List.getElem?_map, hx] at f0
      have f1 : wr.cell? ⟨gg, k, none⟩ = some (.string x) := f0
      have hgd := HAll.out x (List.mem_of_getElem? hx)
      have HIT := Lib.hid hgd
      have HLE := Lib.hid (it_least2 hgd)
      obtain ⟨ws, d0, d1, d2, d3, d4, d5, d6, d7, d8, d9⟩ := good_all hgd
      have HD := Lib.hid (And.intro d0 (And.intro d1 (And.intro d2 (And.intro d3 (And.intro d4 d5)))))
      have D6 := Lib.hid d6
      have D7 := Lib.hid d7
      have hxs : x.size ≤ maxLen := max_small d9
      have hwl : ws.length ≤ maxLen := by rw [d8]; exact hsl
      have y1 : q.size ≤ x.size := by rw [← HQS.out]; omega
      have TD : Hid True := Lib.hid trivial
      clear f0 hx hgd d0 d1 d2 d3 d4 d5 d6 d7 d8 d9
      have HFZ : Hid (x.size = q.size → Op.bytesLess x.toList q.toList = false) := Lib.hid (fun he => by
        rw [Lib.toList_data, hq.out, Lib.toList_data]
        exact HLE.out.less (by rw [HQS.out]; simpa using he))
      by_cases hxq : x.size = q.size
      · have y2 := HFZ.out hxq
        have HXQ := Lib.hid hxq
        have y3 : ((x.size : Int) == (q.size : Int)) = true := by rw [hxq]; simp
        clear hxq HFZ
        go_wp2_with (first
          | (go_at_call 41; refine (decode_eq (q := x) (l := s) hxs (HW.out.below hWr) HD.out.1 HD.out.2.1).mono ?_; rintro e w11 ⟨A11, c11, rfl, hO11, hB11⟩; have hV11 := below_step hWr hB11)
          | (go_at_call 47; refine (isText_eq (q := x) (H.out.below hV11) hsl hxs (HW.out.below hV11) HD.out.2.2.2.1 HIT.out).mono ?_; rintro e w12 ⟨rfl, hB12⟩; have hV12 := below_step hV11 hB12; have hO11 := hO11.below hB12)
          | (go_at_call 51; refine (pack_eq (t := x) hxs HD.out.2.2.2.2.1).mono ?_; rintro e w13 ⟨A13, c13, zs, rfl, hO13, hB13, hz⟩; have hV13 := below_step hV12 hB13; have hO11 := hO11.below hB13)
          | (go_at_call 28; refine (sameInts_same s _ _ _ _ _ hO11.ints (H.out.below hV13) hsl).mono ?_; rintro e w14 ⟨rfl, hB14⟩; have hV14 := below_step hV13 hB14; have hO13 := hO13.below hB14)
          | (go_at_call 53; refine (unpack_back hO13.bts hz.out HD.out.2.2.2.2.1).mono ?_; rintro e w15 ⟨rfl, hB15⟩; have hV15 := below_step hV14 hB15)
          | (go_at_call 43; refine (widths_eq (q := x) (l := ws) hxs (HW.out.below hV15) HD.out.1 HD.out.2.2.1).mono ?_; rintro e w16 ⟨A16, c16, rfl, hO16, hB16⟩; have hV16 := below_step hV15 hB16)
          | (go_at_call 49; refine (plan_eq (H.out.below hV16) hO16.ints hsl hwl (HW.out.below hV16) HD.out.2.2.2.2.2).mono ?_; rintro e w17 ⟨sh, rfl, hB17, hsh⟩; have hV17 := below_step hV16 hB17; have y4 : sh.size ≤ x.size := (by rw [hsh.out, sv_size (plT s ws)]; exact D6.out); have y5 : q.size ≤ sh.size := (by have hd7 := D7.out; rw [HQS.out] at hd7; rw [hsh.out, sv_size (plT s ws)]; exact hd7)))
        have hBn := (((((hB11.trans (hB12.mono hB11.size)).trans (hB13.mono (Nat.le_trans hB11.size hB12.size))).trans (hB14.mono (Nat.le_trans (Nat.le_trans hB11.size hB12.size) hB13.size))).trans (hB15.mono (Nat.le_trans (Nat.le_trans (Nat.le_trans hB11.size hB12.size) hB13.size) hB14.size))).trans (hB16.mono (Nat.le_trans (Nat.le_trans (Nat.le_trans (Nat.le_trans hB11.size hB12.size) hB13.size) hB14.size) hB15.size))).trans (hB17.mono (Nat.le_trans (Nat.le_trans (Nat.le_trans (Nat.le_trans (Nat.le_trans hB11.size hB12.size) hB13.size) hB14.size) hB15.size) hB16.size))
        go_roundw
        case rel => exact ⟨k + 1, by omega, by go_num, below_step hB hBn⟩
        case measure => simp [intOf]; omega
      · have y3 : ((x.size : Int) == (q.size : Int)) = false := beq_eq_false_iff_ne.2 (by omega)
        have HXQ : Hid True := Lib.hid trivial
        clear HFZ
        go_wp2_with (first
          | (go_at_call 41; refine (decode_eq (q := x) (l := s) hxs (HW.out.below hWr) HD.out.1 HD.out.2.1).mono ?_; rintro e w11 ⟨A11, c11, rfl, hO11, hB11⟩; have hV11 := below_step hWr hB11)
          | (go_at_call 47; refine (isText_eq (q := x) (H.out.below hV11) hsl hxs (HW.out.below hV11) HD.out.2.2.2.1 HIT.out).mono ?_; rintro e w12 ⟨rfl, hB12⟩; have hV12 := below_step hV11 hB12; have hO11 := hO11.below hB12)
          | (go_at_call 51; refine (pack_eq (t := x) hxs HD.out.2.2.2.2.1).mono ?_; rintro e w13 ⟨A13, c13, zs, rfl, hO13, hB13, hz⟩; have hV13 := below_step hV12 hB13; have hO11 := hO11.below hB13)
          | (go_at_call 28; refine (sameInts_same s _ _ _ _ _ hO11.ints (H.out.below hV13) hsl).mono ?_; rintro e w14 ⟨rfl, hB14⟩; have hV14 := below_step hV13 hB14; have hO13 := hO13.below hB14)
          | (go_at_call 53; refine (unpack_back hO13.bts hz.out HD.out.2.2.2.2.1).mono ?_; rintro e w15 ⟨rfl, hB15⟩; have hV15 := below_step hV14 hB15)
          | (go_at_call 43; refine (widths_eq (q := x) (l := ws) hxs (HW.out.below hV15) HD.out.1 HD.out.2.2.1).mono ?_; rintro e w16 ⟨A16, c16, rfl, hO16, hB16⟩; have hV16 := below_step hV15 hB16)
          | (go_at_call 49; refine (plan_eq (H.out.below hV16) hO16.ints hsl hwl (HW.out.below hV16) HD.out.2.2.2.2.2).mono ?_; rintro e w17 ⟨sh, rfl, hB17, hsh⟩; have hV17 := below_step hV16 hB17; have y4 : sh.size ≤ x.size := (by rw [hsh.out, sv_size (plT s ws)]; exact D6.out); have y5 : q.size ≤ sh.size := (by have hd7 := D7.out; rw [HQS.out] at hd7; rw [hsh.out, sv_size (plT s ws)]; exact hd7)))
        have hBn := (((((hB11.trans (hB12.mono hB11.size)).trans (hB13.mono (Nat.le_trans hB11.size hB12.size))).trans (hB14.mono (Nat.le_trans (Nat.le_trans hB11.size hB12.size) hB13.size))).trans (hB15.mono (Nat.le_trans (Nat.le_trans (Nat.le_trans hB11.size hB12.size) hB13.size) hB14.size))).trans (hB16.mono (Nat.le_trans (Nat.le_trans (Nat.le_trans (Nat.le_trans hB11.size hB12.size) hB13.size) hB14.size) hB15.size))).trans (hB17.mono (Nat.le_trans (Nat.le_trans (Nat.le_trans (Nat.le_trans (Nat.le_trans hB11.size hB12.size) hB13.size) hB14.size) hB15.size) hB16.size))
        go_roundw
        case rel => exact ⟨k + 1, by omega, by go_num, below_step hB hBn⟩
        case measure => simp [intOf]; omega
    · obtain rfl : k = 3 := by omega
      go_wp2_with (go_at_call 19; refine (awake_any _ (HW.out.below hWr)).mono ?_; rintro e w' ⟨rfl, hBz⟩)
      go_ret
      exact ⟨rfl, below_step hWr hBz⟩

end Go.Proofs.YtcmnjmhedmneiaaDoor
