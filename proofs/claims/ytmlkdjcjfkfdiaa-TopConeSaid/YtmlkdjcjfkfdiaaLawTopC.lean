/-
  The walk of TopCone: it returns true, whatever it is given.
-/
import Derived.Test.YtmlkdjcjfkfdiaaTopR
import Derived.Deep.CutRange
namespace Go.Proofs.Ytmlkdjcjfkfdiaa
open Go.RowKit Go.Shelf

theorem top_nums {ms : List (Int × Int)} (hv : vhB ms = true) : ∃ n1 n2 n3 : Nat, (chainL ms).length = n1 ∧ (layersL ms).length = n1 ∧ (layerL ms).length = n2 ∧ (firstL ms).length = n3 ∧ decide ((n1 : Int) < 1) = false ∧ decide ((n2 : Int) < 1) = false ∧ decide ((n3 : Int) < 1) = false ∧ n1 ≤ 14 ∧ 1 ≤ n1 := by
  obtain ⟨h1, h2, h3, h4, h5, h6, h7, h8, h9⟩ := both_facts hv
  have h10 : 1 ≤ (firstL ms).length := by
    obtain ⟨a, ha⟩ := first_some (vh_parts hv).1
    exact List.length_pos_of_mem ha
  exact ⟨_, _, _, rfl, h1, rfl, rfl, decide_eq_false (by omega), decide_eq_false (by omega), decide_eq_false (by omega), h6, h8⟩
theorem top_q {ms : List (Int × Int)} {one : List Int} {T : List (List Int)} {n1 n2 : Nat} {b1 b2 b3 b4 : Bool} (hv : vhB ms = true) (e1 : (chainL ms).length = n1) (e2 : (layersL ms).length = n1) (e3 : (layerL ms).length = n2)
    (hb1 : ischB ms one = b1) (hb2 : islB ms one = b2) (hb3 : aryB ms T = b3) (hb4 : thyB ms T = b4) :
    (b1 = true → decide (n1 < one.length) = false) ∧ (b2 = true → decide (n2 < one.length) = false) ∧ (b3 = true → decide (T.length < n1) = false) ∧ (b4 = true → decide (T.length < n2) = false) := by
  obtain ⟨h1, h2, h3, h4⟩ := both_q hv e1 e2 e3 hb1 hb2 hb3 hb4
  refine ⟨fun h => ?_, fun h => ?_, fun h => ?_, fun h => ?_⟩
  · have := of_decide_eq_true (h1 h); exact decide_eq_false (by omega)
  · have := of_decide_eq_true (h2 h); exact decide_eq_false (by omega)
  · have := of_decide_eq_true (h3 h); exact decide_eq_false (by omega)
  · have := of_decide_eq_true (h4 h); exact decide_eq_false (by omega)

set_option maxRecDepth 100000 in
set_option maxHeartbeats 40000000 in
theorem topCone_walk (ms : List (Int × Int)) (A : Option Addr) (c : Nat) (one : List Int) (A1 : Option Addr) (c1 : Nat) (T : List (List Int)) (A2 : Option Addr) (c2 : Nat) (w : World) (hA : Marks w A ms) (hc : ms.length ≤ c) (hc0 : c ≤ maxLen) (hO : Ints w A1 one) (ho : one.length ≤ c1) (ho0 : c1 ≤ maxLen) (hI : Tabs w A2 T) (hd : T.length ≤ c2) (hd0 : c2 ≤ maxLen) :
    Calls Try.prog 14 #[.slice A ms.length c, .slice A1 one.length c1, .slice A2 T.length c2] w fun e w' => e = .returned (.bool true) ∧ Below w.heap.size w w' := by
  have H : Hid (Clk w A c ms) := ⟨hA, hc, hc0⟩
  have HO := Lib.hid (And.intro hO (And.intro ho ho0))
  have HI := Lib.hid hI
  have HD := Lib.hid (And.intro hd hd0)
  have HL := Lib.hid (Nat.le_trans hd hd0)
  have hW0 : Hid (Below w.heap.size w w) := Lib.hid (Below.refl _ _)
  clear hA hc hc0 hI hO ho ho0 hd hd0
  by_cases hm : 40 < ms.length
  · have hm1 : decide (40 < ms.length) = true := decide_eq_true hm
    go_enter Try.func14, Try.ntmps14
    go_wp2_with (first
      | (go_at_call 15; refine (lawLong_any _ _ _ _).mono ?_; rintro e w' ⟨rfl, rfl⟩)
      | (go_at_call 16; refine (sane_any _).mono ?_; rintro e w20 ⟨rfl, hB20⟩))
    go_ret
    exact ⟨rfl, hB20⟩
  have hm1 : decide (40 < ms.length) = false := decide_eq_false hm
  by_cases h100 : 100 < one.length
  · have h101 : decide ((100 : Int) < (one.length : Int)) = true := decide_eq_true (by omega)
    go_enter Try.func14, Try.ntmps14
    go_wp2_with (first
      | (go_at_call 15; refine (lawLong_any _ _ _ _).mono ?_; rintro e w' ⟨rfl, rfl⟩)
      | (go_at_call 16; refine (sane_any _).mono ?_; rintro e w20 ⟨rfl, hB20⟩))
    go_ret
    exact ⟨rfl, hB20⟩
  have h101 : decide ((100 : Int) < (one.length : Int)) = false := decide_eq_false (by omega)
  cases hwd : wideB T with
  | true =>
    have HWD := Lib.hid hwd
    clear hwd
    go_enter Try.func14, Try.ntmps14
    go_wp2_with (first
      | (go_at_call 15; refine (lawLong_any _ _ _ _).mono ?_; rintro e w' ⟨rfl, rfl⟩)
      | (go_at_call 32; refine (lawWide_is T _ _ true _ HI.out HL.out HWD.out).mono ?_; rintro e w' ⟨rfl, rfl⟩)
      | (go_at_call 16; refine (sane_any _).mono ?_; rintro e w20 ⟨rfl, hB20⟩))
    go_ret
    exact ⟨rfl, hB20⟩
  | false =>
    have HWD := Lib.hid hwd
    clear hwd hm h100
    go_enter Try.func14, Try.ntmps14
    go_wp2_with (first
      | (go_at_call 15; refine (lawLong_any _ _ _ _).mono ?_; rintro e w' ⟨rfl, rfl⟩)
      | (go_at_call 32; refine (lawWide_is T _ _ false _ HI.out HL.out HWD.out).mono ?_; rintro e w' ⟨rfl, rfl⟩))
    go_loopw [7] (fun v wr => ∃ (ls : List (Int × Int)) (B : Option Addr) (d : Nat), v = .slice B ls.length d ∧ Hid (Clk wr B d ls) ∧ Hid (Below w.heap.size w wr)) (fun v _ => match v with | .slice _ n _ => n | _ => 0)
    case atStart => exact ⟨ms, A, c, rfl, H, hW0⟩
    case round =>
      clear hm1 h101
      obtain ⟨ls, B, d, rfl, HC, HB⟩ := hrel
      rename World => wr
      cases hv : vhB ls with
      | false =>
        have HV := Lib.hid hv
        clear hv
        go_wp2_with (first
          | (go_at_call 22; refine (refValid_is _ _ _ false _ HC.out HV.out).mono ?_; rintro e w1 ⟨rfl, hB1⟩)
          | (go_at_call 16; refine (sane_any _).mono ?_; rintro e w20 ⟨rfl, hB20⟩))
        go_ret
        exact ⟨rfl, below_step (below_step HB.out hB1) hB20⟩
      | true =>
        have HV := Lib.hid hv
        obtain ⟨n1, n2, n3, e1, e2, e3, e4, d1, d2, d3, hn14, hn1⟩ := top_nums hv
        obtain ⟨b1, hb1⟩ : ∃ b, ischB ls one = b := ⟨_, rfl⟩
        obtain ⟨b2, hb2⟩ : ∃ b, islB ls one = b := ⟨_, rfl⟩
        obtain ⟨b3, hb3⟩ : ∃ b, aryB ls T = b := ⟨_, rfl⟩
        obtain ⟨b4, hb4⟩ : ∃ b, thyB ls T = b := ⟨_, rfl⟩
        have HQ := Lib.hid (top_q hv e1 e2 e3 hb1 hb2 hb3 hb4)
        have HB1 := Lib.hid hb1
        have HB2 := Lib.hid hb2
        have HB3 := Lib.hid hb3
        have HB4 := Lib.hid hb4
        have E1 := Lib.hid e1
        have E2 := Lib.hid e2
        have E3 := Lib.hid e3
        have E4 := Lib.hid e4
        have hl14 : ls.length ≤ 14 := (vh_parts hv).2
        clear hb1 hb2 hb3 hb4 e1 e2 e3 e4 hv
        go_upto_region 9 with (first
          | (go_at_call 22; refine (refValid_is _ _ _ true _ HC.out HV.out).mono ?_; rintro e w1 ⟨rfl, hB1⟩; have HC1 := Lib.hid (HC.out.below hB1))
          | (go_at_call 26; refine (both_2 HC1.out HV.out E1.out).mono ?_; rintro e w2 ⟨A3, c3, ys, rfl, hO2, hB2, hY2⟩; have HC2 := Lib.hid (HC1.out.below hB2))
          | (go_at_call 33; refine (both_3 HC2.out HV.out E2.out).mono ?_; rintro e w3 ⟨A4, c4, Ts, rfl, hO3, hB3, hY3⟩; have HC3 := Lib.hid (HC2.out.below hB3))
          | (go_at_call 38; refine (both_4 HC3.out HV.out E3.out).mono ?_; rintro e w4 ⟨A5, c5, zs, rfl, hO4, hB4, hY4⟩; have HC4 := Lib.hid (HC3.out.below hB4))
          | (go_at_call 44; refine (both_5 HC4.out HV.out E3.out).mono ?_; rintro e w5 ⟨A6, c6, Us, rfl, hO5, hB5, hY5⟩; have HC5 := Lib.hid (HC4.out.below hB5))
          | fail)
        have HF := Lib.hid (both_facts HV.out)
        have HB5 : Hid (Below w.heap.size w w5) := Lib.hid (below_step (below_step (below_step (below_step (below_step HB.out hB1) hB2) hB3) hB4) hB5)
        have HO2 := (hO2.below hB3).below hB4 |>.below hB5
        have HO3 := (hO3.below hB4).below hB5
        have HO4 := hO4.below hB5
        obtain ⟨bT, oT, BF, cF, eA, hbT, gF, hOF⟩ := layers_cell (vh_parts HV.out).1 HO3 hY3.out E4.out
        subst eA
        have HC6 := Lib.hid (ref_6 (A2 := A3) (c2 := c3) HC5.out HV.out HO2.ints (Nat.le_trans HO2.le HO2.cap) (n := n1) (by have q := E1.out; rw [← hY2.out] at q; exact q) (b := true) (by have q := HF.out.2.1; rw [← hY2.out] at q; exact q))
        have HC7 := Lib.hid (ref_7 (A2 := some ⟨bT, oT, none⟩) (c2 := c4) HC5.out HV.out HO3.tabs (Nat.le_trans HO3.le HO3.cap) (n := n1) (by have q := E2.out; rw [← hY3.out] at q; exact q) (b := true) (by have q := HF.out.2.2.1; rw [← hY3.out] at q; exact q))
        have HC8 := Lib.hid (ref_8 (A2 := A5) (c2 := c5) HC5.out HV.out HO4.ints (Nat.le_trans HO4.le HO4.cap) (n := n2) (by have q := E3.out; rw [← hY4.out] at q; exact q) (b := true) (by have q := HF.out.2.2.2.1; rw [← hY4.out] at q; exact q))
        have HC9 := Lib.hid (ref_9 (A2 := A6) (c2 := c6) HC5.out HV.out hO5.tabs (Nat.le_trans hO5.le hO5.cap) hY5.out.2 hY5.out.1)
        have HC10 := Lib.hid (both_6 HC5.out HV.out (HO.out.1.below HB5.out) HO.out.2.1 HO.out.2.2 (n := one.length) rfl HB1.out)
        have HC11 := Lib.hid (both_8 HC5.out HV.out (HO.out.1.below HB5.out) HO.out.2.1 HO.out.2.2 (n := one.length) rfl HB2.out)
        have HC12 := Lib.hid (both_7 HC5.out HV.out (HI.out.below HB5.out) HD.out.1 HD.out.2 (n := T.length) rfl HB3.out)
        have HC13 := Lib.hid (both_9 HC5.out HV.out (HI.out.below HB5.out) HD.out.1 HD.out.2 (n := T.length) rfl HB4.out)
        have HOF := Lib.hid hOF
        have hV5 : Below w5.heap.size w5 w5 := Below.refl _ _
        clear hO2 hO3 hO4 hO5 HO2 HO3 HO4 hY2 hY3 hY4 hY5 hOF HC1 HC2 HC3 HC4 hB1 hB2 hB3 hB4 hB5
        go_upto_region 15 with (first
          | (go_at_call 29; refine (HC6.out _ hV5).mono ?_; rintro e w6 ⟨rfl, hB6⟩; have hV6 := below_step hV5 hB6)
          | (go_at_call 36; refine (HC7.out _ hV6).mono ?_; rintro e w7 ⟨rfl, hB7⟩; have hV7 := below_step hV6 hB7)
          | (go_at_call 41; refine (HC8.out _ hV7).mono ?_; rintro e w8 ⟨rfl, hB8⟩; have hV8 := below_step hV7 hB8)
          | (go_at_call 43; refine (HC9.out _ hV8).mono ?_; rintro e w9 ⟨rfl, hB9⟩; have hV9 := below_step hV8 hB9)
          | fail)
        go_upto_region 21 with (first
          | (go_at_call 28; refine (HC10.out _ hV9).mono ?_; rintro e w10 ⟨rfl, hB10⟩; have hV10 := below_step hV9 hB10)
          | (go_at_call 40; refine (HC11.out _ hV10).mono ?_; rintro e w11 ⟨rfl, hB11⟩; have hV11 := below_step hV10 hB11)
          | (go_at_call 35; refine (HC12.out _ hV11).mono ?_; rintro e w12 ⟨rfl, hB12⟩; have hV12 := below_step hV11 hB12)
          | (go_at_call 42; refine (HC13.out _ hV12).mono ?_; rintro e w13 ⟨rfl, hB13⟩; have hV13 := below_step hV12 hB13)
          | fail)
        have HV13 := Lib.hid hV13
        have gF13 := (hV13.cell (p := ⟨bT, oT, none⟩) hbT).trans gF
        clear hV5 hV6 hV7 hV8 hV9 hV10 hV11 hV12 hV13 hB6 hB7 hB8 hB9 hB10 hB11 hB12 hB13 HC6 HC7 HC8 HC9 HC10 HC11 HC12 HC13 gF
        go_cut [221] from 168 to 221 (fun s wx => s = .bool false ∧ wx = w13)
        case first =>
          rename_i J K1 hJ hK
          obtain ⟨r1, r2, r3, r4⟩ := HQ.out
          refine Code.wp_mono ?_ (top_21 one T A1 A2 A3 A5 c1 c2 c3 c5 n1 n2 b1 b2 b3 b4 _ _ _ _ _ _ _ _ _ _ _ _ _ _ _ _ _ _ _ _ _ _ _ _ _ _ _ _ _ _ _ _ _ _ _ _ _ _ _ _ _ _ _ _ _ _ _ _ _ _ _ _ _ _ _ _ _ _ _ _ _ _ _ _ _ _ _ _ _ _ _ _ _ _ _ _ _ _ _ _ _ _ _ _ _ _ _ _ _ _ _ _ _ _ _ _ _ _ _ _ _ _ _ _ _ _ _ _ _ _ _ _ _ _ _ _ _ _ _ _ _ _ _ _ _ _ _ _ _ _ _ _ _ _ _ _ _ _ _ _ _ _ _ _ _ _ _ _ _ _ _ _ _ _ _ _ _ _ _ _ _ _ _ _ _ _ _ _ _ _ _ _ _ _ _ _ _ _ _ _ _ _ _ _ _ _ _ _ _ _ _ _ _ _ _ _ _ _ _ _ _ _ _ _ _ _ _ _ _ _ _ _ _ _ _ _ _ _ _ _ _ _ _ _ _ _ _ _ _ _ _ _ _ _ _ _ _ _ _ _ _ _ _ _ _ _ _ _ _ _ _ _ _ _ _ _ _ _ _ _ _ _ _ _ _ _ _ _ _ w13 r1 r2 r3 r4)
          intro e a' w' h
          cases e with
          | normal => exact hK _ _ (Met.intro (hJ _ _ h))
          | _ => exact h.elim
        case rest =>
          obtain ⟨rfl, rfl⟩ := hcut
          have HC13 := Lib.hid (HC5.out.below HV13.out)
          have hbT13 : bT < wc.heap.size := Nat.lt_of_lt_of_le hbT HV13.out.size
          have hn4 : ∃ n4 : Nat, n4 + 1 = n1 := ⟨n1 - 1, by omega⟩
          obtain ⟨n4, hn4⟩ := hn4
          clear hbT
          go_upto_region 27 with (first
            | (go_at_call 24; refine (both_1 HC13.out HV.out E4.out).mono ?_; rintro e w14 ⟨A8, c8, fs, rfl, hO14, hB14, hY14⟩; have HC14 := Lib.hid (HC13.out.below hB14); have gF14 := (hB14.cell (p := ⟨bT, oT, none⟩) hbT13).trans gF13; have HS14 := Lib.hid (same_n (A := A8) (B := BF) (c := c8) (d := cF) hY14.out E4.out hO14.ints ((HOF.out.below HV13.out).below hB14).ints (Nat.le_trans HOF.out.le HOF.out.cap)))
            | (go_at_call 23; refine (HS14.out _ (Below.refl _ _)).mono ?_; rintro e w15 ⟨rfl, hB15⟩)
            | fail)
          have HC15 := Lib.hid (HC14.out.below hB15)
          have HW15 : Hid (Below w.heap.size w w15) := Lib.hid (below_step (below_step (below_step HB5.out HV13.out) hB14) hB15)
          have HIN : Hid (∀ W (k : Int), Below w15.heap.size w15 W → Calls Try.prog 57 #[.slice A8 n3 c8, .int .i64 k] W fun e w' => e = .returned (.bool ((firstL ls).contains k)) ∧ W = w') := Lib.hid (by
            intro W k hW
            have q := inside_any fs A8 c8 k W ((hO14.below hB15).ints.below hW) (by
              rw [hY14.out]
              have := List.length_filter_le (fun a => !((allL ls.length).any fun b => befI ls b a)) (allL ls.length)
              rw [allL_len] at this
              exact Nat.le_trans this (by omega))
            rw [hY14.out, E4.out] at q
            exact q)
          obtain ⟨bb, oo, eB, hbb, hall⟩ := HC15.out.marks.open_ (vh_parts HV.out).1
          subst eB
          have HALL := Lib.hid hall
          clear hall hO14 hY14 HS14 gF14 gF13 hB14 hB15 HC14 HC13 hbT13
          go_wp2_with fail
          go_loopw [28, 30] (fun v i wi => ∃ k : Nat, k ≤ ls.length ∧ i = .int .i64 k ∧ Hid (wi.ownsRow w15.heap.size 63 2 v (restK ls k).length ((restK ls k).flatMap mk2)) ∧ Hid (Below w15.heap.size w15 wi)) (fun _ i _ => ls.length - (intOf i).toNat)
          case atStart => exact ⟨0, Nat.zero_le _, rfl, Lib.hid (World.ownsRow_nil _ _ _ _), Lib.hid (Below.refl _ _)⟩
          case round =>
            obtain ⟨k, hk, rfl, HR, HBI⟩ := hrel
            rename World => wi
            by_cases hlt : k < ls.length
            · obtain ⟨x, y, hxy⟩ : ∃ x y, ls[k]? = some (x, y) := ⟨_, _, List.getElem?_eq_getElem hlt⟩
              have f0 := (HBI.out.cell (p := ⟨bb, oo + k * 2, none⟩) hbb).trans (HALL.out k _ hxy).1
              have f1 := (HBI.out.cell (p := ⟨bb, oo + k * 2 + 1, none⟩) hbb).trans (HALL.out k _ hxy).2
              have HXY := Lib.hid hxy
              have HQI := Lib.hid (HIN.out wi (k : Int) HBI.out)
              have hrk := restK_len ls k
              have hszi := HBI.out.size
              clear hxy
              cases hin : (firstL ls).contains (k : Int) with
              | true =>
                have HK := Lib.hid (restK_in hin)
                have HIN2 := Lib.hid hin
                clear hin
                go_wp2_with (go_at_call 57; refine HQI.out.mono ?_; rintro e w' ⟨he, rfl⟩; rw [HIN2.out] at he; subst he)
                go_roundw
                case rel => exact ⟨k + 1, by omega, by go_num, Lib.hid (by rw [HK.out]; exact HR.out), HBI⟩
                case measure => simp [intOf]; omega
              | false =>
                have HK := Lib.hid (restK_out hin HXY.out)
                have HIN2 := Lib.hid hin
                clear hin
                go_wp2_with (first
                  | (go_at_call 57; refine HQI.out.mono ?_; rintro e w' ⟨he, rfl⟩; rw [HIN2.out] at he; subst he)
                  | (at_builtin; refine wp_app_hit _ rfl (.tmp 252) (.tmp 257) rfl w15.heap.size _ (restK ls k).length (restK ls k) x y rfl HR.out rfl (by omega) hszi ?_; intro v2 wj hown2 hBj))
                go_roundw
                case rel => exact ⟨k + 1, by omega, by go_num, Lib.hid (by rw [HK.out, List.length_append]; exact hown2), Lib.hid (HBI.out.trans hBj)⟩
                case measure => simp [intOf]; omega
            · obtain rfl : k = ls.length := by omega
              have HR2 := HR.out
              rw [restK_full] at HR2
              obtain ⟨A9, c9, e9, hC9⟩ := own_hits HR2
              subst e9
              have HC9 := Lib.hid hC9
              have HWI : Hid (Below w.heap.size w wi) := Lib.hid (below_step HW15.out HBI.out)
              have HLT := Lib.hid (restM_less (ms := ls) (vh_parts HV.out).1)
              clear HR2 hC9
              cases hv2 : vhB (restM ls) with
              | true =>
                have HV2 := Lib.hid hv2
                have e41 : (chainL (restM ls)).length = n4 := by
                  have q1 := rest_chain HV.out hv2
                  have q2 := E1.out
                  omega
                have E41 := Lib.hid e41
                have hsub : (n1 : Int) - 1 = (n4 : Int) := by omega
                clear hv2 e41 hn4
                go_wp2_with (first
                  | (go_at_call 22; refine (refValid_is _ _ _ true _ HC9.out HV2.out).mono ?_; rintro e w16 ⟨rfl, hB16⟩; have HC16 := Lib.hid (HC9.out.below hB16))
                  | (go_at_call 26; refine (both_2 HC16.out HV2.out E41.out).mono ?_; rintro e w17 ⟨A10, c10, us, rfl, hO17, hB17, hY17⟩))
                go_roundw
                case rel => exact ⟨restM ls, A9, c9, rfl, Lib.hid (HC16.out.below hB17), Lib.hid (below_step (below_step HWI.out hB16) hB17)⟩
                case measure => exact HLT.out
              | false =>
                have HV2 := Lib.hid hv2
                have hn11 : n1 = 1 := by
                  have hre : restM ls = [] := Classical.byContradiction fun q => by
                    have := restM_valid HV.out q
                    rw [HV2.out] at this
                    cases this
                  have q1 := rest_none HV.out hre
                  have q2 := E1.out
                  omega
                have hn12 : ((n1 : Int) == 1) = true := by rw [hn11]; rfl
                clear hv2 hn4 hn11
                go_wp2_with (go_at_call 22; refine (refValid_is _ _ _ false _ HC9.out HV2.out).mono ?_; rintro e w16 ⟨rfl, hB16⟩)
                go_roundw
                case rel => exact ⟨restM ls, A9, c9, rfl, Lib.hid (HC9.out.below hB16), Lib.hid (below_step HWI.out hB16)⟩
                case measure => exact HLT.out
end Go.Proofs.Ytmlkdjcjfkfdiaa
