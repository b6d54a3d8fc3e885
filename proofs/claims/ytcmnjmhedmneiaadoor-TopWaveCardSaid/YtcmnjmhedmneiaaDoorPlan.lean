/-
  Contract: Plan (wave).
-/
import Derived.Test.YtcmnjmhedmneiaaDoorStepsOf
namespace Go.Proofs.YtcmnjmhedmneiaaDoor
open Go.RowKit Go.Shelf

set_option maxRecDepth 100000 in
theorem differencesB_any (s : List Int) (A : Option Addr) (c : Nat) (w : World) (h : Ints w A s) (hv : vwB s = true) :
    Calls Tryd.prog 58 #[.slice A s.length c] w fun e w' => ∃ (g c' : Nat), e = .returned (.slice (some ⟨g, 0, none⟩) s.length c') ∧ w.heap.size ≤ g ∧ (∃ cs fz, w'.heap[g]? = some (.cells cs 3 fz)) ∧ Out w' (some ⟨g, 0, none⟩) c' (difL s) ∧ Below w.heap.size w w' := by
  obtain ⟨⟨hn1, hn2⟩, hall⟩ := vw_parts hv
  have HA := Lib.hid hall
  obtain ⟨bl, off, e, hbk, hc⟩ := h.open_ (by omega)
  subst e
  have HC := Lib.hid hc
  obtain ⟨i0, hi0, hz0, hz1, hz2⟩ := info_parts int_info
  have HZ2 := Lib.hid hz2
  clear h hc hv hz2 hall
  go_enter Tryd.func58, Tryd.ntmps58
  go_wp2_with (at_make; refine wpList_make_own _ rfl _ _ 22 rfl w.heap.size 3 i0 (.int .i64 0) 1 Tryd.underlying22 hi0 hz0 hz1 .i64 .i64 s.length s.length rfl rfl rfl (by rw [HZ2.out]; omega) (by unfold maxLen; omega) (Nat.le_refl _) ?_; intro w4 hown4 hg4)
  have hB4 : Below w.heap.size w w4 := (Below.refl _ _).grown hg4 (Nat.le_refl _) (by simp)
  have HO4 := Lib.hid hown4
  clear hown4 hg4 hi0 hz0 hz1 HZ2
  go_loopw [3, 4, 12] (fun v a i wr => ∃ k : Nat, k ≤ s.length ∧ i = .int .i64 k ∧ ∃ (xs : List Int) (l : Int), a = .int .i64 l ∧ (0 ≤ l ∧ l ≤ 1023) ∧ wr.ownsRow w.heap.size 3 1 v k (xs.map (Value.int .i64)) ∧ Below w.heap.size w wr ∧ Hid (xs = difL (s.take k) ∧ l = lastG 0 (s.take k))) (fun _ _ i _ => s.length - (intOf i).toNat)
  case atStart => exact ⟨0, Nat.zero_le _, rfl, [], 0, rfl, by omega, HO4.out, hB4, rfl, rfl⟩
  case round =>
    clear hB4
    obtain ⟨k, hk, rfl, xs, l, rfl, hl, hown, hB, hX⟩ := hrel
    obtain ⟨hl0, hl1⟩ := hl
    by_cases hlt : k < s.length
    · obtain ⟨z, hz⟩ := getElem?_of_lt hlt
      have f0 := (hB.cell (p := ⟨bl, off + k, none⟩) hbk).trans (HC.out _ _ hz)
      have hzb := HA.out z (List.mem_of_getElem? hz)
      obtain ⟨hzb0, hzb1⟩ := hzb
      have HNX : Hid (xs ++ [z - l] = difL (s.take (k + 1)) ∧ z = lastG 0 (s.take (k + 1))) := by
        rw [take_snoc hz, difL, difG_snoc, last_snoc, hX.out.1, hX.out.2]
        exact ⟨rfl, rfl⟩
      have hsz := hB.size
      clear hz hX
      go_wp2_with (at_builtin; refine wp_app_int _ rfl (.tmp 16) (.tmp 20) rfl w.heap.size _ k xs _ rfl hown rfl (by omega) hsz ?_; intro v2 w2 hown2 hB2)
      go_roundw
      case rel => exact ⟨k + 1, by omega, by go_num, _, z, rfl, ⟨hzb0, hzb1⟩, hown2, hB.trans hB2, HNX.out⟩
      case measure => simp [intOf]; omega
    · obtain rfl : k = s.length := by omega
      go_wp2
      go_ret
      have hx : xs = difL s := by have := hX.out.1; rwa [List.take_length] at this
      subst hx
      obtain ⟨A', c', e, hO⟩ := own_ints hown
      have hlen : (difL s).length = s.length := difG_len 0 s
      rcases hown.2 with ⟨_, h0⟩ | ⟨g, cap, cur, hv, hgb, hhp, _, _, _⟩
      · omega
      · have e2 := hv.symm.trans e
        injection e2 with e3 e4 e5
        subst e3 e5
        exact ⟨g, cap, by rw [hv]; rfl, hgb, ⟨_, _, hhp⟩, hO, hB⟩

theorem plan_len : ∀ (a : Nat) (ps : List (Int × Nat)), a < 5 → (∀ p ∈ ps, p.2 < 5) → (planG a ps).length ≤ 59 * ps.length
  | _, [], _, _ => by simp [planG]
  | a, p :: t, ha, h => by
    have h1 := h p (by simp)
    have h2 := plan_len p.2 t h1 (fun q hq => h q (by simp [hq]))
    have h3 := change_len ha h1
    have h4 := wd_bd p.2
    rw [planG, List.length_append, List.length_append, word_len, List.length_cons]
    omega
theorem zip_lt {ds : List Int} {ks : List Nat} (h : ∀ k ∈ ks, k < 5) : ∀ p ∈ ds.zip ks, p.2 < 5 := fun _ hp => h _ (List.of_mem_zip hp).2

set_option maxRecDepth 100000 in
set_option maxHeartbeats 4000000 in
theorem wavePlan_any (s ws : List Int) (A B : Option Addr) (c e0 : Nat) (w : World) (hA : Ints w A s) (hB : Ints w B ws) (hl : s.length ≤ maxLen) (hlw : ws.length ≤ maxLen) (hW : Wids w) :
    Calls Tryd.prog 49 #[.slice A s.length c, .slice B ws.length e0] w fun e w' => TextRes (plE s ws) (plT s ws) e w w' := by
  have HA := Lib.hid hA
  have HB := Lib.hid hB
  have HW := Lib.hid hW
  unfold maxLen at hlw
  clear hA hB hW
  cases hv : vwB s with
  | false =>
    have HV := Lib.hid hv
    clear hv
    go_enter Tryd.func49, Tryd.ntmps49
    go_wp2_with (go_at_call 24; refine (valid_any s _ _ _ HA.out hl).mono ?_; rintro e w1 ⟨rfl, rfl⟩; rw [HV.out])
    go_ret2
    exact ⟨⟨#[]⟩, 30, rfl, Below.refl _ _, by rw [(pl_wave HV.out).2], (pl_wave HV.out).1.symm⟩
  | true =>
    have HV := Lib.hid hv
    by_cases hlen : ws.length = s.length
    · have HLN := Lib.hid hlen
      have u0 : ((ws.length : Int) != (s.length : Int)) = false := by rw [hlen]; simp
      obtain ⟨hn1, hn2⟩ := (vw_parts hv).1
      have hw1 : 1 ≤ ws.length := by omega
      have hw2 : ws.length ≤ 40 := by omega
      obtain ⟨bm, of2, eb, hbm, hc2⟩ := HB.out.open_ (by omega)
      subst eb
      have HC2 := Lib.hid hc2
      have HDL : Hid ((difL s).length = s.length) := Lib.hid (difG_len 0 s)
      have HST := Lib.hid (stepsOf_any ws _ e0 w HB.out (by omega) HW.out)
      clear hv hlen hc2
      cases hkb : kindsB ws with
      | false =>
        have HKB := Lib.hid hkb
        clear hkb
        go_enter Tryd.func49, Tryd.ntmps49
        go_wp2_with (first
          | (go_at_call 24; refine (valid_any s _ _ _ HA.out hl).mono ?_; rintro e w1 ⟨rfl, rfl⟩; rw [HV.out])
          | (go_at_call 86; refine HST.out.mono ?_; rintro e w1 ⟨hB1, (⟨hk, rfl⟩ | ⟨hk, A', c', zs, rfl, hO, hz⟩)⟩; rotate_left; (exact absurd (hk.symm.trans HKB.out) (by decide))))
        go_ret2
        exact ⟨⟨#[]⟩, 2, rfl, hB1, by rw [(pl_kind HV.out HLN.out HKB.out).2], (pl_kind HV.out HLN.out HKB.out).1.symm⟩
      | true =>
        have HKB := Lib.hid hkb
        clear hkb
        go_enter Tryd.func49, Tryd.ntmps49
        go_wp2_with (first
          | (go_at_call 24; refine (valid_any s _ _ _ HA.out hl).mono ?_; rintro e w1 ⟨rfl, rfl⟩; rw [HV.out])
          | (go_at_call 86; refine HST.out.mono ?_; rintro e w1 ⟨hB1, (⟨hk, rfl⟩ | ⟨hk, A', c', ts, rfl, hO, hz⟩)⟩; (exact absurd (hk.symm.trans HKB.out) (by decide)))
          | fail)
        obtain ⟨S, hS⟩ : ∃ S, S = w1.heap.size := ⟨_, rfl⟩
        obtain ⟨W2, hW2⟩ : ∃ W2, W2 = w1.alloc (.cells #[.pointer none, .slice none 0 0] 85) := ⟨_, rfl⟩
        have hB2 : Below w1.heap.size w1 W2 := by rw [hW2]; exact (Below.refl _ _).alloc (Nat.le_refl _) _
        have hBU2 : BuF S [] W2 := by rw [hW2, hS]; exact buF_new w1
        have hS2 : S < W2.heap.size := by rw [hW2, hS]; simp
        rw [← hW2, ← hS]
        refine (differencesB_any s _ _ W2 (HA.out.below (below_step hB1 hB2)) HV.out).mono ?_
        rintro e w3 ⟨g, c3, rfl, hg, ⟨cs, fz, hcs⟩, hO3, hB3⟩
        have hgS : g ≠ S := by omega
        have HKL : Hid ((ksL ws).length = s.length) := Lib.hid (by rw [ksL, List.length_map, HLN.out])
        have HTL : Hid (ts.length = s.length) := Lib.hid (by rw [hz.out, stI, List.length_map, HKL.out])
        obtain ⟨bs, os, es, hbs, hcst⟩ := hO.ints.open_ (by rw [HTL.out]; omega)
        subst es
        have htl : s.length ≤ ts.length := by rw [HTL.out]; exact Nat.le_refl _
        have HCT := Lib.hid (fun (k : Nat) (z : Int) (hk : (stI (ksL ws))[k]? = some z) => hcst k z (by rw [hz.out]; exact hk))
        have HCW := Lib.hid (fun (k : Nat) (z : Int) (hk : ws[k]? = some z) => (hB1.cell (p := ⟨bm, of2 + k, none⟩) hbm).trans (HC2.out k z hk))
        have hbm1 : bm < w1.heap.size := Nat.lt_of_lt_of_le hbm hB1.size
        have HCZ : Hid (∀ (k : Nat) (z : Int), (difL s)[k]? = some z → w3.cell? ⟨g, k, none⟩ = some (.int .i64 z)) := Lib.hid (fun k z hk => by
          obtain ⟨b, o, e, _, hcc⟩ := hO3.ints.open_ (by rw [HDL.out]; omega)
          cases e
          have := hcc k z hk
          rwa [Nat.zero_add] at this)
        have HW1 := Lib.hid (HW.out.below hB1)
        have hB13 := below_step hB2 hB3
        have HBU3 := Lib.hid (buF_below hBU2 hB3)
        have HSS : Hid (S = w1.heap.size) := Lib.hid hS
        have HCS := Lib.hid hcs
        have HBB1 := Lib.hid hB1
        clear hB1 hW2 hBU2 hg hO hO3 hcst hz hB2 hB3 hcs hS hk
        go_wp2
        go_loopw [9, 30] (fun a i wr => ∃ m : Nat, m ≤ s.length ∧ i = .int .i64 m ∧ ∃ now : Nat, a = .int .i64 now ∧ now < 5 ∧ Below w1.heap.size w1 wr ∧ Hid (wr.heap[g]? = some (.cells cs 3 fz)) ∧ Hid (BuF S (planG 2 (((difL s).zip (ksL ws)).take m)) wr) ∧ Hid (now = lastK 2 (((difL s).zip (ksL ws)).take m) ∧ (((difL s).zip (ksL ws)).take m).all canP = true)) (fun _ i _ => s.length - (intOf i).toNat)
        case atStart => exact ⟨0, Nat.zero_le _, rfl, 2, rfl, by omega, hB13, HCS, HBU3, Lib.hid ⟨rfl, rfl⟩⟩
        case round =>
          clear hB13 HBU3
          obtain ⟨m, hm, rfl, now, rfl, hnow, hB, hG, hBU, hX⟩ := hrel
          by_cases hlt : m < s.length
          · obtain ⟨d, hd⟩ := getElem?_of_lt (show m < (difL s).length by rw [HDL.out]; exact hlt)
            obtain ⟨x, hx⟩ := getElem?_of_lt (show m < ws.length by rw [HLN.out]; exact hlt)
            have hkx := kind_of (x := x) (by have h4 := HKB.out; rw [kindsB, List.all_eq_true] at h4; exact h4 x (List.mem_of_getElem? hx))
            have hdb := dif_all HV.out d (List.mem_of_getElem? hd)
            obtain ⟨k, hk⟩ : ∃ k, kOf x = k := ⟨_, rfl⟩
            have hks := ksL_at hx
            rw [hk] at hkx hks
            obtain ⟨hk5, hxk, _⟩ := hkx
            have hzip := zip_at hd hks
            have f0 : wr.cell? ⟨g, m, none⟩ = some (.int .i64 d) := (World.cell?_of_block (by show wr.heap[g]? = w3.heap[g]?; rw [hG.out, HCS.out])).trans (HCZ.out m d hd)
            have f1 := (hB.cell (p := ⟨bm, of2 + m, none⟩) hbm1).trans (HCW.out m x hx)
            have f2 := (hB.cell (p := ⟨bs, os + m, none⟩) hbs).trans (HCT.out m _ (stI_at hks))
            rw [← hxk] at f1
            have hwm : m < ws.length := by rw [HLN.out]; exact hlt
            have htm : m < ts.length := by omega
            have hd0 : -2000 ≤ d := by omega
            have hd1 : d ≤ 2000 := by omega
            have hcall := canHave_at k d wr hd0 hd1
            cases hcn : canB (wdN k) d with
            | false =>
              have HPL := Lib.hid (pl_can HV.out HLN.out HKB.out (by rw [cansB, all_not hzip (show canP (d, k) = false from hcn)]))
              rw [hcn] at hcall
              clear hd hx hdb hk hks hxk hzip hcn
              go_wp2_with (go_at_call 80; refine hcall.mono ?_; rintro e w4 ⟨rfl, rfl⟩)
              go_ret2
              exact ⟨⟨#[]⟩, 5, rfl, below_step HBB1.out hB, by rw [HPL.out.2], HPL.out.1.symm⟩
            | true =>
              have HNX := Lib.hid (all_snoc (p := canP) hzip)
              have HCP : Hid (canP (d, k) = true) := Lib.hid hcn
              have HPX := Lib.hid (plan_next (a := 2) hzip)
              rw [hcn] at hcall
              have HLEN : Hid ((planG 2 (((difL s).zip (ksL ws)).take m)).length ≤ 59 * 40) := Lib.hid (by
                have h1 := plan_len 2 (((difL s).zip (ksL ws)).take m) (by omega) (fun p hp => zip_lt (ks_lt HKB.out) p (List.mem_of_mem_take hp))
                rw [List.length_take] at h1
                omega)
              have hwr := hB.size
              have hSz : S < wr.heap.size := by
                have h1 := hBU.out.elim builderAtF_lt builderAtF_lt
                exact h1
              have HWr := Lib.hid (HW1.out.below hB)
              have HWW : Hid (Below wr.heap.size wr wr) := Below.refl _ _
              have hbs2 : bs < S := by rw [HSS.out]; exact hbs
              have hbm2 : bm < S := by rw [HSS.out]; exact hbm1
              clear hd hx hdb hk hks hxk hzip hcn
              have j0 : (0 : Int) ≤ (k : Int) := by omega
              go_wp2_with (go_at_call 80; refine hcall.mono ?_; rintro e w4 ⟨rfl, rfl⟩)
              clear f0
              go_region_held3 (fun w' => w'.cell? ⟨bs, os + m, none⟩ = some (.int .i64 k) ∧ w'.cell? ⟨bm, of2 + m, none⟩ = some (.int .i64 (wdN k)))
                (exact ⟨f2, f1⟩)
                ((first
                  | (go_at_call 88; refine (change_some now k hnow hk5 _ (HWr.out.below (by first | exact HWW.out.drew | exact HWW.out))).mono ?_; rintro e wx ⟨q1, rfl, hq1, hBx, HQ1⟩; have HWW : Hid (Below wr.heap.size wr wx) := (by first | exact HWW.out.drew.trans (hBx.mono HWW.out.size) | exact HWW.out.trans (hBx.mono HWW.out.size)); have f1 := (hBx.cell (p := ⟨bm, of2 + m, none⟩) (World.block_lt_of_cell? _ _ f1)).trans f1; have f2 := (hBx.cell (p := ⟨bs, os + m, none⟩) (World.block_lt_of_cell? _ _ f2)).trans f2; clear hBx; try (have r12 : (9223372036854775807 < q1.size + q2.size) = False := eq_false (by omega)))
                  | (go_at_call 66; refine (word_some k d _).mono ?_; rintro e wx ⟨q2, rfl, hq2, hBx, HQ2⟩; have HWW : Hid (Below wr.heap.size wr wx) := (by first | exact HWW.out.drew.trans (hBx.mono HWW.out.size) | exact HWW.out.trans (hBx.mono HWW.out.size)); have f1 := (hBx.cell (p := ⟨bm, of2 + m, none⟩) (World.block_lt_of_cell? _ _ f1)).trans f1; have f2 := (hBx.cell (p := ⟨bs, os + m, none⟩) (World.block_lt_of_cell? _ _ f2)).trans f2; clear hBx; try (have r12 : (9223372036854775807 < q1.size + q2.size) = False := eq_false (by omega)))
                  | (go_at_call 87; refine (writeF_some S (planG 2 (((difL s).zip (ksL ws)).take m)) (changeL now k ++ wordL (wdN k) d) (q1 ++ q2) _ (buF_below hBU.out (by first | exact HWW.out.drew | exact HWW.out)) (by rw [HQ1.out, HQ2.out]; exact sv_append _ _) (by have h1 := change_len hnow hk5; have h2 := wd_bd k; have h3 := HLEN.out; rw [List.length_append, word_len]; omega) (Nat.le_trans (Nat.le_of_lt hSz) (by first | exact HWW.out.drew.size | exact HWW.out.size))).mono ?_; rintro e wy ⟨v, rfl, hBU2, hBS, hOK⟩; have HU2 := Lib.hid hBU2; have HOK := Lib.hid hOK; have HBS := Lib.hid hBS; have f1 := (hBS.cell (p := ⟨bm, of2 + m, none⟩) hbm2).trans f1; have f2 := (hBS.cell (p := ⟨bs, os + m, none⟩) hbs2).trans f2; clear hBU2 hBS hOK)))
              have hBy : Below w1.heap.size w1 wy := (below_step hB HWW.out).trans (by rw [← HSS.out]; exact HBS.out)
              have hgw : g < wr.heap.size := (Array.getElem?_eq_some_iff.1 hG.out).1
              have HGy : Hid (wy.heap[g]? = some (.cells cs 3 fz)) := Lib.hid (HOK.out g _ ((HWW.out.block g hgw).trans hG.out) (by intro e; exact hgS (Option.some.inj e)) (by intro c' f e; injection e with _ e2; exact absurd e2 (by decide)))
              go_wp2
              go_roundw
              case rel => exact ⟨m + 1, by omega, by go_num, k, rfl, hk5, hBy, HGy, Lib.hid (by rw [HPX.out.1, ← hX.out.1]; exact HU2.out), Lib.hid ⟨HPX.out.2.symm, by rw [HNX.out, hX.out.2, HCP.out]; rfl⟩⟩
              case measure => simp [intOf]; omega
          · obtain rfl : m = s.length := by omega
            have HTK : Hid (((difL s).zip (ksL ws)).take s.length = (difL s).zip (ksL ws)) := Lib.hid (List.take_of_length_le (by rw [List.length_zip, HDL.out, HKL.out, Nat.min_self]; exact Nat.le_refl _))
            have hbu := hBU.out
            have hal := hX.out.2
            rw [HTK.out] at hbu hal
            have hlt := hbu.elim builderAtF_lt builderAtF_lt
            have HBU2 := Lib.hid (show BuF S (planL s ws) wr from hbu)
            have HC := Lib.hid (show cansB (difL s) (ksL ws) = true from hal)
            have hsz := hB.size
            clear hbu hal hX hBU
            by_cases hlong : 1000 < (planL s ws).length
            · have HPL := Lib.hid (pl_long HV.out HLN.out HKB.out HC.out hlong)
              have v1 : decide (1000 < ((planL s ws).length : Int)) = true := decide_eq_true (by omega)
              go_wp2_with (go_at_call 89; refine (lenF_some S _ _ HBU2.out).mono ?_; rintro e w4 ⟨rfl, rfl⟩)
              go_ret2
              exact ⟨⟨#[]⟩, 4, rfl, below_step HBB1.out hB, by rw [HPL.out.2], HPL.out.1.symm⟩
            · have HPL := Lib.hid (pl_ok HV.out HLN.out HKB.out HC.out hlong)
              have v1 : decide (1000 < ((planL s ws).length : Int)) = false := decide_eq_false (by omega)
              go_wp2_with (first
                | (go_at_call 89; refine (lenF_some S _ _ HBU2.out).mono ?_; rintro e w4 ⟨rfl, rfl⟩)
                | (go_at_call 90; refine (stringF_some S _ _ HBU2.out (Nat.le_of_lt hlt)).mono ?_; rintro e w5 ⟨q, rfl, hB5, hQ⟩))
              go_ret2
              exact ⟨q, 0, rfl, below_step HBB1.out (hB.trans (hB5.mono (by rw [HSS.out]; exact Nat.le_refl _))), by rw [HPL.out.2]; exact hQ.out, HPL.out.1.symm⟩
    · have u0 : ((ws.length : Int) != (s.length : Int)) = true := by simp; omega
      have HPL := Lib.hid (pl_len hv hlen)
      clear hv hlen
      go_enter Tryd.func49, Tryd.ntmps49
      go_wp2_with (go_at_call 24; refine (valid_any s _ _ _ HA.out hl).mono ?_; rintro e w1 ⟨rfl, rfl⟩; rw [HV.out])
      go_ret2
      exact ⟨⟨#[]⟩, 2, rfl, Below.refl _ _, by rw [HPL.out.2], HPL.out.1.symm⟩
end Go.Proofs.YtcmnjmhedmneiaaDoor
