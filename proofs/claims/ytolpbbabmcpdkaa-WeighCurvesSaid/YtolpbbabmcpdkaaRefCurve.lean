/-
  Contract: Curve of the reference (weigh).
-/
import Derived.Test.YtolpbbabmcpdkaaQuad
set_option linter.unusedVariables false
set_option linter.unusedSimpArgs false
namespace Go.Proofs.Ytolpbbabmcpdkaa
open Go.RowKit Go.Shelf

set_option maxRecDepth 100000 in
set_option maxHeartbeats 1000000 in
theorem refCurve_no (ns ss : List Int) (A B : Option Addr) (c d : Nat) (w : World) (hA : Ints w A ns) (hB : Ints w B ss) (hl : ns.length ≤ 1000) (hl2 : ss.length ≤ 1000) (hv : odB ns ss = false) :
    Calls Try.prog 39 #[.agg #[.slice A ns.length c, .slice B ss.length d]] w fun e w' => e = .returned (.tuple #[.slice none 0 0, .int .i64 70]) ∧ Below w.heap.size w w' := by
  have HA := Lib.hid hA
  have HB := Lib.hid hB
  have HV := Lib.hid hv
  clear hA hB hv
  obtain ⟨W0, hW0, HW, H0, z0⟩ := one_new w #[.slice A ns.length c, .slice B ss.length d] 24
  have b0 : World.cell? W0 ⟨_, 0, none⟩ = some (.slice A ns.length c) := blk_cell H0.out 0 rfl
  have b1 : World.cell? W0 ⟨_, 1, none⟩ = some (.slice B ss.length d) := blk_cell H0.out 1 rfl
  go_enter Try.func39, Try.ntmps39
  go_wp2_with (go_at_call 22; with_reducible refine (refValid_any ns ss _ _ _ _ _ (HA.out.below (by repeat (first | with_reducible exact HW.out | with_reducible exact Below.refl _ _ | with_reducible refine below_drewN ?_ _ | with_reducible refine Below.drew ?_ | (with_reducible refine Below.setCell ?_ (by first | exact Nat.le_refl _ | exact Nat.le_succ _ | (simp; done) | (simp; omega) | omega) _) | (with_reducible refine Below.alloc ?_ (by first | exact HW.out.size | (simp; done) | (simp; omega) | omega) _)))) (HB.out.below (by repeat (first | with_reducible exact HW.out | with_reducible exact Below.refl _ _ | with_reducible refine below_drewN ?_ _ | with_reducible refine Below.drew ?_ | (with_reducible refine Below.setCell ?_ (by first | exact Nat.le_refl _ | exact Nat.le_succ _ | (simp; done) | (simp; omega) | omega) _) | (with_reducible refine Below.alloc ?_ (by first | exact HW.out.size | (simp; done) | (simp; omega) | omega) _)))) hl hl2).mono ?_; rintro e w1 ⟨rfl, hB1⟩; rw [HV.out]; rw [← hW0] at hB1; have HW1 := Lib.hid (below_step HW.out hB1); clear hB1)
  go_ret2
  exact ⟨rfl, (by first | exact HW1.out | exact Below.alloc HW1.out HW1.out.size _)⟩

set_option maxRecDepth 100000 in
set_option maxHeartbeats 4000000 in
theorem refCurve_yes (ns ss : List Int) (A B : Option Addr) (c d : Nat) (w : World) (hA : Ints w A ns) (hB : Ints w B ss) (hv : odB ns ss = true) :
    Calls Try.prog 39 #[.agg #[.slice A ns.length c, .slice B ss.length d]] w fun e w' => ∃ A' c', e = .returned (.tuple #[.slice A' (cuL ns ss (ns.length + 1)).length c', .int .i64 0]) ∧ QOut w' A' c' (cuL ns ss (ns.length + 1)) ∧ Below w.heap.size w w' := by
  have ho := od_of hv
  have hn10 := ho.le
  obtain ⟨hl, hl2⟩ := ho.l3
  have HLEN := Lib.hid ho.len
  have HNB := Lib.hid ho.nb9
  have HSB := Lib.hid ho.sb9
  have n0 := ho.np
  have n1 := ho.nm
  have s0 := ho.sp
  have s1 := ho.sm
  have HO := Lib.hid ho
  have HA := Lib.hid hA
  have HB := Lib.hid hB
  have HV := Lib.hid hv
  clear hA hB hv ho
  obtain ⟨W0, hW0, HW, H0, z0⟩ := one_new w #[.slice A ns.length c, .slice B ss.length d] 24
  have HK : Hid (∀ W, Below W0.heap.size W0 W → W.cell? ⟨w.heap.size, 0, none⟩ = some (.slice A ns.length c) ∧ W.cell? ⟨w.heap.size, 1, none⟩ = some (.slice B ss.length d)) := Lib.hid fun W hW =>
    have q0 := (hW.block _ z0).trans H0.out
    ⟨blk_cell q0 0 rfl, blk_cell q0 1 rfl⟩
  obtain ⟨b0, b1⟩ := HK.out W0 (Below.refl _ _)
  go_enter Try.func39, Try.ntmps39
  go_wp2_with (go_at_call 22; with_reducible refine (refValid_any ns ss _ _ _ _ _ (HA.out.below (by repeat (first | with_reducible exact HW.out | with_reducible exact Below.refl _ _ | with_reducible refine below_drewN ?_ _ | with_reducible refine Below.drew ?_ | (with_reducible refine Below.setCell ?_ (by first | exact Nat.le_refl _ | exact Nat.le_succ _ | (simp; done) | (simp; omega) | omega) _) | (with_reducible refine Below.alloc ?_ (by first | exact HW.out.size | (simp; done) | (simp; omega) | omega) _)))) (HB.out.below (by repeat (first | with_reducible exact HW.out | with_reducible exact Below.refl _ _ | with_reducible refine below_drewN ?_ _ | with_reducible refine Below.drew ?_ | (with_reducible refine Below.setCell ?_ (by first | exact Nat.le_refl _ | exact Nat.le_succ _ | (simp; done) | (simp; omega) | omega) _) | (with_reducible refine Below.alloc ?_ (by first | exact HW.out.size | (simp; done) | (simp; omega) | omega) _)))) hl hl2).mono ?_; rintro e w1 ⟨rfl, hB1⟩; rw [HV.out]; rw [← hW0] at hB1; have HV1 := Lib.hid hB1; clear hB1)
  clear b0 b1 hW0
  have HSZ := Lib.hid HV1.out.size
  go_loopw [4, 5] (fun v i wr => ∃ k : Nat, k ≤ ns.length + 1 ∧ i = .int .i64 k ∧ Hid (wr.ownsRow W0.heap.size 47 4 v k ((cuL ns ss k).flatMap mk4)) ∧ Hid (Below W0.heap.size W0 wr)) (fun _ i _ => ns.length + 1 - (intOf i).toNat)
  case atStart => exact ⟨0, Nat.zero_le _, rfl, Lib.hid (World.ownsRow_nil _ _ _ _), HV1⟩
  case round =>
    clear HV1 HSZ
    obtain ⟨k, hk, rfl, hown, hB⟩ := hrel
    rename World => wr
    obtain ⟨b0, b1⟩ := HK.out wr hB.out
    by_cases hlt : k < ns.length + 1
    · have hI : (k : Int) ≤ (ns.length : Int) := by omega
      have hkn : k ≤ ns.length := by omega
      have hb1 := cv_bd HO.out.pr k (by omega)
      have HKV := Lib.hid (kept_cv (ns := ns) (ss := ss) k)
      have HN : Hid (cuL ns ss (k + 1) = cuL ns ss k ++ [((lowN (cvP ns ss k).1 ns.sum, lowD (cvP ns ss k).1 ns.sum), (lowN (cvP ns ss k).2 ss.sum, lowD (cvP ns ss k).2 ss.sum))]) := Lib.hid (cu_succ ns ss k)
      have HCC := Lib.hid (cutB_mem (ct_cut (ns := ns) (ss := ss) k))
      have HCL := Lib.hid (ct_len (ns := ns) (ss := ss) hkn)
      have HCUT : Hid (∀ V, Below W0.heap.size W0 V → Calls Try.prog 76 #[.agg #[.slice A ns.length c, .slice B ss.length d], .int .i64 k] V fun e w' => ∃ A' c', e = .returned (.slice A' (ctL ns ss k).length c') ∧ Out w' A' c' (ctL ns ss k) ∧ Below V.heap.size V w') := Lib.hid fun V hV => refCut_own ns ss A B c d HO.out k hkn V (HA.out.below (below_step HW.out hV)) (HB.out.below (below_step HW.out hV))
      obtain ⟨x, hx⟩ : ∃ x, (cvP ns ss k).1 = x := ⟨_, rfl⟩
      obtain ⟨y, hy⟩ : ∃ y, (cvP ns ss k).2 = y := ⟨_, rfl⟩
      rw [hx] at HN hb1 HKV
      rw [hy] at HN hb1 HKV
      have x0 : 0 ≤ x := hb1.1.1
      have x1 : x ≤ 10000 := by have := hb1.1.2; omega
      have y0 : 0 ≤ y := hb1.2.1
      have y1 : y ≤ 10000 := by have := hb1.2.2; omega
      clear hb1 hx hy
      obtain ⟨cs, hcs⟩ : ∃ cs, ctL ns ss k = cs := ⟨_, rfl⟩
      rw [hcs] at HKV HCC HCL HCUT
      clear hcs
      have hcl1 : cs.length ≤ 1000 := by rw [HCL.out]; omega
      clear HCL
      go_upto_region 8 with (go_at_call 76; with_reducible refine (HCUT.out _ (by first | with_reducible exact hB.out | with_reducible exact Below.drew hB.out | exact below_drewN hB.out _)).mono ?_; rintro e wx ⟨A', c', rfl, hO, hBx⟩; have hBx2 : Below W0.heap.size W0 wx := below_step (by first | with_reducible exact hB.out | with_reducible exact Below.drew hB.out | exact below_drewN hB.out _) hBx; have HBX := Lib.hid hBx2; have HOX := Lib.hid (own_keep hown.out hBx); have HOU := Lib.hid hO; clear hBx hBx2 hO b0 b1)
      have hX : Below wx.heap.size wx wx := Below.refl _ _
      have HKX : Hid (∀ W, Below wx.heap.size wx W → W.cell? ⟨w.heap.size, 0, none⟩ = some (.slice A ns.length c) ∧ W.cell? ⟨w.heap.size, 1, none⟩ = some (.slice B ss.length d)) := Lib.hid fun W hW => HK.out W (below_step HBX.out hW)
      have HK1 : Hid (∀ V, Below wx.heap.size wx V → Calls Try.prog 69 #[.slice A ns.length c, .slice A' cs.length c'] V fun e w' => e = .returned (.int .i64 x) ∧ V = w') := Lib.hid fun V hV => by
        have := refkept_any ns cs A A' c c' V (HA.out.below (below_step HW.out (below_step HBX.out hV))) (HOU.out.ints.below hV) hcl1 HNB.out HCC.out
        rw [HKV.out.1] at this; exact this
      have HK2 : Hid (∀ V, Below wx.heap.size wx V → Calls Try.prog 69 #[.slice B ss.length d, .slice A' cs.length c'] V fun e w' => e = .returned (.int .i64 y) ∧ V = w') := Lib.hid fun V hV => by
        have := refkept_any ss cs B A' d c' V (HB.out.below (below_step HW.out (below_step HBX.out hV))) (HOU.out.ints.below hV) hcl1 HSB.out (fun a ha => by rw [← HLEN.out]; exact HCC.out a ha)
        rw [HKV.out.2] at this; exact this
      have HT1 : Hid (∀ V, Below wx.heap.size wx V → Calls Try.prog 58 #[.slice A ns.length c] V fun e w' => e = .returned (.int .i64 ns.sum) ∧ V = w') := Lib.hid fun V hV => total_any ns A c V (HA.out.below (below_step HW.out (below_step HBX.out hV))) hl HNB.out
      have HT2 : Hid (∀ V, Below wx.heap.size wx V → Calls Try.prog 58 #[.slice B ss.length d] V fun e w' => e = .returned (.int .i64 ss.sum) ∧ V = w') := Lib.hid fun V hV => total_any ss B d V (HB.out.below (below_step HW.out (below_step HBX.out hV))) hl2 HSB.out
      obtain ⟨b0, b1⟩ := HKX.out wx hX
      go_region_held3 (fun W => W.cell? ⟨w.heap.size, 0, none⟩ = some (.slice A ns.length c) ∧ W.cell? ⟨w.heap.size, 1, none⟩ = some (.slice B ss.length d))
        ((first | with_reducible exact hSS | with_reducible exact HKX.out _ hX | with_reducible exact HKX.out _ (Below.drew hX) | with_reducible exact HKX.out _ (below_drewN hX _) | with_reducible exact HKX.out _ (Below.alloc hX hX.size _) | with_reducible exact HKX.out _ (Below.drew (Below.alloc hX hX.size _)) | with_reducible exact HKX.out _ (below_drewN (Below.alloc hX hX.size _) _)))
        ((first
          | (go_at_call 69; with_reducible refine (HK1.out _ (by first | with_reducible exact hX | with_reducible exact Below.drew hX | exact below_drewN hX _)).mono ?_; rintro e wt ⟨rfl, rfl⟩)
          | (go_at_call 69; with_reducible refine (HK2.out _ (by first | with_reducible exact hX | with_reducible exact Below.drew hX | exact below_drewN hX _)).mono ?_; rintro e wt ⟨rfl, rfl⟩)
          | (go_at_call 58; with_reducible refine (HT1.out _ (by first | with_reducible exact hX | with_reducible exact Below.drew hX | exact below_drewN hX _)).mono ?_; rintro e wt ⟨rfl, rfl⟩)
          | (go_at_call 58; with_reducible refine (HT2.out _ (by first | with_reducible exact hX | with_reducible exact Below.drew hX | exact below_drewN hX _)).mono ?_; rintro e wt ⟨rfl, rfl⟩)
          | (go_at_call 59; with_reducible refine (refRatio_any x ns.sum _ (by omega) (by omega) (by omega) (by omega)).mono ?_; rintro e wa ⟨rfl, hBa⟩; have hX2 : Below wx.heap.size wx wa := below_step (by first | with_reducible exact hX | with_reducible exact Below.drew hX | exact below_drewN hX _) hBa; clear hX hBa; have hX := hX2; clear hX2)
          | (go_at_call 59; with_reducible refine (refRatio_any y ss.sum _ (by omega) (by omega) (by omega) (by omega)).mono ?_; rintro e wb ⟨rfl, hBa⟩; have hX2 : Below wx.heap.size wx wb := below_step (by first | with_reducible exact hX | with_reducible exact Below.drew hX | exact below_drewN hX _) hBa; clear hX hBa; have hX := hX2; clear hX2)
          | (refine step_app_quad0 _ rfl (.tmp 20) (.tmp 38) rfl W0.heap.size _ k _ _ _ _ _ rfl (own_keep HOX.out hX) rfl (by omega) (Nat.le_trans HBX.out.size hX.size) ?_; intro v2 w3 hown2 hB3 hfar; have hSS := HK.out _ ((below_step HBX.out hX).trans hB3); have HBE := Lib.hid ((below_step HBX.out hX).trans hB3); have HOE := Lib.hid hown2; clear hX hown2 hB3 hfar)))
      all_goals
        go_wp2
        go_roundw
        case rel => exact ⟨k + 1, by omega, by go_num, by rw [HN.out]; exact HOE, HBE⟩
        case measure => simp [intOf]; omega
    · obtain rfl : k = ns.length + 1 := by omega
      obtain ⟨A2, c2, rfl, hQ⟩ := own_quads hown.out
      have HQ := Lib.hid hQ
      clear hQ
      rw [cu_len] at *
      go_wp2
      go_ret2
      refine ⟨A2, c2, ?_, HQ.out, below_step HW.out hB.out⟩
      simp [cu_len]
end Go.Proofs.Ytolpbbabmcpdkaa
