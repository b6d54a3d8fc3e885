/-
  Contract: Curve (weigh).
-/
import Derived.Test.YtolpbbabmcpdkaaQuad
import Derived.Test.YtolpbbabmcpdkaaPriceW
set_option linter.unusedVariables false
set_option linter.unusedSimpArgs false
namespace Go.Proofs.Ytolpbbabmcpdkaa
open Go.RowKit Go.Shelf

set_option maxRecDepth 100000 in
set_option maxHeartbeats 1000000 in
theorem wCurve_no (ns ss : List Int) (A B : Option Addr) (c d : Nat) (w : World) (hA : Ints w A ns) (hB : Ints w B ss) (hl : ns.length ≤ 1000) (hl2 : ss.length ≤ 1000) (hv : odB ns ss = false) :
    Calls Try.prog 38 #[.agg #[.slice A ns.length c, .slice B ss.length d]] w fun e w' => e = .returned (.tuple #[.slice none 0 0, .int .i64 70]) ∧ Below w.heap.size w w' := by
  have HA := Lib.hid hA
  have HB := Lib.hid hB
  have HV := Lib.hid hv
  clear hA hB hv
  obtain ⟨W0, hW0, HW, H0, z0⟩ := one_new w #[.slice A ns.length c, .slice B ss.length d] 24
  have b0 : World.cell? W0 ⟨_, 0, none⟩ = some (.slice A ns.length c) := blk_cell H0.out 0 rfl
  have b1 : World.cell? W0 ⟨_, 1, none⟩ = some (.slice B ss.length d) := blk_cell H0.out 1 rfl
  go_enter Try.func38, Try.ntmps38
  go_wp2_with (go_at_call 72; with_reducible refine (summed_no ns ss _ _ _ _ _ (HA.out.below (by repeat (first | with_reducible exact HW.out | with_reducible exact Below.refl _ _ | with_reducible refine below_drewN ?_ _ | with_reducible refine Below.drew ?_ | (with_reducible refine Below.setCell ?_ (by first | exact Nat.le_refl _ | exact Nat.le_succ _ | (simp; done) | (simp; omega) | omega) _) | (with_reducible refine Below.alloc ?_ (by first | exact HW.out.size | (simp; done) | (simp; omega) | omega) _)))) (HB.out.below (by repeat (first | with_reducible exact HW.out | with_reducible exact Below.refl _ _ | with_reducible refine below_drewN ?_ _ | with_reducible refine Below.drew ?_ | (with_reducible refine Below.setCell ?_ (by first | exact Nat.le_refl _ | exact Nat.le_succ _ | (simp; done) | (simp; omega) | omega) _) | (with_reducible refine Below.alloc ?_ (by first | exact HW.out.size | (simp; done) | (simp; omega) | omega) _)))) hl hl2 HV.out).mono ?_; rintro e w1 ⟨rfl, hB1⟩; rw [← hW0] at hB1; have HW1 := Lib.hid (below_step HW.out hB1); clear hB1)
  go_ret2
  exact ⟨rfl, (by first | exact HW1.out | exact Below.alloc HW1.out HW1.out.size _)⟩

set_option maxRecDepth 100000 in
set_option maxHeartbeats 4000000 in
theorem wCurve_yes (ns ss : List Int) (A B : Option Addr) (c d : Nat) (w : World) (hA : Ints w A ns) (hB : Ints w B ss) (hv : odB ns ss = true) :
    Calls Try.prog 38 #[.agg #[.slice A ns.length c, .slice B ss.length d]] w fun e w' => ∃ A' c', e = .returned (.tuple #[.slice A' (cuL ns ss (ns.length + 1)).length c', .int .i64 0]) ∧ QOut w' A' c' (cuL ns ss (ns.length + 1)) ∧ Below w.heap.size w w' := by
  have ho := od_of hv
  have hn10 := ho.le
  have n0 := ho.np
  have n1 := ho.nm
  have s0 := ho.sp
  have s1 := ho.sm
  have HO := Lib.hid ho
  have HA := Lib.hid hA
  have HB := Lib.hid hB
  have HV := Lib.hid hv
  clear hA hB hv ho
  obtain ⟨W0, hW0, HW, H0, z0⟩ := one_new w #[.slice A ns.length c, .slice B ss.length d] 24
  have b0 : World.cell? W0 ⟨_, 0, none⟩ = some (.slice A ns.length c) := blk_cell H0.out 0 rfl
  have b1 : World.cell? W0 ⟨_, 1, none⟩ = some (.slice B ss.length d) := blk_cell H0.out 1 rfl
  go_enter Try.func38, Try.ntmps38
  go_wp2_with (first
    | (go_at_call 72; with_reducible refine (summed_yes ns ss _ _ _ _ _ (HA.out.below (by repeat (first | with_reducible exact HW.out | with_reducible exact Below.refl _ _ | with_reducible refine below_drewN ?_ _ | with_reducible refine Below.drew ?_ | (with_reducible refine Below.setCell ?_ (by first | exact Nat.le_refl _ | exact Nat.le_succ _ | (simp; done) | (simp; omega) | omega) _) | (with_reducible refine Below.alloc ?_ (by first | exact HW.out.size | (simp; done) | (simp; omega) | omega) _)))) (HB.out.below (by repeat (first | with_reducible exact HW.out | with_reducible exact Below.refl _ _ | with_reducible refine below_drewN ?_ _ | with_reducible refine Below.drew ?_ | (with_reducible refine Below.setCell ?_ (by first | exact Nat.le_refl _ | exact Nat.le_succ _ | (simp; done) | (simp; omega) | omega) _) | (with_reducible refine Below.alloc ?_ (by first | exact HW.out.size | (simp; done) | (simp; omega) | omega) _)))) HV.out).mono ?_; rintro e w1 ⟨rfl, hB1⟩; rw [← hW0] at hB1; have HW := Lib.hid (below_step HW.out hB1); clear hB1)
    | (go_at_call 89; refine (curve_own ns ss A B c d HO.out _ (HA.out.below (by repeat (first | with_reducible exact HW.out | with_reducible exact Below.refl _ _ | with_reducible refine below_drewN ?_ _ | with_reducible refine Below.drew ?_ | (with_reducible refine Below.setCell ?_ (by first | exact Nat.le_refl _ | exact Nat.le_succ _ | (simp; done) | (simp; omega) | omega) _) | (with_reducible refine Below.alloc ?_ (by first | exact HW.out.size | (simp; done) | (simp; omega) | omega) _)))) (HB.out.below (by repeat (first | with_reducible exact HW.out | with_reducible exact Below.refl _ _ | with_reducible refine below_drewN ?_ _ | with_reducible refine Below.drew ?_ | (with_reducible refine Below.setCell ?_ (by first | exact Nat.le_refl _ | exact Nat.le_succ _ | (simp; done) | (simp; omega) | omega) _) | (with_reducible refine Below.alloc ?_ (by first | exact HW.out.size | (simp; done) | (simp; omega) | omega) _))))).mono ?_; rintro e w2 ⟨A', c', rfl, hC, hB2, hbs⟩))
  obtain ⟨W1, hW1, HW1, K1, y1⟩ := one_new w1 #[.slice A ns.length c, .slice B ss.length d, .int .i64 ns.sum, .int .i64 ss.sum] 67
  rw [← hW1] at hB2 hbs
  have HC := Lib.hid hC
  have HW2 : Hid (Below w.heap.size w w2) := Lib.hid (below_step (below_step HW.out HW1.out) hB2)
  have HKS : Hid (∀ W, Below w2.heap.size w2 W → W.cell? ⟨w1.heap.size, 2, none⟩ = some (.int .i64 ns.sum) ∧ W.cell? ⟨w1.heap.size, 3, none⟩ = some (.int .i64 ss.sum)) := Lib.hid fun W hW =>
    have q0 := (hW.block _ (Nat.lt_of_lt_of_le y1 hB2.size)).trans ((hB2.block _ y1).trans K1.out)
    ⟨blk_cell q0 2 rfl, blk_cell q0 3 rfl⟩
  have hs12 : w1.heap.size < w2.heap.size := Nat.lt_of_lt_of_le y1 hB2.size
  have HWL := Lib.hid hs12
  clear hbs hC hB2 hW1 HW1 K1 y1 hs12 b0 b1 H0 z0 hW0
  try clear b0 b1
  go_loopw [6, 20] (fun v i wr => ∃ k : Nat, k ≤ ns.length + 1 ∧ i = .int .i64 k ∧ Hid (wr.ownsRow w2.heap.size 47 4 v k ((cuL ns ss k).flatMap mk4)) ∧ Hid (Below w2.heap.size w2 wr)) (fun _ i _ => ns.length + 1 - (intOf i).toNat)
  case atStart => exact ⟨0, Nat.zero_le _, rfl, Lib.hid (World.ownsRow_nil _ _ _ _), Lib.hid (Below.refl _ _)⟩
  case round =>
    obtain ⟨k, hk, rfl, hown, hB⟩ := hrel
    rename World => wr
    by_cases hlt : k < ns.length + 1
    · have hI : (k : Int) < (ns.length : Int) + 1 := by omega
      obtain ⟨bb, oo, rfl, hbb, hcell⟩ := HC.out.marks.open_ (by rw [cvL_len]; omega)
      have e0 := (hB.out.cell (p := ⟨bb, oo + k * 2, none⟩) hbb).trans (hcell k _ (cvL_get hlt)).1
      have e1 := (hB.out.cell (p := ⟨bb, oo + k * 2 + 1, none⟩) hbb).trans (hcell k _ (cvL_get hlt)).2
      have hb1 := cv_bd HO.out.pr k (by omega)
      have HN : Hid (cuL ns ss (k + 1) = cuL ns ss k ++ [((lowN (cvP ns ss k).1 ns.sum, lowD (cvP ns ss k).1 ns.sum), (lowN (cvP ns ss k).2 ss.sum, lowD (cvP ns ss k).2 ss.sum))]) := Lib.hid (cu_succ ns ss k)
      obtain ⟨x, hx⟩ : ∃ x, (cvP ns ss k).1 = x := ⟨_, rfl⟩
      obtain ⟨y, hy⟩ : ∃ y, (cvP ns ss k).2 = y := ⟨_, rfl⟩
      rw [hx] at e0 HN hb1
      rw [hy] at e1 HN hb1
      have x0 : 0 ≤ x := hb1.1.1
      have x1 : x ≤ 10000 := by have := hb1.1.2; omega
      have y0 : 0 ≤ y := hb1.2.1
      have y1 : y ≤ 10000 := by have := hb1.2.2; omega
      clear hb1 hx hy hcell
      obtain ⟨f2, f3⟩ := HKS.out wr hB.out
      go_wp2
      obtain ⟨wx, hwx⟩ : ∃ V, wr.alloc (.cells #[.int .i64 x, .int .i64 y] 88) = V := ⟨_, rfl⟩
      try rw [hwx]
      have hbx : Hid (Below w2.heap.size w2 wx) := Lib.hid (by rw [← hwx]; exact Below.alloc hB.out hB.out.size _)
      have hox : Hid (wx.ownsRow w2.heap.size 47 4 _ k ((cuL ns ss k).flatMap mk4)) := Lib.hid (by rw [← hwx]; exact hown.out.alloc _)
      have hpx : Hid (wx.heap[wr.heap.size]? = some (.cells #[.int .i64 x, .int .i64 y] 88 (0, 0))) := Lib.hid (by rw [← hwx]; exact heap_alloc_new wr _)
      have hpl : wr.heap.size < wx.heap.size := by rw [← hwx]; simp
      have HKX : Hid (∀ W, Below wx.heap.size wx W → W.cell? ⟨wr.heap.size, 0, none⟩ = some (.int .i64 x) ∧ W.cell? ⟨wr.heap.size, 1, none⟩ = some (.int .i64 y) ∧ W.cell? ⟨w1.heap.size, 2, none⟩ = some (.int .i64 ns.sum) ∧ W.cell? ⟨w1.heap.size, 3, none⟩ = some (.int .i64 ss.sum)) := Lib.hid fun W hW =>
        have q0 := (hW.block _ hpl).trans hpx.out
        ⟨blk_cell q0 0 rfl, blk_cell q0 1 rfl, HKS.out W (below_step hbx.out hW)⟩
      have hX : Below wx.heap.size wx wx := Below.refl _ _
      obtain ⟨p0, p1, f2', f3'⟩ := HKX.out wx hX
      clear f2 f3 e0 e1
      clear hwx
      go_region_held3 (fun W => W.cell? ⟨wr.heap.size, 0, none⟩ = some (.int .i64 x) ∧ W.cell? ⟨wr.heap.size, 1, none⟩ = some (.int .i64 y) ∧ W.cell? ⟨w1.heap.size, 2, none⟩ = some (.int .i64 ns.sum) ∧ W.cell? ⟨w1.heap.size, 3, none⟩ = some (.int .i64 ss.sum))
        ((first | with_reducible exact hSS | with_reducible exact HKX.out _ hX | with_reducible exact HKX.out _ (Below.drew hX) | with_reducible exact HKX.out _ (below_drewN hX _) | with_reducible exact HKX.out _ (Below.alloc hX hX.size _) | with_reducible exact HKX.out _ (Below.drew (Below.alloc hX hX.size _)) | with_reducible exact HKX.out _ (below_drewN (Below.alloc hX hX.size _) _)))
        ((first
          | (go_at_call 66; with_reducible refine (ratio_any x ns.sum _ (by omega) (by omega) (by omega) (by omega)).mono ?_; rintro e wa ⟨rfl, hBa⟩; have hX2 : Below wx.heap.size wx wa := below_step (by first | with_reducible exact hX | exact (by repeat (first | with_reducible exact Below.refl _ _ | with_reducible assumption | refine below_drewN ?_ _ | with_reducible refine Below.drew ?_ | (refine Below.alloc ?_ (by first | (simp; done) | (simp; omega) | omega) _)))) hBa; clear hX hBa; have hX := hX2; clear hX2)
          | (go_at_call 66; with_reducible refine (ratio_any y ss.sum _ (by omega) (by omega) (by omega) (by omega)).mono ?_; rintro e wb ⟨rfl, hBb⟩; have hX2 : Below wx.heap.size wx wb := below_step (by first | with_reducible exact hX | exact (by repeat (first | with_reducible exact Below.refl _ _ | with_reducible assumption | refine below_drewN ?_ _ | with_reducible refine Below.drew ?_ | (refine Below.alloc ?_ (by first | (simp; done) | (simp; omega) | omega) _)))) hBb; clear hX hBb; have hX := hX2; clear hX2)
          | (refine step_app_quad0 _ rfl (.tmp 24) (.tmp 36) rfl w2.heap.size _ k _ _ _ _ _ rfl (own_keep hox.out hX) rfl (by omega) (Nat.le_trans hbx.out.size hX.size) ?_; intro v2 w3 hown2 hB3 hfar; have hSS := And.intro ((cell_blk (p := ⟨wr.heap.size, 0, none⟩) (hfar _ (Nat.lt_of_lt_of_le hpl hX.size) (own_ne (own_keep hox.out hX) ((hX.block _ hpl).trans hpx.out) (by decide)))).trans (HKX.out _ hX).1) (And.intro ((cell_blk (p := ⟨wr.heap.size, 1, none⟩) (hfar _ (Nat.lt_of_lt_of_le hpl hX.size) (own_ne (own_keep hox.out hX) ((hX.block _ hpl).trans hpx.out) (by decide)))).trans (HKX.out _ hX).2.1) (HKS.out _ ((below_step hbx.out hX).trans hB3))); have HBE := Lib.hid ((below_step hbx.out hX).trans hB3); have HOE := Lib.hid hown2; clear hX hown2 hB3 hfar)))
      all_goals
        go_wp2
        go_roundw
        case rel => exact ⟨k + 1, by omega, by go_num, by rw [HN.out]; exact HOE, HBE⟩
        case measure => simp [intOf]; omega
    · obtain rfl : k = ns.length + 1 := by omega
      obtain ⟨A2, c2, rfl, hQ⟩ := own_quads hown.out
      have HQ := Lib.hid hQ
      clear hQ
      rw [cu_len] at *
      obtain ⟨f2, f3⟩ := HKS.out wr hB.out
      go_wp2
      go_ret2
      refine ⟨A2, c2, ?_, HQ.out, below_step HW2.out hB.out⟩
      simp [cu_len]
end Go.Proofs.Ytolpbbabmcpdkaa
