/-
  Contract: Apart of the reference (weigh).
-/
import Derived.Test.YtolpbbabmcpdkaaRefArea
import Derived.Test.YtolpbbabmcpdkaaLawFar
set_option linter.unusedVariables false
set_option linter.unusedSimpArgs false
namespace Go.Proofs.Ytolpbbabmcpdkaa
open Go.RowKit Go.Shelf

set_option maxRecDepth 100000 in
set_option maxHeartbeats 1000000 in
theorem refApart_no (ns ss : List Int) (A B : Option Addr) (c d : Nat) (w : World) (hA : Ints w A ns) (hB : Ints w B ss) (hl : ns.length ≤ 1000) (hl2 : ss.length ≤ 1000) (hv : odB ns ss = false) :
    Calls Try.prog 45 #[.agg #[.slice A ns.length c, .slice B ss.length d]] w fun e w' => e = .returned (.tuple #[.agg #[.int .i64 0, .int .i64 0], .int .i64 70]) ∧ Below w.heap.size w w' := by
  have HA := Lib.hid hA
  have HB := Lib.hid hB
  have HV := Lib.hid hv
  clear hA hB hv
  obtain ⟨W0, hW0, HW, H0, H1, z0, z1⟩ := two_new w #[.slice A ns.length c, .slice B ss.length d] #[.int .i64 0, .int .i64 0] 24 28
  have HK : Hid (∀ W, Below W0.heap.size W0 W → W.cell? ⟨w.heap.size, 0, none⟩ = some (.slice A ns.length c) ∧ W.cell? ⟨w.heap.size, 1, none⟩ = some (.slice B ss.length d) ∧ W.cell? ⟨w.heap.size + 1, 0, none⟩ = some (.int .i64 0) ∧ W.cell? ⟨w.heap.size + 1, 1, none⟩ = some (.int .i64 0) ∧ W.frozen? ⟨w.heap.size + 1, 0, none⟩ = false ∧ W.frozen? ⟨w.heap.size + 1, 1, none⟩ = false) := Lib.hid fun W hW =>
    have q0 := (hW.block _ z0).trans H0.out
    have q1 := (hW.block _ z1).trans H1.out
    ⟨blk_cell q0 0 rfl, blk_cell q0 1 rfl, blk_cell q1 0 rfl, blk_cell q1 1 rfl, blk_frozen q1 0, blk_frozen q1 1⟩
  go_enter Try.func45, Try.ntmps45
  go_wp2_with (go_at_call 22; with_reducible refine (refValid_any ns ss _ _ _ _ _ (HA.out.below (by repeat (first | with_reducible exact Below.refl _ _ | with_reducible assumption | refine below_drewN ?_ _ | with_reducible refine Below.drew ?_ | (refine Below.setCell ?_ (by first | (simp; done) | (simp; omega) | omega) _) | (refine Below.alloc ?_ (by first | (simp; done) | (simp; omega) | omega) _)))) (HB.out.below (by repeat (first | with_reducible exact Below.refl _ _ | with_reducible assumption | refine below_drewN ?_ _ | with_reducible refine Below.drew ?_ | (refine Below.setCell ?_ (by first | (simp; done) | (simp; omega) | omega) _) | (refine Below.alloc ?_ (by first | (simp; done) | (simp; omega) | omega) _)))) hl hl2).mono ?_; rintro e w1 ⟨rfl, hB1⟩; rw [HV.out]; rw [← hW0] at hB1; have hV : Below W0.heap.size W0 w1 := hB1; clear hB1; obtain ⟨b0, b1, c0, c1, cf0, cf1⟩ := HK.out w1 hV; have zv := hV.size)
  exact bodyPost_ret (v := .tuple #[.agg #[.int .i64 0, .int .i64 0], .int .i64 70]) (by simp [results, Try.results45, go_sem, cell_ao, c0, c1]) rfl ⟨rfl, set6_belI (below_step HW.out hV)⟩

set_option maxRecDepth 100000 in
set_option maxHeartbeats 4000000 in
theorem refApart_yes (ns ss : List Int) (A B : Option Addr) (c d : Nat) (w : World) (hA : Ints w A ns) (hB : Ints w B ss) (hv : odB ns ss = true) :
    Calls Try.prog 45 #[.agg #[.slice A ns.length c, .slice B ss.length d]] w fun e w' => e = .returned (.tuple #[.agg #[.int .i64 (lowN (apV ns ss) (unV ns ss 1)), .int .i64 (lowD (apV ns ss) (unV ns ss 1))], .int .i64 0]) ∧ Below w.heap.size w w' := by
  have ho := od_of hv
  have HO := Lib.hid ho
  obtain ⟨hl, hl2⟩ := ho.l3
  have hn10 := ho.le
  have hlen := Lib.hid ho.len
  have HNB := Lib.hid ho.nb9
  have HSB := Lib.hid ho.sb9
  have n0 := ho.np
  have n1 := ho.nm
  have s0 := ho.sp
  have s1 := ho.sm
  obtain ⟨d0, d1, d2, d3⟩ := ar_bds ho
  obtain ⟨q0, q1, q2, q3⟩ := ap_bds ho
  have HUN : Hid (lowN (2 * apV ns ss) (2 * ss.sum * ns.sum) = lowN (apV ns ss) (unV ns ss 1) ∧ lowD (2 * apV ns ss) (2 * ss.sum * ns.sum) = lowD (apV ns ss) (unV ns ss 1)) := Lib.hid (by rw [Int.mul_assoc 2 ss.sum ns.sum, un_one]; exact low_two)
  have HTW := Lib.hid (twK_all (ns := ns) (ss := ss) ho.len)
  have HDE : Hid (2 * ns.sum * ss.sum = 2 * ss.sum * ns.sum) := Lib.hid (two_ns ss.sum ns.sum)
  rw [HDE.out] at d1 d2 d3
  have e1 : IntKind.i64.wrap (2 * ss.sum) = 2 * ss.sum := IntWalk.i64_in _ (by omega)
  have e2 : IntKind.i64.wrap (2 * ss.sum * ns.sum) = 2 * ss.sum * ns.sum := IntWalk.i64_in _ (by omega)
  have HA := Lib.hid hA
  have HB := Lib.hid hB
  have HV := Lib.hid hv
  clear hA hB hv ho
  obtain ⟨W0, hW0, HW, H0, H1, z0, z1⟩ := two_new w #[.slice A ns.length c, .slice B ss.length d] #[.int .i64 0, .int .i64 0] 24 28
  have HK : Hid (∀ W, Below W0.heap.size W0 W → W.cell? ⟨w.heap.size, 0, none⟩ = some (.slice A ns.length c) ∧ W.cell? ⟨w.heap.size, 1, none⟩ = some (.slice B ss.length d) ∧ W.cell? ⟨w.heap.size + 1, 0, none⟩ = some (.int .i64 0) ∧ W.cell? ⟨w.heap.size + 1, 1, none⟩ = some (.int .i64 0) ∧ W.frozen? ⟨w.heap.size + 1, 0, none⟩ = false ∧ W.frozen? ⟨w.heap.size + 1, 1, none⟩ = false) := Lib.hid fun W hW =>
    have q0 := (hW.block _ z0).trans H0.out
    have q1 := (hW.block _ z1).trans H1.out
    ⟨blk_cell q0 0 rfl, blk_cell q0 1 rfl, blk_cell q1 0 rfl, blk_cell q1 1 rfl, blk_frozen q1 0, blk_frozen q1 1⟩
  go_enter Try.func45, Try.ntmps45
  go_wp2_with (go_at_call 22; with_reducible refine (refValid_any ns ss _ _ _ _ _ (HA.out.below (by repeat (first | with_reducible exact Below.refl _ _ | with_reducible assumption | refine below_drewN ?_ _ | with_reducible refine Below.drew ?_ | (refine Below.setCell ?_ (by first | (simp; done) | (simp; omega) | omega) _) | (refine Below.alloc ?_ (by first | (simp; done) | (simp; omega) | omega) _)))) (HB.out.below (by repeat (first | with_reducible exact Below.refl _ _ | with_reducible assumption | refine below_drewN ?_ _ | with_reducible refine Below.drew ?_ | (refine Below.setCell ?_ (by first | (simp; done) | (simp; omega) | omega) _) | (refine Below.alloc ?_ (by first | (simp; done) | (simp; omega) | omega) _)))) hl hl2).mono ?_; rintro e w1 ⟨rfl, hB1⟩; rw [HV.out]; rw [← hW0] at hB1; have hV : Below W0.heap.size W0 w1 := hB1; clear hB1; obtain ⟨b0, b1, c0, c1, cf0, cf1⟩ := HK.out w1 hV; have zv := hV.size)
  clear b0 b1 c0 c1 cf0 cf1 zv
  go_loopw [4, 15] (fun v i wr => ∃ k : Nat, k ≤ ss.length ∧ v = .int .i64 (twK ns ss k) ∧ i = .int .i64 k ∧ Hid (Below W0.heap.size W0 wr)) (fun _ i _ => ss.length - (intOf i).toNat)
  case atStart => exact ⟨0, Nat.zero_le _, rfl, rfl, Lib.hid hV⟩
  case round =>
    clear hV
    obtain ⟨k, hk, rfl, rfl, hB⟩ := hrel
    rename World => wr
    by_cases hlt2 : k < ss.length
    · have hlt : k < ns.length := by rw [hlen.out]; exact hlt2
      obtain ⟨b0, b1, _, _, _, _⟩ := HK.out wr hB.out
      obtain ⟨ad, bd, x, y, rfl, rfl, k1, k2, f1, f2, x0, x1, y0, y1⟩ := HO.out.at_ (HA.out.below (below_step HW.out hB.out)) (HB.out.below (below_step HW.out hB.out)) hlt
      have HT2N : Hid (∀ j : Nat, Calls Try.prog 58 #[.slice (some ad) ns.length c] (wr.drewN j) fun e w' => e = .returned (.int .i64 ns.sum) ∧ w' = wr.drewN j) := Lib.hid (fun j => (total_any ns (some ad) c _ (HA.out.below (below_drewN (below_step HW.out hB.out) j)) hl HNB.out).mono fun e w' h => ⟨h.1, h.2.symm⟩)
      have HT2S : Hid (∀ j : Nat, Calls Try.prog 58 #[.slice (some bd) ss.length d] (wr.drewN j) fun e w' => e = .returned (.int .i64 ss.sum) ∧ w' = wr.drewN j) := Lib.hid (fun j => (total_any ss (some bd) d _ (HB.out.below (below_drewN (below_step HW.out hB.out) j)) hl2 HSB.out).mono fun e w' h => ⟨h.1, h.2.symm⟩)
      have HT := Lib.hid (twK_succ (ns := ns) (ss := ss) hlt)
      rw [f1.out, f2.out] at HT
      have hb := twK_bd HO.out k (by omega)
      generalize twK ns ss k = t at *
      obtain ⟨m0, m1⟩ := mul_bd (a := y) (b := ns.sum) (A := 1000) (B := 10000) y0 y1 (by omega) (by omega)
      obtain ⟨m2, m3⟩ := mul_bd (a := x) (b := ss.sum) (A := 1000) (B := 10000) x0 x1 (by omega) (by omega)
      have tb0 : 0 ≤ t := hb.1
      have tb1 : t ≤ 200000000 := by omega
      clear hb
      by_cases hneg : y * ns.sum - x * ss.sum < -(y * ns.sum - x * ss.sum)
      · have hmx : (if y * ns.sum - x * ss.sum < -(y * ns.sum - x * ss.sum) then -(y * ns.sum - x * ss.sum) else y * ns.sum - x * ss.sum) = -(y * ns.sum - x * ss.sum) := if_pos hneg
        have HM : Hid (twSum.absW (y * ns.sum - x * ss.sum) = -(y * ns.sum - x * ss.sum)) := Lib.hid (by unfold twSum.absW; omega)
        go_wp2
        go_quiet ((first | (go_at_call 58; with_reducible exact Calls.quiet_of_same (HT2N.out _)) | (go_at_call 58; with_reducible exact Calls.quiet_of_same (HT2S.out _))))
        go_wp2
        all_goals
          go_roundw
          case rel => exact ⟨k + 1, by omega, by rw [HT.out, HM.out], by go_num, Lib.hid (by first | exact hB.out | exact Below.drew hB.out | exact below_drewN hB.out _ | exact below_drewN (below_drewN hB.out _) _)⟩
          case measure => simp [intOf]; omega
      · have hmx : (if y * ns.sum - x * ss.sum < -(y * ns.sum - x * ss.sum) then -(y * ns.sum - x * ss.sum) else y * ns.sum - x * ss.sum) = y * ns.sum - x * ss.sum := if_neg hneg
        have HM : Hid (twSum.absW (y * ns.sum - x * ss.sum) = y * ns.sum - x * ss.sum) := Lib.hid (by unfold twSum.absW; omega)
        go_wp2
        go_quiet ((first | (go_at_call 58; with_reducible exact Calls.quiet_of_same (HT2N.out _)) | (go_at_call 58; with_reducible exact Calls.quiet_of_same (HT2S.out _))))
        go_wp2
        all_goals
          go_roundw
          case rel => exact ⟨k + 1, by omega, by rw [HT.out, HM.out], by go_num, Lib.hid (by first | exact hB.out | exact Below.drew hB.out | exact below_drewN hB.out _ | exact below_drewN (below_drewN hB.out _) _)⟩
          case measure => simp [intOf]; omega
    · obtain rfl : k = ss.length := by omega
      rw [← hlen.out, HTW.out]
      have hV := hB.out
      obtain ⟨b0, b1, c0, c1, cf0, cf1⟩ := HK.out wr hV
      have z01 : w.heap.size ≠ w.heap.size + 1 := by omega
      have HT1 := Lib.hid fun (V : World) (hV' : Below W0.heap.size W0 V) => total_any ss B d V (HB.out.below (below_step HW.out hV')) hl2 HSB.out
      have HT2 := Lib.hid fun (V : World) (hV' : Below W0.heap.size W0 V) => total_any ns A c V (HA.out.below (below_step HW.out hV')) hl HNB.out
      go_upto_region 10 with (fail)
      go_region_held3 (fun W => W.cell? ⟨w.heap.size, 0, none⟩ = some (.slice A ns.length c) ∧ W.cell? ⟨w.heap.size, 1, none⟩ = some (.slice B ss.length d))
        ((first | with_reducible exact ⟨b0, b1⟩ | (refine ⟨?_, ?_⟩ <;> (repeat (first | with_reducible refine (cell_set1 _ z01).trans ?_ | with_reducible refine (cell_drew1 _ _).trans ?_)) <;> first | with_reducible exact b0 | with_reducible exact b1)))
        ((first
          | (go_at_call 58; with_reducible refine (HT1.out _ (by first | with_reducible exact hV | exact (by repeat (first | with_reducible exact Below.refl _ _ | with_reducible assumption | refine below_drewN ?_ _ | with_reducible refine Below.drew ?_ | (refine Below.alloc ?_ (by first | (simp; done) | (simp; omega) | omega) _))))).mono ?_; rintro e wt ⟨rfl, rfl⟩)
          | (go_at_call 58; with_reducible refine (HT2.out _ (by first | with_reducible exact hV | exact (by repeat (first | with_reducible exact Below.refl _ _ | with_reducible assumption | refine below_drewN ?_ _ | with_reducible refine Below.drew ?_ | (refine Below.alloc ?_ (by first | (simp; done) | (simp; omega) | omega) _))))).mono ?_; rintro e wt ⟨rfl, rfl⟩)
          | (go_at_call 59; with_reducible refine (refRatio_any (2 * apV ns ss) (2 * ss.sum * ns.sum) _ (by omega) (by omega) (by omega) (by omega)).mono ?_; rintro e wr4 ⟨rfl, hB4⟩; have hV2 : Below W0.heap.size W0 wr4 := below_step (by first | with_reducible exact hV | exact (by repeat (first | with_reducible exact Below.refl _ _ | with_reducible assumption | refine below_drewN ?_ _ | with_reducible refine Below.drew ?_ | (refine Below.alloc ?_ (by first | (simp; done) | (simp; omega) | omega) _)))) hB4; clear hV; clear b0 b1 c0 c1 cf0 cf1; have hV := hV2; clear hV2; obtain ⟨b0, b1, c0, c1, cf0, cf1⟩ := HK.out wr4 hV; have zv := hV.size; clear hB4)))
      all_goals
        go_wp2
        exact bodyPost_ret (v := .tuple #[.agg #[.int .i64 (lowN (2 * apV ns ss) (2 * ss.sum * ns.sum)), .int .i64 (lowD (2 * apV ns ss) (2 * ss.sum * ns.sum))], .int .i64 0]) (by simp [results, Try.results45, go_sem, c0, c1]) rfl ⟨by rw [HUN.out.1, HUN.out.2], set6_belI (below_step HW.out hV)⟩
end Go.Proofs.Ytolpbbabmcpdkaa
