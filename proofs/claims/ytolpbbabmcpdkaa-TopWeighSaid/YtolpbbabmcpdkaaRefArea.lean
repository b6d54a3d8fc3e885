/-
  Contracts: Area, Pairs and Apart of the reference; Pairs of invalid odds (weigh).
-/
import Derived.Test.YtolpbbabmcpdkaaRefRow
import Derived.Test.YtolpbbabmcpdkaaPriceW
import Derived.Test.YtolpbbabmcpdkaaPairsW
import Derived.Test.YtolpbbabmcpdkaaNotMore
set_option linter.unusedVariables false
set_option linter.unusedSimpArgs false
namespace Go.Proofs.Ytolpbbabmcpdkaa
open Go.RowKit Go.Shelf

theorem ar_next {ns ss : List Int} {k : Nat} (hk : k < ns.length) {x y : Int} (hp : (prR ns ss)[k]? = some (x, y)) : arK ns ss (k + 1) = arK ns ss k + x * (2 * (cvP ns ss k).2 + y) ∧ (cvP ns ss (k + 1)).2 = (cvP ns ss k).2 + y := by
  have e := ar_step (ns := ns) (ss := ss) (k := k + 1) (by omega)
  rw [Nat.add_sub_cancel] at e
  have e2 := cv_succ hp
  refine ⟨?_, by rw [e2]⟩
  rw [e, e2]
  dsimp only
  rw [show (cvP ns ss k).1 + x - (cvP ns ss k).1 = x by omega, show (cvP ns ss k).2 + ((cvP ns ss k).2 + y) = 2 * (cvP ns ss k).2 + y by omega]
theorem two_ns (x y : Int) : 2 * y * x = 2 * x * y := by rw [Int.mul_assoc, Int.mul_comm y x, ← Int.mul_assoc]

set_option maxRecDepth 100000 in
set_option maxHeartbeats 1000000 in
theorem refArea_no (ns ss : List Int) (A B : Option Addr) (c d : Nat) (w : World) (hA : Ints w A ns) (hB : Ints w B ss) (hl : ns.length ≤ 1000) (hl2 : ss.length ≤ 1000) (hv : odB ns ss = false) :
    Calls Try.prog 41 #[.agg #[.slice A ns.length c, .slice B ss.length d]] w fun e w' => e = .returned (.tuple #[.agg #[.int .i64 0, .int .i64 0], .int .i64 70]) ∧ Below w.heap.size w w' := by
  have HA := Lib.hid hA
  have HB := Lib.hid hB
  have HV := Lib.hid hv
  clear hA hB hv
  obtain ⟨W0, hW0, HW, H0, H1, z0, z1⟩ := two_new w #[.slice A ns.length c, .slice B ss.length d] #[.int .i64 0, .int .i64 0] 24 28
  have HK : Hid (∀ W, Below W0.heap.size W0 W → W.cell? ⟨w.heap.size, 0, none⟩ = some (.slice A ns.length c) ∧ W.cell? ⟨w.heap.size, 1, none⟩ = some (.slice B ss.length d) ∧ W.cell? ⟨w.heap.size + 1, 0, none⟩ = some (.int .i64 0) ∧ W.cell? ⟨w.heap.size + 1, 1, none⟩ = some (.int .i64 0) ∧ W.frozen? ⟨w.heap.size + 1, 0, none⟩ = false ∧ W.frozen? ⟨w.heap.size + 1, 1, none⟩ = false) := Lib.hid fun W hW =>
    have q0 := (hW.block _ z0).trans H0.out
    have q1 := (hW.block _ z1).trans H1.out
    ⟨blk_cell q0 0 rfl, blk_cell q0 1 rfl, blk_cell q1 0 rfl, blk_cell q1 1 rfl, blk_frozen q1 0, blk_frozen q1 1⟩
  go_enter Try.func41, Try.ntmps41
  go_wp2_with (go_at_call 22; with_reducible refine (refValid_any ns ss _ _ _ _ _ (HA.out.below (by repeat (first | with_reducible exact Below.refl _ _ | with_reducible assumption | refine below_drewN ?_ _ | with_reducible refine Below.drew ?_ | (refine Below.setCell ?_ (by first | (simp; done) | (simp; omega) | omega) _) | (refine Below.alloc ?_ (by first | (simp; done) | (simp; omega) | omega) _)))) (HB.out.below (by repeat (first | with_reducible exact Below.refl _ _ | with_reducible assumption | refine below_drewN ?_ _ | with_reducible refine Below.drew ?_ | (refine Below.setCell ?_ (by first | (simp; done) | (simp; omega) | omega) _) | (refine Below.alloc ?_ (by first | (simp; done) | (simp; omega) | omega) _)))) hl hl2).mono ?_; rintro e w1 ⟨rfl, hB1⟩; rw [HV.out]; rw [← hW0] at hB1; have hV : Below W0.heap.size W0 w1 := hB1; clear hB1; obtain ⟨b0, b1, c0, c1, cf0, cf1⟩ := HK.out w1 hV; have zv := hV.size)
  exact bodyPost_ret (v := .tuple #[.agg #[.int .i64 0, .int .i64 0], .int .i64 70]) (by simp [results, Try.results41, go_sem, cell_ao, c0, c1]) rfl ⟨rfl, set6_belI (below_step HW.out hV)⟩

set_option maxRecDepth 100000 in
set_option maxHeartbeats 1000000 in
theorem wPairs_no (ns ss : List Int) (A B : Option Addr) (c d : Nat) (w : World) (hA : Ints w A ns) (hB : Ints w B ss) (hl : ns.length ≤ 1000) (hl2 : ss.length ≤ 1000) (hv : odB ns ss = false) :
    Calls Try.prog 42 #[.agg #[.slice A ns.length c, .slice B ss.length d]] w fun e w' => e = .returned (.tuple #[.agg #[.int .i64 0, .int .i64 0], .int .i64 70]) ∧ Below w.heap.size w w' := by
  have HA := Lib.hid hA
  have HB := Lib.hid hB
  have HV := Lib.hid hv
  clear hA hB hv
  obtain ⟨W0, hW0, HW, H0, H1, z0, z1⟩ := two_new w #[.slice A ns.length c, .slice B ss.length d] #[.int .i64 0, .int .i64 0] 24 28
  go_enter Try.func42, Try.ntmps42
  go_wp2_with (go_at_call 72; with_reducible refine (summed_no ns ss _ _ _ _ _ (HA.out.below (by repeat (first | with_reducible exact Below.refl _ _ | with_reducible assumption | refine below_drewN ?_ _ | with_reducible refine Below.drew ?_ | (refine Below.setCell ?_ (by first | (simp; done) | (simp; omega) | omega) _) | (refine Below.alloc ?_ (by first | (simp; done) | (simp; omega) | omega) _)))) (HB.out.below (by repeat (first | with_reducible exact Below.refl _ _ | with_reducible assumption | refine below_drewN ?_ _ | with_reducible refine Below.drew ?_ | (refine Below.setCell ?_ (by first | (simp; done) | (simp; omega) | omega) _) | (refine Below.alloc ?_ (by first | (simp; done) | (simp; omega) | omega) _)))) hl hl2 HV.out).mono ?_; rintro e w1 ⟨rfl, hB1⟩; rw [← hW0] at hB1; have H0 := Lib.hid ((hB1.block _ z0).trans H0.out); have z0 := Nat.lt_of_lt_of_le z0 hB1.size; have b0 : World.cell? _ ⟨_, 0, none⟩ = some (.slice A ns.length c) := blk_cell H0.out 0 rfl; have b1 : World.cell? _ ⟨_, 1, none⟩ = some (.slice B ss.length d) := blk_cell H0.out 1 rfl; have H1 := Lib.hid ((hB1.block _ z1).trans H1.out); have z1 := Nat.lt_of_lt_of_le z1 hB1.size; have c0 : World.cell? _ ⟨_, 0, none⟩ = some (.int .i64 0) := blk_cell H1.out 0 rfl; have c1 : World.cell? _ ⟨_, 1, none⟩ = some (.int .i64 0) := blk_cell H1.out 1 rfl; have cf0 := blk_frozen H1.out 0; have cf1 := blk_frozen H1.out 1; have HW : Hid (Below w.heap.size w _) := Lib.hid (below_step (by first | exact HW.out | exact Below.drew HW.out | exact below_drewN HW.out _) hB1); clear hB1)
  exact bodyPost_ret (v := .tuple #[.agg #[.int .i64 0, .int .i64 0], .int .i64 70]) (by simp [results, Try.results42, go_sem, cell_ao, z1, c0, c1]) rfl ⟨rfl, (by repeat (first | with_reducible exact HW.out | with_reducible exact Below.refl _ _ | with_reducible refine below_drewN ?_ _ | with_reducible refine Below.drew ?_ | (with_reducible refine Below.setCell ?_ (by first | exact Nat.le_refl _ | exact Nat.le_succ _ | (simp; done) | (simp; omega) | omega) _) | (with_reducible refine Below.alloc ?_ (by first | exact HW.out.size | (simp; done) | (simp; omega) | omega) _)))⟩

set_option maxRecDepth 100000 in
set_option maxHeartbeats 4000000 in
theorem refArea_yes (ns ss : List Int) (A B : Option Addr) (c d : Nat) (w : World) (hA : Ints w A ns) (hB : Ints w B ss) (hv : odB ns ss = true) :
    Calls Try.prog 41 #[.agg #[.slice A ns.length c, .slice B ss.length d]] w fun e w' => e = .returned (.tuple #[.agg #[.int .i64 (arN ns ss), .int .i64 (arD ns ss)], .int .i64 0]) ∧ Below w.heap.size w w' := by
  have ho := od_of hv
  have HO := Lib.hid ho
  obtain ⟨hl, hl2⟩ := ho.l3
  have hn10 := ho.le
  have hlen := Lib.hid ho.len
  have HNB := Lib.hid ho.nb9
  have HSB := Lib.hid ho.sb9
  have n0 := ho.np
  have n1 := ho.nm
  have s0 := ho.sp
  have s1 := ho.sm
  obtain ⟨d0, d1, d2, d3⟩ := ar_bds ho
  have HDE : Hid (2 * ns.sum * ss.sum = 2 * ss.sum * ns.sum) := Lib.hid (two_ns ss.sum ns.sum)
  rw [HDE.out] at d1 d2 d3
  have e1 : IntKind.i64.wrap (2 * ss.sum) = 2 * ss.sum := IntWalk.i64_in _ (by omega)
  have e2 : IntKind.i64.wrap (2 * ss.sum * ns.sum) = 2 * ss.sum * ns.sum := IntWalk.i64_in _ (by omega)
  have HA := Lib.hid hA
  have HB := Lib.hid hB
  have HV := Lib.hid hv
  clear hA hB hv ho
  obtain ⟨W0, hW0, HW, H0, H1, z0, z1⟩ := two_new w #[.slice A ns.length c, .slice B ss.length d] #[.int .i64 0, .int .i64 0] 24 28
  have HK : Hid (∀ W, Below W0.heap.size W0 W → W.cell? ⟨w.heap.size, 0, none⟩ = some (.slice A ns.length c) ∧ W.cell? ⟨w.heap.size, 1, none⟩ = some (.slice B ss.length d) ∧ W.cell? ⟨w.heap.size + 1, 0, none⟩ = some (.int .i64 0) ∧ W.cell? ⟨w.heap.size + 1, 1, none⟩ = some (.int .i64 0) ∧ W.frozen? ⟨w.heap.size + 1, 0, none⟩ = false ∧ W.frozen? ⟨w.heap.size + 1, 1, none⟩ = false) := Lib.hid fun W hW =>
    have q0 := (hW.block _ z0).trans H0.out
    have q1 := (hW.block _ z1).trans H1.out
    ⟨blk_cell q0 0 rfl, blk_cell q0 1 rfl, blk_cell q1 0 rfl, blk_cell q1 1 rfl, blk_frozen q1 0, blk_frozen q1 1⟩
  go_enter Try.func41, Try.ntmps41
  go_wp2_with (first
    | (go_at_call 22; with_reducible refine (refValid_any ns ss _ _ _ _ _ (HA.out.below (by repeat (first | with_reducible exact Below.refl _ _ | with_reducible assumption | refine below_drewN ?_ _ | with_reducible refine Below.drew ?_ | (refine Below.setCell ?_ (by first | (simp; done) | (simp; omega) | omega) _) | (refine Below.alloc ?_ (by first | (simp; done) | (simp; omega) | omega) _)))) (HB.out.below (by repeat (first | with_reducible exact Below.refl _ _ | with_reducible assumption | refine below_drewN ?_ _ | with_reducible refine Below.drew ?_ | (refine Below.setCell ?_ (by first | (simp; done) | (simp; omega) | omega) _) | (refine Below.alloc ?_ (by first | (simp; done) | (simp; omega) | omega) _)))) hl hl2).mono ?_; rintro e w1 ⟨rfl, hB1⟩; rw [HV.out]; rw [← hW0] at hB1; have hV : Below W0.heap.size W0 w1 := hB1; clear hB1; obtain ⟨b0, b1, c0, c1, cf0, cf1⟩ := HK.out w1 hV; have zv := hV.size)
    | (go_at_call 74; with_reducible refine (refRow_own ns ss A B c d HO.out _ (HA.out.below (below_step HW.out hV)) (HB.out.below (below_step HW.out hV))).mono ?_; rintro e w2 ⟨gb, rfl, hR, hB2⟩; have hV2 := below_step hV hB2; clear hV; clear b0 b1 c0 c1 cf0 cf1; have hV := hV2; clear hV2; obtain ⟨b0, b1, c0, c1, cf0, cf1⟩ := HK.out w2 hV; have zv := hV.size; have HR := Lib.hid hR; clear hR hB2)
    | fail)
  clear b0 b1 c0 c1 cf0 cf1 zv
  go_loopw [4, 5, 15] (fun h u i wr => ∃ k : Nat, k ≤ ns.length ∧ i = .int .i64 k ∧ h = .int .i64 (arK ns ss k) ∧ u = .int .i64 (cvP ns ss k).2 ∧ Hid (Below w2.heap.size w2 wr)) (fun _ _ i _ => ns.length - (intOf i).toNat)
  case atStart => exact ⟨0, Nat.zero_le _, rfl, by simp [arK, areaF], by rw [cv_zero], Lib.hid (Below.refl _ _)⟩
  case round =>
    obtain ⟨k, hk, rfl, rfl, rfl, hBi⟩ := hrel
    rename World => wr
    have hVr := below_step hV hBi.out
    by_cases hlt : k < ns.length
    · obtain ⟨a, ha, hra, hpr⟩ := row_get (ns := ns) (ss := ss) hlt
      have hR2 := own_keep HR.out hBi.out
      have r0 := (hR2.cellAt k (by omega)).trans (by rw [List.getElem?_map, hra]; rfl : ((rowL ns ss).map (Value.int .i64))[k]? = some (.int .i64 (a : Int)))
      obtain ⟨ad, bd, x, y, rfl, rfl, cx, cy, _, _, HX, HY, x0, x1, y0, y1⟩ := HO.out.at2 HA.out HB.out (below_step HW.out hVr) ha
      rw [HX.out, HY.out] at hpr
      have HNX := Lib.hid (ar_next hlt hpr)
      have hcb := cv_bd HO.out.pr k hk
      have hab := ar_bd hn10 HO.out.pr k hk
      obtain ⟨H, hH⟩ : ∃ H, arK ns ss k = H := ⟨_, rfl⟩
      obtain ⟨U, hU⟩ : ∃ U, (cvP ns ss k).2 = U := ⟨_, rfl⟩
      rw [hH, hU] at HNX
      rw [hU] at hcb
      rw [hH] at hab
      rw [hH, hU]
      have hls : a < ss.length := by rw [← hlen.out]; exact ha
      obtain ⟨h0, h1⟩ := hab
      have u0 : 0 ≤ U ∧ U ≤ 10000 := by omega
      obtain ⟨u0, u1⟩ := u0
      have m0 : 0 ≤ x * (2 * U + y) ∧ x * (2 * U + y) ≤ 1000 * 30000 := ⟨Int.mul_nonneg x0 (by omega), Int.mul_le_mul x1 (by omega) (by omega) (by omega)⟩
      obtain ⟨m0, m1⟩ := m0
      have q1 : IntKind.i64.wrap (2 * U) = 2 * U := IntWalk.i64_in _ (by omega)
      have q2 : IntKind.i64.wrap (2 * U + y) = 2 * U + y := IntWalk.i64_in _ (by omega)
      have q3 : IntKind.i64.wrap (x * (2 * U + y)) = x * (2 * U + y) := IntWalk.i64_in _ (by omega)
      have q4 : IntKind.i64.wrap (H + x * (2 * U + y)) = H + x * (2 * U + y) := IntWalk.i64_in _ (by omega)
      have q5 : IntKind.i64.wrap (U + y) = U + y := IntWalk.i64_in _ (by omega)
      obtain ⟨b0, b1, c0, c1, cf0, cf1⟩ := HK.out wr hVr
      clear hcb hH hU hR2 hra hpr
      go_wp2
      go_quiet (fail)
      go_wp2
      go_roundw
      case rel => exact ⟨k + 1, by omega, by go_num, by rw [HNX.out.1], by rw [HNX.out.2], Lib.hid (by first | exact hBi.out | exact Below.drew hBi.out | exact below_drewN hBi.out _)⟩
      case measure => simp [intOf]; omega
    · obtain rfl : k = ns.length := by omega
      rw [arK_all (fun a => (getD_bd (by omega) HO.out.nb a).1) (fun a => (getD_bd (by omega) HO.out.sb a).1)]
      obtain ⟨b0, b1, c0, c1, cf0, cf1⟩ := HK.out wr hVr
      clear hV
      have hV := hVr
      clear hVr
      have z01 : w.heap.size ≠ w.heap.size + 1 := by omega
      have HT1 := Lib.hid fun (V : World) (hV' : Below W0.heap.size W0 V) => total_any ss B d V (HB.out.below (below_step HW.out hV')) hl2 HSB.out
      have HT2 := Lib.hid fun (V : World) (hV' : Below W0.heap.size W0 V) => total_any ns A c V (HA.out.below (below_step HW.out hV')) hl HNB.out
      go_upto_region 10 with (fail)
      go_region_held3 (fun W => W.cell? ⟨w.heap.size, 0, none⟩ = some (.slice A ns.length c) ∧ W.cell? ⟨w.heap.size, 1, none⟩ = some (.slice B ss.length d))
        ((first | with_reducible exact ⟨b0, b1⟩ | (refine ⟨?_, ?_⟩ <;> (repeat (first | with_reducible refine (cell_set1 _ z01).trans ?_ | with_reducible refine (cell_drew1 _ _).trans ?_)) <;> first | with_reducible exact b0 | with_reducible exact b1)))
        ((first
          | (go_at_call 58; with_reducible refine (HT1.out _ (by first | with_reducible exact hV | exact (by repeat (first | with_reducible exact Below.refl _ _ | with_reducible assumption | refine below_drewN ?_ _ | with_reducible refine Below.drew ?_ | (refine Below.alloc ?_ (by first | (simp; done) | (simp; omega) | omega) _))))).mono ?_; rintro e wt ⟨rfl, rfl⟩)
          | (go_at_call 58; with_reducible refine (HT2.out _ (by first | with_reducible exact hV | exact (by repeat (first | with_reducible exact Below.refl _ _ | with_reducible assumption | refine below_drewN ?_ _ | with_reducible refine Below.drew ?_ | (refine Below.alloc ?_ (by first | (simp; done) | (simp; omega) | omega) _))))).mono ?_; rintro e wt ⟨rfl, rfl⟩)
          | (go_at_call 59; with_reducible refine (refRatio_any (dSum (prL ns ss)) (2 * ss.sum * ns.sum) _ (by omega) (by omega) (by omega) (by omega)).mono ?_; rintro e wr4 ⟨rfl, hB4⟩; have hV2 : Below W0.heap.size W0 wr4 := below_step (by first | with_reducible exact hV | exact (by repeat (first | with_reducible exact Below.refl _ _ | with_reducible assumption | refine below_drewN ?_ _ | with_reducible refine Below.drew ?_ | (refine Below.alloc ?_ (by first | (simp; done) | (simp; omega) | omega) _)))) hB4; clear hV; clear b0 b1 c0 c1 cf0 cf1; have hV := hV2; clear hV2; obtain ⟨b0, b1, c0, c1, cf0, cf1⟩ := HK.out wr4 hV; have zv := hV.size; clear hB4)))
      all_goals
        go_wp2
        exact bodyPost_ret (v := .tuple #[.agg #[.int .i64 (lowN (dSum (prL ns ss)) (2 * ss.sum * ns.sum)), .int .i64 (lowD (dSum (prL ns ss)) (2 * ss.sum * ns.sum))], .int .i64 0]) (by simp [results, Try.results41, go_sem, c0, c1]) rfl ⟨by rw [arN, arD, HDE.out], set6_belI (below_step HW.out hV)⟩

set_option maxRecDepth 100000 in
set_option maxHeartbeats 1000000 in
theorem refPairs_no (ns ss : List Int) (A B : Option Addr) (c d : Nat) (w : World) (hA : Ints w A ns) (hB : Ints w B ss) (hl : ns.length ≤ 1000) (hl2 : ss.length ≤ 1000) (hv : odB ns ss = false) :
    Calls Try.prog 43 #[.agg #[.slice A ns.length c, .slice B ss.length d]] w fun e w' => e = .returned (.tuple #[.agg #[.int .i64 0, .int .i64 0], .int .i64 70]) ∧ Below w.heap.size w w' := by
  have HA := Lib.hid hA
  have HB := Lib.hid hB
  have HV := Lib.hid hv
  clear hA hB hv
  obtain ⟨W0, hW0, HW, H0, H1, z0, z1⟩ := two_new w #[.slice A ns.length c, .slice B ss.length d] #[.int .i64 0, .int .i64 0] 24 28
  have HK : Hid (∀ W, Below W0.heap.size W0 W → W.cell? ⟨w.heap.size, 0, none⟩ = some (.slice A ns.length c) ∧ W.cell? ⟨w.heap.size, 1, none⟩ = some (.slice B ss.length d) ∧ W.cell? ⟨w.heap.size + 1, 0, none⟩ = some (.int .i64 0) ∧ W.cell? ⟨w.heap.size + 1, 1, none⟩ = some (.int .i64 0) ∧ W.frozen? ⟨w.heap.size + 1, 0, none⟩ = false ∧ W.frozen? ⟨w.heap.size + 1, 1, none⟩ = false) := Lib.hid fun W hW =>
    have q0 := (hW.block _ z0).trans H0.out
    have q1 := (hW.block _ z1).trans H1.out
    ⟨blk_cell q0 0 rfl, blk_cell q0 1 rfl, blk_cell q1 0 rfl, blk_cell q1 1 rfl, blk_frozen q1 0, blk_frozen q1 1⟩
  go_enter Try.func43, Try.ntmps43
  go_wp2_with (go_at_call 22; with_reducible refine (refValid_any ns ss _ _ _ _ _ (HA.out.below (by repeat (first | with_reducible exact Below.refl _ _ | with_reducible assumption | refine below_drewN ?_ _ | with_reducible refine Below.drew ?_ | (refine Below.setCell ?_ (by first | (simp; done) | (simp; omega) | omega) _) | (refine Below.alloc ?_ (by first | (simp; done) | (simp; omega) | omega) _)))) (HB.out.below (by repeat (first | with_reducible exact Below.refl _ _ | with_reducible assumption | refine below_drewN ?_ _ | with_reducible refine Below.drew ?_ | (refine Below.setCell ?_ (by first | (simp; done) | (simp; omega) | omega) _) | (refine Below.alloc ?_ (by first | (simp; done) | (simp; omega) | omega) _)))) hl hl2).mono ?_; rintro e w1 ⟨rfl, hB1⟩; rw [HV.out]; rw [← hW0] at hB1; have hV : Below W0.heap.size W0 w1 := hB1; clear hB1; obtain ⟨b0, b1, c0, c1, cf0, cf1⟩ := HK.out w1 hV; have zv := hV.size)
  exact bodyPost_ret (v := .tuple #[.agg #[.int .i64 0, .int .i64 0], .int .i64 70]) (by simp [results, Try.results43, go_sem, cell_ao, c0, c1]) rfl ⟨rfl, set6_belI (below_step HW.out hV)⟩

set_option maxRecDepth 100000 in
set_option maxHeartbeats 4000000 in
theorem refPairs_yes (ns ss : List Int) (A B : Option Addr) (c d : Nat) (w : World) (hA : Ints w A ns) (hB : Ints w B ss) (hv : odB ns ss = true) :
    Calls Try.prog 43 #[.agg #[.slice A ns.length c, .slice B ss.length d]] w fun e w' => e = .returned (.tuple #[.agg #[.int .i64 (arN ns ss), .int .i64 (arD ns ss)], .int .i64 0]) ∧ Below w.heap.size w w' := by
  have ho := od_of hv
  have HO := Lib.hid ho
  obtain ⟨hl, hl2⟩ := ho.l3
  have hn10 := ho.le
  have hlen := Lib.hid ho.len
  have HNB := Lib.hid ho.nb9
  have HSB := Lib.hid ho.sb9
  have n0 := ho.np
  have n1 := ho.nm
  have s0 := ho.sp
  have s1 := ho.sm
  obtain ⟨d0, d1, d2, d3⟩ := ar_bds ho
  have HDE : Hid (2 * ns.sum * ss.sum = 2 * ss.sum * ns.sum) := Lib.hid (two_ns ss.sum ns.sum)
  rw [HDE.out] at d1 d2 d3
  have e1 : IntKind.i64.wrap (2 * ss.sum) = 2 * ss.sum := IntWalk.i64_in _ (by omega)
  have e2 : IntKind.i64.wrap (2 * ss.sum * ns.sum) = 2 * ss.sum * ns.sum := IntWalk.i64_in _ (by omega)
  have HA := Lib.hid hA
  have HB := Lib.hid hB
  have HV := Lib.hid hv
  clear hA hB hv ho
  obtain ⟨W0, hW0, HW, H0, H1, z0, z1⟩ := two_new w #[.slice A ns.length c, .slice B ss.length d] #[.int .i64 0, .int .i64 0] 24 28
  have HK : Hid (∀ W, Below W0.heap.size W0 W → W.cell? ⟨w.heap.size, 0, none⟩ = some (.slice A ns.length c) ∧ W.cell? ⟨w.heap.size, 1, none⟩ = some (.slice B ss.length d) ∧ W.cell? ⟨w.heap.size + 1, 0, none⟩ = some (.int .i64 0) ∧ W.cell? ⟨w.heap.size + 1, 1, none⟩ = some (.int .i64 0) ∧ W.frozen? ⟨w.heap.size + 1, 0, none⟩ = false ∧ W.frozen? ⟨w.heap.size + 1, 1, none⟩ = false) := Lib.hid fun W hW =>
    have q0 := (hW.block _ z0).trans H0.out
    have q1 := (hW.block _ z1).trans H1.out
    ⟨blk_cell q0 0 rfl, blk_cell q0 1 rfl, blk_cell q1 0 rfl, blk_cell q1 1 rfl, blk_frozen q1 0, blk_frozen q1 1⟩
  go_enter Try.func43, Try.ntmps43
  go_wp2_with (go_at_call 22; with_reducible refine (refValid_any ns ss _ _ _ _ _ (HA.out.below (by repeat (first | with_reducible exact Below.refl _ _ | with_reducible assumption | refine below_drewN ?_ _ | with_reducible refine Below.drew ?_ | (refine Below.setCell ?_ (by first | (simp; done) | (simp; omega) | omega) _) | (refine Below.alloc ?_ (by first | (simp; done) | (simp; omega) | omega) _)))) (HB.out.below (by repeat (first | with_reducible exact Below.refl _ _ | with_reducible assumption | refine below_drewN ?_ _ | with_reducible refine Below.drew ?_ | (refine Below.setCell ?_ (by first | (simp; done) | (simp; omega) | omega) _) | (refine Below.alloc ?_ (by first | (simp; done) | (simp; omega) | omega) _)))) hl hl2).mono ?_; rintro e w1 ⟨rfl, hB1⟩; rw [HV.out]; rw [← hW0] at hB1; have hV : Below W0.heap.size W0 w1 := hB1; clear hB1; obtain ⟨b0, b1, c0, c1, cf0, cf1⟩ := HK.out w1 hV; have zv := hV.size)
  clear b0 b1 c0 c1 cf0 cf1 zv
  go_loopw [4, 16] (fun h i wr => ∃ a : Nat, a ≤ ss.length ∧ i = .int .i64 a ∧ h = .int .i64 (allP ns ss a) ∧ Hid (Below W0.heap.size W0 wr)) (fun _ i _ => ss.length - (intOf i).toNat)
  case atStart => exact ⟨0, Nat.zero_le _, rfl, by simp [allP], Lib.hid hV⟩
  case round =>
    clear hV
    obtain ⟨a, ha, rfl, rfl, hBo⟩ := hrel
    rename World => wo
    by_cases hlt : a < ss.length
    · have han : a < ns.length := by rw [hlen.out]; exact hlt
      obtain ⟨bd, y, rfl, hbB, hyB, cB⟩ := HB.out.get hlt
      have gB : ss.getD a 0 = y := getD_of hyB.out
      have by_ := HO.out.sb y (List.mem_of_getElem? hyB.out)
      obtain ⟨y0, y1⟩ := by_
      have HGB := Lib.hid gB
      have ky := ((below_step HW.out hBo.out).cell (p := bd.add a) (by rw [block_of_add]; exact hbB)).trans cB
      obtain ⟨b0, b1, c0, c1, cf0, cf1⟩ := HK.out wo hBo.out
      have HAS : Hid (allP ns ss (a + 1) = allP ns ss a + rowP ns ss a ns.length) := Lib.hid (allP_succ ns ss a)
      have HPB := allP_bd HO.out a
      obtain ⟨P, hP⟩ : ∃ P, allP ns ss a = P := ⟨_, rfl⟩
      rw [hP] at HAS HPB ⊢
      obtain ⟨p0, p1⟩ := HPB
      clear gB hyB cB hP
      go_wp2
      clear b0 b1 c0 c1 cf0 cf1 ky
      go_loopw [4, 24] (fun h i wr => ∃ k : Nat, k ≤ ns.length ∧ i = .int .i64 k ∧ h = .int .i64 (P + rowP ns ss a k) ∧ Hid (Below W0.heap.size W0 wr)) (fun _ i _ => ns.length - (intOf i).toNat)
      case atStart => exact ⟨0, Nat.zero_le _, rfl, by simp [rowP], hBo⟩
      case round =>
        obtain ⟨k, hk, rfl, rfl, hBi⟩ := hrel
        rename World => wi
        have hV := hBi.out
        obtain ⟨b0, b1, c0, c1, cf0, cf1⟩ := HK.out wi hV
        have hrb := rowP_bd HO.out a k
        by_cases hkt : k < ns.length
        · obtain ⟨ad, x, rfl, hbA, hxA, cA⟩ := HA.out.get hkt
          have gA : ns.getD k 0 = x := getD_of hxA.out
          have bx := HO.out.nb x (List.mem_of_getElem? hxA.out)
          obtain ⟨x0, x1⟩ := bx
          have kx := ((below_step HW.out hV).cell (p := ad.add k) (by rw [block_of_add]; exact hbA)).trans cA
          have HN : Hid (rowP ns ss a (k + 1) = rowP ns ss a k + shN ns ss a k * y * x) := Lib.hid (by rw [rowP_succ, tmV, HGB.out, gA])
          have HXA : Hid (∀ V, Below W0.heap.size W0 V → Calls Try.prog 92 #[.agg #[.slice (some ad) ns.length c, .slice (some bd) ss.length d], .int .i64 a, .int .i64 k] V fun e w' => e = .returned (.bool (gtB ns ss a k)) ∧ Below V.heap.size V w') := Lib.hid fun V hV => ahead_any ns ss _ _ c d HO.out a k han hkt V (HA.out.below (below_step HW.out hV)) (HB.out.below (below_step HW.out hV))
          have HXB : Hid (∀ V, Below W0.heap.size W0 V → Calls Try.prog 92 #[.agg #[.slice (some ad) ns.length c, .slice (some bd) ss.length d], .int .i64 k, .int .i64 a] V fun e w' => e = .returned (.bool (gtB ns ss k a)) ∧ Below V.heap.size V w') := Lib.hid fun V hV => ahead_any ns ss _ _ c d HO.out k a hkt han V (HA.out.below (below_step HW.out hV)) (HB.out.below (below_step HW.out hV))
          have HSH : Hid (shN ns ss a k = if gtB ns ss a k then 2 else if gtB ns ss k a then 0 else 1) := Lib.hid rfl
          obtain ⟨R, hR⟩ : ∃ R, rowP ns ss a k = R := ⟨_, rfl⟩
          rw [hR] at HN hrb ⊢
          obtain ⟨r0, r1⟩ := hrb
          have m0 : 0 ≤ y * x ∧ y * x ≤ 1000 * 1000 := ⟨Int.mul_nonneg y0 x0, Int.mul_le_mul y1 x1 x0 (by omega)⟩
          obtain ⟨m0, m1⟩ := m0
          have m2 : 2 * y * x = 2 * (y * x) := Int.mul_assoc 2 y x
          have q1 : IntKind.i64.wrap (2 * y) = 2 * y := IntWalk.i64_in _ (by omega)
          have q2 : IntKind.i64.wrap (2 * y * x) = 2 * y * x := IntWalk.i64_in _ (by omega)
          have q3 : IntKind.i64.wrap (P + R + 2 * y * x) = P + R + 2 * y * x := IntWalk.i64_in _ (by omega)
          have q4 : IntKind.i64.wrap (y * x) = y * x := IntWalk.i64_in _ (by omega)
          have q5 : IntKind.i64.wrap (P + R + y * x) = P + R + y * x := IntWalk.i64_in _ (by omega)
          have HQ2 : Hid (2 * y * x = 2 * (y * x)) := Lib.hid m2
          generalize shN ns ss a k = sh at HN HSH
          generalize gtB ns ss a k = g1 at HXA HSH
          generalize gtB ns ss k a = g2 at HXB HSH
          clear gA hxA cA hR m2
          cases g1
          case true =>
            have hsh : sh = 2 := HSH.out
            subst hsh
            go_wp2_with (go_at_call 92; with_reducible refine (HXA.out _ hV).mono ?_; rintro e V2 ⟨rfl, hBB⟩; have hV2 := below_step hV hBB; clear hV hBB; have hV := hV2; clear hV2 b0 b1 c0 c1 cf0 cf1; obtain ⟨b0, b1, c0, c1, cf0, cf1⟩ := HK.out _ hV)
            go_roundw
            case rel => exact ⟨k + 1, by omega, by go_num, by rw [HN.out, ← Int.add_assoc], Lib.hid hV⟩
            case measure => simp [intOf]; omega
          case false =>
            cases g2
            case true =>
              have hsh : sh = 0 := HSH.out
              subst hsh
              go_wp2_with (first
                | (go_at_call 92; with_reducible refine (HXA.out _ hV).mono ?_; rintro e V2 ⟨rfl, hBB⟩; have hV2 := below_step hV hBB; clear hV hBB; have hV := hV2; clear hV2 b0 b1 c0 c1 cf0 cf1; obtain ⟨b0, b1, c0, c1, cf0, cf1⟩ := HK.out _ hV)
                | (go_at_call 92; with_reducible refine (HXB.out _ hV).mono ?_; rintro e V3 ⟨rfl, hBB⟩; have hV2 := below_step hV hBB; clear hV hBB; have hV := hV2; clear hV2 b0 b1 c0 c1 cf0 cf1; obtain ⟨b0, b1, c0, c1, cf0, cf1⟩ := HK.out _ hV))
              go_roundw
              case rel => exact ⟨k + 1, by omega, by go_num, by rw [HN.out, Int.zero_mul, Int.zero_mul, Int.add_zero], Lib.hid hV⟩
              case measure => simp [intOf]; omega
            case false =>
              have hsh : sh = 1 := HSH.out
              subst hsh
              go_wp2_with (first
                | (go_at_call 92; with_reducible refine (HXA.out _ hV).mono ?_; rintro e V2 ⟨rfl, hBB⟩; have hV2 := below_step hV hBB; clear hV hBB; have hV := hV2; clear hV2 b0 b1 c0 c1 cf0 cf1; obtain ⟨b0, b1, c0, c1, cf0, cf1⟩ := HK.out _ hV)
                | (go_at_call 92; with_reducible refine (HXB.out _ hV).mono ?_; rintro e V3 ⟨rfl, hBB⟩; have hV2 := below_step hV hBB; clear hV hBB; have hV := hV2; clear hV2 b0 b1 c0 c1 cf0 cf1; obtain ⟨b0, b1, c0, c1, cf0, cf1⟩ := HK.out _ hV))
              go_roundw
              case rel => exact ⟨k + 1, by omega, by go_num, by rw [HN.out, Int.one_mul, ← Int.add_assoc], Lib.hid hV⟩
              case measure => simp [intOf]; omega
        · obtain rfl : k = ns.length := by omega
          go_wp2
          go_roundw
          case rel => exact ⟨a + 1, by omega, by go_num, by rw [HAS.out], hBi⟩
          case measure => simp [intOf]; omega
    · obtain rfl : a = ss.length := by omega
      rw [← hlen.out, allP_all]
      have hV := hBo.out
      obtain ⟨b0, b1, c0, c1, cf0, cf1⟩ := HK.out wo hV
      have z01 : w.heap.size ≠ w.heap.size + 1 := by omega
      have HT1 := Lib.hid fun (V : World) (hV' : Below W0.heap.size W0 V) => total_any ss B d V (HB.out.below (below_step HW.out hV')) hl2 HSB.out
      have HT2 := Lib.hid fun (V : World) (hV' : Below W0.heap.size W0 V) => total_any ns A c V (HA.out.below (below_step HW.out hV')) hl HNB.out
      go_upto_region 16 with (fail)
      go_region_held3 (fun W => W.cell? ⟨w.heap.size, 0, none⟩ = some (.slice A ns.length c) ∧ W.cell? ⟨w.heap.size, 1, none⟩ = some (.slice B ss.length d))
        ((first | with_reducible exact ⟨b0, b1⟩ | (refine ⟨?_, ?_⟩ <;> (repeat (first | with_reducible refine (cell_set1 _ z01).trans ?_ | with_reducible refine (cell_drew1 _ _).trans ?_)) <;> first | with_reducible exact b0 | with_reducible exact b1)))
        ((first
          | (go_at_call 58; with_reducible refine (HT1.out _ (by first | with_reducible exact hV | exact (by repeat (first | with_reducible exact Below.refl _ _ | with_reducible assumption | refine below_drewN ?_ _ | with_reducible refine Below.drew ?_ | (refine Below.alloc ?_ (by first | (simp; done) | (simp; omega) | omega) _))))).mono ?_; rintro e wt ⟨rfl, rfl⟩)
          | (go_at_call 58; with_reducible refine (HT2.out _ (by first | with_reducible exact hV | exact (by repeat (first | with_reducible exact Below.refl _ _ | with_reducible assumption | refine below_drewN ?_ _ | with_reducible refine Below.drew ?_ | (refine Below.alloc ?_ (by first | (simp; done) | (simp; omega) | omega) _))))).mono ?_; rintro e wt ⟨rfl, rfl⟩)
          | (go_at_call 59; with_reducible refine (refRatio_any (dSum (prL ns ss)) (2 * ss.sum * ns.sum) _ (by omega) (by omega) (by omega) (by omega)).mono ?_; rintro e wr4 ⟨rfl, hB4⟩; have hV2 : Below W0.heap.size W0 wr4 := below_step (by first | with_reducible exact hV | exact (by repeat (first | with_reducible exact Below.refl _ _ | with_reducible assumption | refine below_drewN ?_ _ | with_reducible refine Below.drew ?_ | (refine Below.alloc ?_ (by first | (simp; done) | (simp; omega) | omega) _)))) hB4; clear hV; clear b0 b1 c0 c1 cf0 cf1; have hV := hV2; clear hV2; obtain ⟨b0, b1, c0, c1, cf0, cf1⟩ := HK.out wr4 hV; have zv := hV.size; clear hB4)))
      all_goals
        go_wp2
        exact bodyPost_ret (v := .tuple #[.agg #[.int .i64 (lowN (dSum (prL ns ss)) (2 * ss.sum * ns.sum)), .int .i64 (lowD (dSum (prL ns ss)) (2 * ss.sum * ns.sum))], .int .i64 0]) (by simp [results, Try.results43, go_sem, c0, c1]) rfl ⟨by rw [arN, arD, HDE.out], set6_belI (below_step HW.out hV)⟩
end Go.Proofs.Ytolpbbabmcpdkaa
