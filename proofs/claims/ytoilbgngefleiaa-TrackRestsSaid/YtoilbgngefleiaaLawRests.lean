/-
  The walk of TrackRests: it returns true, whatever it is given.
-/
import Derived.Test.YtoilbgngefleiaaBoxes
import Derived.Test.YtoilbgngefleiaaOnT
import Derived.Test.YtoilbgngefleiaaRefOn
import Derived.Test.YtoilbgngefleiaaRefRests
import Derived.Test.YtoilbgngefleiaaRefCost
import Derived.Test.YtoilbgngefleiaaSameI
import Derived.Test.YtoilbgngefleiaaAwake
import Derived.Deep.CutRange
namespace Go.Proofs.Ytoilbgngefleiaa
open Go.RowKit Go.Shelf

set_option maxRecDepth 100000 in
set_option maxHeartbeats 16000000 in
theorem trackRests_walk (ms : List (Int × Int)) (A : Option Addr) (cap : Nat) (a b d : Int) (w : World) (hA : Marks w A ms) (hc : ms.length ≤ cap) (hc0 : cap ≤ maxLen) (_ : (Lit.int .i64 a).wf = true) (_ : (Lit.int .i64 b).wf = true) (_ : (Lit.int .i64 d).wf = true) :
    Calls Try.prog 3 #[.slice A ms.length cap, .agg #[.int .i64 a, .int .i64 b, .int .i64 d]] w fun e w' => e = .returned (.bool true) ∧ Below w.heap.size w w' := by
  have H : Hid (Clk w A cap ms) := Lib.hid ⟨hA, hc, hc0⟩
  obtain ⟨k, hk⟩ : ∃ k, ckE ms a b d = k := ⟨_, rfl⟩
  obtain ⟨rs, hrs⟩ : ∃ k, rstV ms a b d = k := ⟨_, rfl⟩
  obtain ⟨os, hos⟩ : ∃ k, onV ms a b d = k := ⟨_, rfl⟩
  obtain ⟨⟨cn, cd⟩, hcc⟩ : ∃ k, cosRV ms a b d = k := ⟨_, rfl⟩
  obtain ⟨⟨wn, wd⟩, hww⟩ : ∃ k, widRV ms a b d = k := ⟨_, rfl⟩
  obtain ⟨v, hv⟩ : ∃ k, viP ms = k := ⟨_, rfl⟩
  obtain ⟨l, hl⟩ : ∃ k, lnB a b d = k := ⟨_, rfl⟩
  have HR1 : Hid (∀ W, Below w.heap.size w W → Calls Try.prog 17 #[.slice A ms.length cap, .agg #[.int .i64 a, .int .i64 b, .int .i64 d]] W fun e w' => ∃ A' c', e = .returned (.tuple #[.slice A' rs.length c', .int .i64 k]) ∧ Clk w' A' c' rs ∧ Below W.heap.size W w') := Lib.hid fun W hW => by
    refine (restsTold_any ms A cap a b d W (H.out.below hW)).mono ?_
    rintro e w' ⟨A', c', ys, rfl, h1, h2, h3⟩
    obtain rfl : ys = rs := h3.out.trans hrs
    exact ⟨A', c', by rw [hk], h1, h2⟩
  have HR2 : Hid (∀ W, Below w.heap.size w W → Calls Try.prog 18 #[.slice A ms.length cap, .agg #[.int .i64 a, .int .i64 b, .int .i64 d]] W fun e w' => ∃ A' c', e = .returned (.tuple #[.slice A' rs.length c', .int .i64 k]) ∧ Clk w' A' c' rs ∧ Below W.heap.size W w') := Lib.hid fun W hW => by
    refine (refRests_any ms A cap a b d W (H.out.below hW)).mono ?_
    rintro e w' ⟨A', c', ys, rfl, h1, h2, h3⟩
    obtain rfl : ys = rs := h3.out.trans hrs
    exact ⟨A', c', by rw [hk], h1, h2⟩
  have HO1 : Hid (∀ W, Below w.heap.size w W → Calls Try.prog 28 #[.slice A ms.length cap, .agg #[.int .i64 a, .int .i64 b, .int .i64 d]] W fun e w' => ∃ A' c', e = .returned (.tuple #[.slice A' os.length c', .int .i64 k]) ∧ Out w' A' c' os ∧ Below W.heap.size W w') := Lib.hid fun W hW => by
    refine (onTold_any ms A cap a b d W (H.out.below hW)).mono ?_
    rintro e w' ⟨A', c', ys, rfl, h1, h2, h3⟩
    obtain rfl : ys = os := h3.out.trans hos
    exact ⟨A', c', by rw [hk], h1, h2⟩
  have HO2 : Hid (∀ W, Below w.heap.size w W → Calls Try.prog 29 #[.slice A ms.length cap, .agg #[.int .i64 a, .int .i64 b, .int .i64 d]] W fun e w' => ∃ A' c', e = .returned (.tuple #[.slice A' os.length c', .int .i64 k]) ∧ Out w' A' c' os ∧ Below W.heap.size W w') := Lib.hid fun W hW => by
    refine (refOn_any ms A cap a b d W (H.out.below hW)).mono ?_
    rintro e w' ⟨A', c', ys, rfl, h1, h2, h3⟩
    obtain rfl : ys = os := h3.out.trans hos
    exact ⟨A', c', by rw [hk], h1, h2⟩
  have HC1 : Hid (∀ W, Below w.heap.size w W → Calls Try.prog 24 #[.slice A ms.length cap, .agg #[.int .i64 a, .int .i64 b, .int .i64 d]] W fun e w' => e = .returned (.tuple #[.agg #[.int .i64 cn, .int .i64 cd], .int .i64 k]) ∧ Below W.heap.size W w') := Lib.hid fun W hW => by
    refine (cosRTold_any ms A cap a b d W (H.out.below hW)).mono ?_
    rintro e w' ⟨rfl, h2⟩
    rw [hcc, hk]
    exact ⟨rfl, h2⟩
  have HC2 : Hid (∀ W, Below w.heap.size w W → Calls Try.prog 25 #[.slice A ms.length cap, .agg #[.int .i64 a, .int .i64 b, .int .i64 d]] W fun e w' => e = .returned (.tuple #[.agg #[.int .i64 cn, .int .i64 cd], .int .i64 k]) ∧ Below W.heap.size W w') := Lib.hid fun W hW => by
    refine (refCost_any ms A cap a b d W (H.out.below hW)).mono ?_
    rintro e w' ⟨rfl, h2⟩
    rw [hcc, hk]
    exact ⟨rfl, h2⟩
  have HW1 : Hid (∀ W, Below w.heap.size w W → Calls Try.prog 26 #[.slice A ms.length cap, .agg #[.int .i64 a, .int .i64 b, .int .i64 d]] W fun e w' => e = .returned (.tuple #[.agg #[.int .i64 wn, .int .i64 wd], .int .i64 k]) ∧ Below W.heap.size W w') := Lib.hid fun W hW => by
    refine (widRTold_any ms A cap a b d W (H.out.below hW)).mono ?_
    rintro e w' ⟨rfl, h2⟩
    rw [hww, hk]
    exact ⟨rfl, h2⟩
  have HW2 : Hid (∀ W, Below w.heap.size w W → Calls Try.prog 27 #[.slice A ms.length cap, .agg #[.int .i64 a, .int .i64 b, .int .i64 d]] W fun e w' => e = .returned (.tuple #[.agg #[.int .i64 wn, .int .i64 wd], .int .i64 k]) ∧ Below W.heap.size W w') := Lib.hid fun W hW => by
    refine (refWidth_any ms A cap a b d W (H.out.below hW)).mono ?_
    rintro e w' ⟨rfl, h2⟩
    rw [hww, hk]
    exact ⟨rfl, h2⟩
  have HV1 : Hid (∀ W, Below w.heap.size w W → Calls Try.prog 19 #[.slice A ms.length cap] W fun e w' => e = .returned (.bool v) ∧ Below W.heap.size W w') := Lib.hid fun W hW => by
    refine (valid_any ms A cap W (H.out.below hW).marks H.out.len).mono ?_
    rintro e w' ⟨rfl, h2⟩
    exact ⟨by rw [hv], h2⟩
  have HV2 : Hid (∀ W, Below w.heap.size w W → Calls Try.prog 20 #[.slice A ms.length cap] W fun e w' => e = .returned (.bool v) ∧ Below W.heap.size W w') := Lib.hid fun W hW => by
    refine (refValid_any ms A cap W (H.out.below hW).marks H.out.len).mono ?_
    rintro e w' ⟨rfl, h2⟩
    exact ⟨by rw [hv], h2⟩
  have HL1 : Hid (∀ W, Below w.heap.size w W → Calls Try.prog 21 #[.agg #[.int .i64 a, .int .i64 b, .int .i64 d]] W fun e w' => e = .returned (.bool l) ∧ Below W.heap.size W w') := Lib.hid fun W hW => by
    refine (validLine_any a b d W).mono ?_
    rintro e w' ⟨rfl, h2⟩
    exact ⟨by rw [hl], h2⟩
  have HL2 : Hid (∀ W, Below w.heap.size w W → Calls Try.prog 22 #[.agg #[.int .i64 a, .int .i64 b, .int .i64 d]] W fun e w' => e = .returned (.bool l) ∧ Below W.heap.size W w') := Lib.hid fun W hW => by
    refine (refValidLine_any a b d W).mono ?_
    rintro e w' ⟨rfl, h2⟩
    exact ⟨by rw [hl], h2⟩
  have HRL : Hid (rs.length ≤ maxLen) := Lib.hid (by rw [← hrs]; unfold rstV; split <;> first | (rw [List.length_map]; exact H.out.len) | simp)
  have HOL : Hid (os.length ≤ maxLen) := Lib.hid (by rw [← hos]; unfold onV; split <;> first | exact Nat.le_trans (zeroL_len _ _) H.out.len | simp)
  clear hk hrs hos hcc hww hv hl hA hc hc0
  obtain ⟨W0, hW0, HW, HX⟩ : ∃ W0, W0 = w.alloc (.cells #[.int .i64 a, .int .i64 b, .int .i64 d] 24) ∧ Hid (Below w.heap.size w W0) ∧ Hid (Lt W0 w.heap.size (.int .i64 a) (.int .i64 b) (.int .i64 d)) :=
    ⟨_, rfl, Lib.hid ((Below.refl _ _).alloc (Nat.le_refl _) _), Lib.hid (Lt.new _ _ _ _)⟩
  have x0 := HX.out.c0
  have x1 := HX.out.c1
  have x2 := HX.out.c2
  cases hm : decide (60 < ms.length) with
  | true =>
    have HLo : Hid (∀ W : World, Calls Try.prog 15 #[.slice A ms.length cap] W fun e w' => e = .returned (.bool true) ∧ W = w') := Lib.hid fun W => (lawLong_any ms A cap W).mono fun _ _ h => ⟨by rw [h.1, hm], h.2⟩
    clear hm
    go_enter Try.func3, Try.ntmps3
    go_upto_region 1 with (fail)
    rw [← hW0]
    clear hW0
    go_wp2_with (first
      | (go_at_call 15; with_reducible refine (HLo.out _).mono ?_; rintro e w' ⟨rfl, rfl⟩)
      | (go_at_call 16; refine (awake_any _).mono ?_; rintro e wz ⟨rfl, hBz⟩; have HW : Hid (Below w.heap.size w _) := Lib.hid (below_step HW.out hBz); clear hBz)
      | fail)
    go_ret
    exact ⟨rfl, HW.out⟩
  | false =>
    have HLo : Hid (∀ W : World, Calls Try.prog 15 #[.slice A ms.length cap] W fun e w' => e = .returned (.bool false) ∧ W = w') := Lib.hid fun W => (lawLong_any ms A cap W).mono fun _ _ h => ⟨by rw [h.1, hm], h.2⟩
    clear hm
    go_enter Try.func3, Try.ntmps3
    go_upto_region 1 with (fail)
    rw [← hW0]
    clear hW0
    go_upto_region 3 with (go_at_call 15; with_reducible refine (HLo.out _).mono ?_; rintro e w' ⟨rfl, rfl⟩)
    go_upto_region 4 with (go_at_call 17; with_reducible refine (HR1.out _ HW.out).mono ?_; rintro e v1 ⟨A1, c1, rfl, ho, hB1⟩; have HX := Lib.hid (Lt.below HX.out hB1); have x0 := HX.out.c0; have x1 := HX.out.c1; have x2 := HX.out.c2; have HW : Hid (Below w.heap.size w _) := Lib.hid (below_step HW.out hB1); have HQ1 := Lib.hid ho; clear ho; clear hB1)
    go_upto_region 5 with (go_at_call 18; with_reducible refine (HR2.out _ HW.out).mono ?_; rintro e v2 ⟨A2, c2, rfl, ho, hB2⟩; have HX := Lib.hid (Lt.below HX.out hB2); have x0 := HX.out.c0; have x1 := HX.out.c1; have x2 := HX.out.c2; have HQ1 := Lib.hid (Clk.below HQ1.out hB2); have HW : Hid (Below w.heap.size w _) := Lib.hid (below_step HW.out hB2); have HQ2 := Lib.hid ho; clear ho; clear hB2)
    have y0 : ∀ g : Gw v2, g.v.cell? ⟨w.heap.size, 0, none⟩ = some (.int .i64 a) := fun g => (HX.out.below g.h).c0
    have y1 : ∀ g : Gw v2, g.v.cell? ⟨w.heap.size, 1, none⟩ = some (.int .i64 b) := fun g => (HX.out.below g.h).c1
    have y2 : ∀ g : Gw v2, g.v.cell? ⟨w.heap.size, 2, none⟩ = some (.int .i64 d) := fun g => (HX.out.below g.h).c2
    go_wp2
    refine wp_region_grow (by kernel_rfl) (by kernel_rfl) ?_
    repeat (go_big_quiet_step ((first
      | (go_at_call 19; with_reducible exact Calls.grow_of (HV1.out _ (below_step HW.out (Gw.h _))))
      | (go_at_call 20; with_reducible exact Calls.grow_of (HV2.out _ (below_step HW.out (Gw.h _))))
      | (go_at_call 21; with_reducible exact Calls.grow_of (HL1.out _ (below_step HW.out (Gw.h _))))
      | (go_at_call 22; with_reducible exact Calls.grow_of (HL2.out _ (below_step HW.out (Gw.h _))))
      | (go_at_call 23; with_reducible exact Calls.grow_of (sameRatios_same rs A1 A2 c1 c2 _ (HQ1.out.below (Gw.h _)).marks (HQ2.out.below (Gw.h _)).marks HRL.out))
      | fail)))
    refine wpQuiet_nil ?_
    rintro _ ⟨gq, rfl⟩
    have hX : Below v2.heap.size v2 gq.v := gq.h
    generalize gq.v = v3 at hX ⊢
    have HX := Lib.hid (Lt.below HX.out hX)
    have HQ1 := Lib.hid (Clk.below HQ1.out hX)
    have HQ2 := Lib.hid (Clk.below HQ2.out hX)
    have HW : Hid (Below w.heap.size w _) := Lib.hid (below_step HW.out hX)
    clear hX y0 y1 y2
    have x0 := HX.out.c0
    have x1 := HX.out.c1
    have x2 := HX.out.c2
    clear HQ1 HQ2
    go_upto_region 7 with (fail)
    go_upto_region 8 with (go_at_call 24; with_reducible refine (HC1.out _ HW.out).mono ?_; rintro e v4 ⟨rfl, hB4⟩; have HX := Lib.hid (Lt.below HX.out hB4); have x0 := HX.out.c0; have x1 := HX.out.c1; have x2 := HX.out.c2; have HW : Hid (Below w.heap.size w _) := Lib.hid (below_step HW.out hB4); clear hB4)
    have qxga : w.heap.size < v4.heap.size := HX.out.lt
    have qHWga : w.heap.size ≤ v4.heap.size := HW.out.size
    obtain ⟨X4, hX4, HW, HG, HX⟩ : ∃ X, (v4.alloc (.cells #[.int .i64 cn, .int .i64 cd] 34)) = X ∧ Hid (Below w.heap.size w X) ∧ Hid (Rt X v4.heap.size (.int .i64 cn) (.int .i64 cd)) ∧ Hid (Lt X w.heap.size (.int .i64 a) (.int .i64 b) (.int .i64 d)) :=
      ⟨_, rfl, Lib.hid (Below.alloc HW.out HW.out.size _), Lib.hid (Rt.new _ _ _), Lib.hid (HX.out.alloc _)⟩
    rw [hX4]
    clear hX4
    obtain ⟨ga, hga⟩ : ∃ g, v4.heap.size = g := ⟨_, rfl⟩
    rw [hga] at HG qxga qHWga
    try rw [hga]
    clear hga
    have x0 := HX.out.c0
    have x1 := HX.out.c1
    have x2 := HX.out.c2
    have y0 := HG.out.c0
    have y1 := HG.out.c1
    go_upto_region 9 with (go_at_call 25; with_reducible refine (HC2.out _ HW.out).mono ?_; rintro e v5 ⟨rfl, hB5⟩; have HX := Lib.hid (Lt.below HX.out hB5); have x0 := HX.out.c0; have x1 := HX.out.c1; have x2 := HX.out.c2; have HG := Lib.hid (Rt.below HG.out hB5); have y0 := HG.out.c0; have y1 := HG.out.c1; have HW : Hid (Below w.heap.size w _) := Lib.hid (below_step HW.out hB5); clear hB5)
    have qxgb : w.heap.size < v5.heap.size := HX.out.lt
    have qygb : ga < v5.heap.size := HG.out.lt
    have qHWgb : w.heap.size ≤ v5.heap.size := HW.out.size
    obtain ⟨X5, hX5, HW, HK, HX, HG⟩ : ∃ X, (v5.alloc (.cells #[.int .i64 cn, .int .i64 cd] 34)) = X ∧ Hid (Below w.heap.size w X) ∧ Hid (Rt X v5.heap.size (.int .i64 cn) (.int .i64 cd)) ∧ Hid (Lt X w.heap.size (.int .i64 a) (.int .i64 b) (.int .i64 d)) ∧ Hid (Rt X ga (.int .i64 cn) (.int .i64 cd)) :=
      ⟨_, rfl, Lib.hid (Below.alloc HW.out HW.out.size _), Lib.hid (Rt.new _ _ _), Lib.hid (HX.out.alloc _), Lib.hid (HG.out.alloc _)⟩
    rw [hX5]
    clear hX5
    obtain ⟨gb, hgb⟩ : ∃ g, v5.heap.size = g := ⟨_, rfl⟩
    rw [hgb] at HK qxgb qygb qHWgb
    try rw [hgb]
    clear hgb
    have x0 := HX.out.c0
    have x1 := HX.out.c1
    have x2 := HX.out.c2
    have y0 := HG.out.c0
    have y1 := HG.out.c1
    have z0 := HK.out.c0
    have z1 := HK.out.c1
    go_upto_region 11 with (fail)
    have x0 := HX.out.c0
    have x1 := HX.out.c1
    have x2 := HX.out.c2
    have y0 := HG.out.c0
    have y1 := HG.out.c1
    have yf0 := HG.out.f 0
    have yf1 := HG.out.f 1
    have z0 := HK.out.c0
    have z1 := HK.out.c1
    have zf0 := HK.out.f 0
    have zf1 := HK.out.f 1
    go_upto_region 12 with (go_at_call 26; with_reducible refine (HW1.out _ HW.out).mono ?_; rintro e v6 ⟨rfl, hB6⟩; have HX := Lib.hid (Lt.below HX.out hB6); have x0 := HX.out.c0; have x1 := HX.out.c1; have x2 := HX.out.c2; have HG := Lib.hid (Rt.below HG.out hB6); have y0 := HG.out.c0; have y1 := HG.out.c1; have yf0 := HG.out.f 0; have yf1 := HG.out.f 1; have HK := Lib.hid (Rt.below HK.out hB6); have z0 := HK.out.c0; have z1 := HK.out.c1; have zf0 := HK.out.f 0; have zf1 := HK.out.f 1; have HW : Hid (Below w.heap.size w _) := Lib.hid (below_step HW.out hB6); clear hB6)
    obtain ⟨X6, hX6, HW, HX, HG, HK⟩ : ∃ X, ((v6.setCell ⟨ga, 0, none⟩ (.int .i64 wn)).setCell ⟨ga, 1, none⟩ (.int .i64 wd)) = X ∧ Hid (Below w.heap.size w X) ∧ Hid (Lt X w.heap.size (.int .i64 a) (.int .i64 b) (.int .i64 d)) ∧ Hid (Rt X ga (.int .i64 wn) (.int .i64 wd)) ∧ Hid (Rt X gb (.int .i64 cn) (.int .i64 cd)) :=
      ⟨_, rfl, Lib.hid (st2_below HW.out (by omega)), Lib.hid (HX.out.other2 (by omega)), Lib.hid (HG.out.set), Lib.hid (HK.out.other2 (by omega))⟩
    rw [hX6]
    clear hX6
    have x0 := HX.out.c0
    have x1 := HX.out.c1
    have x2 := HX.out.c2
    have y0 := HG.out.c0
    have y1 := HG.out.c1
    have yf0 := HG.out.f 0
    have yf1 := HG.out.f 1
    have z0 := HK.out.c0
    have z1 := HK.out.c1
    have zf0 := HK.out.f 0
    have zf1 := HK.out.f 1
    go_upto_region 13 with (go_at_call 27; with_reducible refine (HW2.out _ HW.out).mono ?_; rintro e v7 ⟨rfl, hB7⟩; have HX := Lib.hid (Lt.below HX.out hB7); have x0 := HX.out.c0; have x1 := HX.out.c1; have x2 := HX.out.c2; have HG := Lib.hid (Rt.below HG.out hB7); have y0 := HG.out.c0; have y1 := HG.out.c1; have yf0 := HG.out.f 0; have yf1 := HG.out.f 1; have HK := Lib.hid (Rt.below HK.out hB7); have z0 := HK.out.c0; have z1 := HK.out.c1; have zf0 := HK.out.f 0; have zf1 := HK.out.f 1; have HW : Hid (Below w.heap.size w _) := Lib.hid (below_step HW.out hB7); clear hB7)
    obtain ⟨X7, hX7, HW, HX, HG, HK⟩ : ∃ X, ((v7.setCell ⟨gb, 0, none⟩ (.int .i64 wn)).setCell ⟨gb, 1, none⟩ (.int .i64 wd)) = X ∧ Hid (Below w.heap.size w X) ∧ Hid (Lt X w.heap.size (.int .i64 a) (.int .i64 b) (.int .i64 d)) ∧ Hid (Rt X ga (.int .i64 wn) (.int .i64 wd)) ∧ Hid (Rt X gb (.int .i64 wn) (.int .i64 wd)) :=
      ⟨_, rfl, Lib.hid (st2_below HW.out (by omega)), Lib.hid (HX.out.other2 (by omega)), Lib.hid (HG.out.other2 (by omega)), Lib.hid (HK.out.set)⟩
    rw [hX7]
    clear hX7
    have x0 := HX.out.c0
    have x1 := HX.out.c1
    have x2 := HX.out.c2
    have y0 := HG.out.c0
    have y1 := HG.out.c1
    have yf0 := HG.out.f 0
    have yf1 := HG.out.f 1
    have z0 := HK.out.c0
    have z1 := HK.out.c1
    have zf0 := HK.out.f 0
    have zf1 := HK.out.f 1
    go_upto_region 14 with (go_at_call 28; with_reducible refine (HO1.out _ HW.out).mono ?_; rintro e v8 ⟨A8, c8, rfl, ho, hB8⟩; have HX := Lib.hid (Lt.below HX.out hB8); have x0 := HX.out.c0; have x1 := HX.out.c1; have x2 := HX.out.c2; have HG := Lib.hid (Rt.below HG.out hB8); have y0 := HG.out.c0; have y1 := HG.out.c1; have yf0 := HG.out.f 0; have yf1 := HG.out.f 1; have HK := Lib.hid (Rt.below HK.out hB8); have z0 := HK.out.c0; have z1 := HK.out.c1; have zf0 := HK.out.f 0; have zf1 := HK.out.f 1; have HW : Hid (Below w.heap.size w _) := Lib.hid (below_step HW.out hB8); have HQ8 := Lib.hid ho; clear ho; clear hB8)
    go_upto_region 15 with (go_at_call 29; with_reducible refine (HO2.out _ HW.out).mono ?_; rintro e v9 ⟨A9, c9, rfl, ho, hB9⟩; have HX := Lib.hid (Lt.below HX.out hB9); have x0 := HX.out.c0; have x1 := HX.out.c1; have x2 := HX.out.c2; have HG := Lib.hid (Rt.below HG.out hB9); have y0 := HG.out.c0; have y1 := HG.out.c1; have yf0 := HG.out.f 0; have yf1 := HG.out.f 1; have HK := Lib.hid (Rt.below HK.out hB9); have z0 := HK.out.c0; have z1 := HK.out.c1; have zf0 := HK.out.f 0; have zf1 := HK.out.f 1; have HQ8 := Lib.hid (Out.below HQ8.out hB9); have HW : Hid (Below w.heap.size w _) := Lib.hid (below_step HW.out hB9); have HQ9 := Lib.hid ho; clear ho; clear hB9)
    go_wp2_with (first
      | (go_at_call 30; with_reducible refine (sameInts_same os A8 A9 c8 c9 _ HQ8.out.ints HQ9.out.ints HOL.out).mono ?_; rintro e v10 ⟨rfl, hB10⟩; have HX := Lib.hid (Lt.below HX.out hB10); have x0 := HX.out.c0; have x1 := HX.out.c1; have x2 := HX.out.c2; have HG := Lib.hid (Rt.below HG.out hB10); have y0 := HG.out.c0; have y1 := HG.out.c1; have yf0 := HG.out.f 0; have yf1 := HG.out.f 1; have HK := Lib.hid (Rt.below HK.out hB10); have z0 := HK.out.c0; have z1 := HK.out.c1; have zf0 := HK.out.f 0; have zf1 := HK.out.f 1; have HQ8 := Lib.hid (Out.below HQ8.out hB10); have HQ9 := Lib.hid (Out.below HQ9.out hB10); have HW : Hid (Below w.heap.size w _) := Lib.hid (below_step HW.out hB10); clear hB10)
      | (go_at_call 16; refine (awake_any _).mono ?_; rintro e wz ⟨rfl, hBz⟩; have HW : Hid (Below w.heap.size w _) := Lib.hid (below_step HW.out hBz); clear hBz)
      | fail)
    go_ret
    exact ⟨rfl, HW.out⟩
end Go.Proofs.Ytoilbgngefleiaa
