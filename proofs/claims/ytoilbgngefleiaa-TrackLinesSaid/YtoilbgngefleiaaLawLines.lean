/-
  The walk of TrackLines: it returns true, whatever it is given.
-/
import Derived.Test.YtoilbgngefleiaaRefNar2
import Derived.Test.YtoilbgngefleiaaRefLeast
import Derived.Test.YtoilbgngefleiaaNarS
import Derived.Test.YtoilbgngefleiaaRefCost
import Derived.Test.YtoilbgngefleiaaSameI
import Derived.Deep.CutRange
namespace Go.Proofs.Ytoilbgngefleiaa
open Go.RowKit Go.Shelf
set_option linter.unusedVariables false
set_option linter.unusedSimpArgs false

set_option maxRecDepth 100000 in
set_option maxHeartbeats 8000000 in
theorem linesL_long (ms : List (Int × Int)) (A : Option Addr) (cap : Nat) (w : World) (hLo : ∀ W : World, Calls Try.prog 15 #[.slice A ms.length cap] W fun e w' => e = .returned (.bool true) ∧ W = w') :
    Calls Try.prog 5 #[.slice A ms.length cap] w fun e w' => e = .returned (.bool true) ∧ Below w.heap.size w w' := by
  have HLo := Lib.hid hLo
  clear hLo
  have HW : Hid (Below w.heap.size w w) := Lib.hid (Below.refl _ _)
  go_enter Try.func5, Try.ntmps5
  go_wp2_with (first
    | (go_at_call 15; with_reducible refine (HLo.out _).mono ?_; rintro e w' ⟨rfl, rfl⟩)
    | (go_at_call 16; refine (awake_any _).mono ?_; rintro e wz ⟨rfl, hBz⟩; have HW : Hid (Below w.heap.size w _) := Lib.hid (below_step HW.out hBz); clear hBz)
    | fail)
  go_ret
  exact ⟨rfl, HW.out⟩

set_option maxRecDepth 100000 in
set_option maxHeartbeats 8000000 in
theorem linesL_yes (ms : List (Int × Int)) (A : Option Addr) (cap : Nat) (w : World) (la lb ld xa xb xd cn cm vn vm : Int)
    (hLo : ∀ W : World, Calls Try.prog 15 #[.slice A ms.length cap] W fun e w' => e = .returned (.bool false) ∧ W = w')
    (h1 : ∀ W, Below w.heap.size w W → Calls Try.prog 37 #[.slice A ms.length cap] W fun e w' => e = .returned (.tuple #[.agg #[.int .i64 la, .int .i64 lb, .int .i64 ld], .int .i64 0]) ∧ Below W.heap.size W w')
    (h2 : ∀ W, Below w.heap.size w W → Calls Try.prog 38 #[.slice A ms.length cap] W fun e w' => e = .returned (.tuple #[.agg #[.int .i64 xa, .int .i64 xb, .int .i64 xd], .int .i64 0]) ∧ Below W.heap.size W w')
    (h3 : ∀ W, Below w.heap.size w W → Calls Try.prog 20 #[.slice A ms.length cap] W fun e w' => e = .returned (.bool true) ∧ Below W.heap.size W w')
    (h4 : ∀ W, Below w.heap.size w W → Calls Try.prog 32 #[.slice A ms.length cap] W fun e w' => e = .returned (.tuple #[.agg #[.int .i64 cn, .int .i64 cm], .int .i64 0]) ∧ Below W.heap.size W w')
    (h5 : ∀ W, Below w.heap.size w W → Calls Try.prog 34 #[.slice A ms.length cap] W fun e w' => e = .returned (.tuple #[.agg #[.int .i64 vn, .int .i64 vm], .int .i64 0]) ∧ Below W.heap.size W w')
    (h6 : ∀ W, Below w.heap.size w W → Calls Try.prog 25 #[.slice A ms.length cap, .agg #[.int .i64 la, .int .i64 lb, .int .i64 ld]] W fun e w' => e = .returned (.tuple #[.agg #[.int .i64 cn, .int .i64 cm], .int .i64 0]) ∧ Below W.heap.size W w')
    (h7 : ∀ W, Below w.heap.size w W → Calls Try.prog 27 #[.slice A ms.length cap, .agg #[.int .i64 xa, .int .i64 xb, .int .i64 xd]] W fun e w' => e = .returned (.tuple #[.agg #[.int .i64 vn, .int .i64 vm], .int .i64 0]) ∧ Below W.heap.size W w') :
    Calls Try.prog 5 #[.slice A ms.length cap] w fun e w' => e = .returned (.bool true) ∧ Below w.heap.size w w' := by
  have HLo := Lib.hid hLo
  have H1 := Lib.hid h1
  have H2 := Lib.hid h2
  have H3 := Lib.hid h3
  have H4 := Lib.hid h4
  have H5 := Lib.hid h5
  have H6 := Lib.hid h6
  have H7 := Lib.hid h7
  clear hLo h1 h2 h3 h4 h5 h6 h7
  have HW : Hid (Below w.heap.size w w) := Lib.hid (Below.refl _ _)
  go_enter Try.func5, Try.ntmps5
  go_upto_region 3 with (go_at_call 15; with_reducible refine (HLo.out _).mono ?_; rintro e w' ⟨rfl, rfl⟩)
  go_upto_region 4 with (go_at_call 37; with_reducible refine (H1.out _ HW.out).mono ?_; rintro e v1 ⟨rfl, hB1⟩; have HW : Hid (Below w.heap.size w _) := Lib.hid (below_step HW.out hB1); clear hB1)
  have qHWga : w.heap.size ≤ v1.heap.size := HW.out.size
  obtain ⟨X1, hX1, HW, HX⟩ : ∃ X, (v1.alloc (.cells #[.int .i64 la, .int .i64 lb, .int .i64 ld] 24)) = X ∧ Hid (Below w.heap.size w X) ∧ Hid (Lt X v1.heap.size (.int .i64 la) (.int .i64 lb) (.int .i64 ld)) :=
    ⟨_, rfl, Lib.hid (Below.alloc HW.out HW.out.size _), Lib.hid (Lt.new _ _ _ _)⟩
  rw [hX1]
  clear hX1
  obtain ⟨ga, hga⟩ : ∃ g, v1.heap.size = g := ⟨_, rfl⟩
  rw [hga] at HX qHWga
  try rw [hga]
  clear hga
  have x0 := HX.out.c0
  have x1 := HX.out.c1
  have x2 := HX.out.c2
  go_upto_region 5 with (go_at_call 38; with_reducible refine (H2.out _ HW.out).mono ?_; rintro e v2 ⟨rfl, hB2⟩; have HX := Lib.hid (Lt.below HX.out hB2); have x0 := HX.out.c0; have x1 := HX.out.c1; have x2 := HX.out.c2; have HW : Hid (Below w.heap.size w _) := Lib.hid (below_step HW.out hB2); clear hB2)
  have qxgb : ga < v2.heap.size := HX.out.lt
  have qHWgb : w.heap.size ≤ v2.heap.size := HW.out.size
  obtain ⟨X2, hX2, HW, HY, HX⟩ : ∃ X, (v2.alloc (.cells #[.int .i64 xa, .int .i64 xb, .int .i64 xd] 24)) = X ∧ Hid (Below w.heap.size w X) ∧ Hid (Lt X v2.heap.size (.int .i64 xa) (.int .i64 xb) (.int .i64 xd)) ∧ Hid (Lt X ga (.int .i64 la) (.int .i64 lb) (.int .i64 ld)) :=
    ⟨_, rfl, Lib.hid (Below.alloc HW.out HW.out.size _), Lib.hid (Lt.new _ _ _ _), Lib.hid (HX.out.alloc _)⟩
  rw [hX2]
  clear hX2
  obtain ⟨gb, hgb⟩ : ∃ g, v2.heap.size = g := ⟨_, rfl⟩
  rw [hgb] at HY qxgb qHWgb
  try rw [hgb]
  clear hgb
  have x0 := HX.out.c0
  have x1 := HX.out.c1
  have x2 := HX.out.c2
  have y0 := HY.out.c0
  have y1 := HY.out.c1
  have y2 := HY.out.c2
  go_upto_region 7 with (go_at_call 20; with_reducible refine (H3.out _ HW.out).mono ?_; rintro e v3 ⟨rfl, hB3⟩; have HX := Lib.hid (Lt.below HX.out hB3); have x0 := HX.out.c0; have x1 := HX.out.c1; have x2 := HX.out.c2; have HY := Lib.hid (Lt.below HY.out hB3); have y0 := HY.out.c0; have y1 := HY.out.c1; have y2 := HY.out.c2; have HW : Hid (Below w.heap.size w _) := Lib.hid (below_step HW.out hB3); clear hB3)
  go_upto_region 8 with (go_at_call 32; with_reducible refine (H4.out _ HW.out).mono ?_; rintro e v4 ⟨rfl, hB4⟩; have HX := Lib.hid (Lt.below HX.out hB4); have x0 := HX.out.c0; have x1 := HX.out.c1; have x2 := HX.out.c2; have HY := Lib.hid (Lt.below HY.out hB4); have y0 := HY.out.c0; have y1 := HY.out.c1; have y2 := HY.out.c2; have HW : Hid (Below w.heap.size w _) := Lib.hid (below_step HW.out hB4); clear hB4)
  have qxgc : ga < v4.heap.size := HX.out.lt
  have qygc : gb < v4.heap.size := HY.out.lt
  have qHWgc : w.heap.size ≤ v4.heap.size := HW.out.size
  obtain ⟨X4, hX4, HW, HG, HX, HY⟩ : ∃ X, (v4.alloc (.cells #[.int .i64 cn, .int .i64 cm] 34)) = X ∧ Hid (Below w.heap.size w X) ∧ Hid (Rt X v4.heap.size (.int .i64 cn) (.int .i64 cm)) ∧ Hid (Lt X ga (.int .i64 la) (.int .i64 lb) (.int .i64 ld)) ∧ Hid (Lt X gb (.int .i64 xa) (.int .i64 xb) (.int .i64 xd)) :=
    ⟨_, rfl, Lib.hid (Below.alloc HW.out HW.out.size _), Lib.hid (Rt.new _ _ _), Lib.hid (HX.out.alloc _), Lib.hid (HY.out.alloc _)⟩
  rw [hX4]
  clear hX4
  obtain ⟨gc, hgc⟩ : ∃ g, v4.heap.size = g := ⟨_, rfl⟩
  rw [hgc] at HG qxgc qygc qHWgc
  try rw [hgc]
  clear hgc
  have x0 := HX.out.c0
  have x1 := HX.out.c1
  have x2 := HX.out.c2
  have y0 := HY.out.c0
  have y1 := HY.out.c1
  have y2 := HY.out.c2
  have g0 := HG.out.c0
  have g1 := HG.out.c1
  go_upto_region 9 with (go_at_call 34; with_reducible refine (H5.out _ HW.out).mono ?_; rintro e v5 ⟨rfl, hB5⟩; have HX := Lib.hid (Lt.below HX.out hB5); have x0 := HX.out.c0; have x1 := HX.out.c1; have x2 := HX.out.c2; have HY := Lib.hid (Lt.below HY.out hB5); have y0 := HY.out.c0; have y1 := HY.out.c1; have y2 := HY.out.c2; have HG := Lib.hid (Rt.below HG.out hB5); have g0 := HG.out.c0; have g1 := HG.out.c1; have HW : Hid (Below w.heap.size w _) := Lib.hid (below_step HW.out hB5); clear hB5)
  have qxgd : ga < v5.heap.size := HX.out.lt
  have qygd : gb < v5.heap.size := HY.out.lt
  have qggd : gc < v5.heap.size := HG.out.lt
  have qHWgd : w.heap.size ≤ v5.heap.size := HW.out.size
  obtain ⟨X5, hX5, HW, HK, HX, HY, HG⟩ : ∃ X, (v5.alloc (.cells #[.int .i64 vn, .int .i64 vm] 34)) = X ∧ Hid (Below w.heap.size w X) ∧ Hid (Rt X v5.heap.size (.int .i64 vn) (.int .i64 vm)) ∧ Hid (Lt X ga (.int .i64 la) (.int .i64 lb) (.int .i64 ld)) ∧ Hid (Lt X gb (.int .i64 xa) (.int .i64 xb) (.int .i64 xd)) ∧ Hid (Rt X gc (.int .i64 cn) (.int .i64 cm)) :=
    ⟨_, rfl, Lib.hid (Below.alloc HW.out HW.out.size _), Lib.hid (Rt.new _ _ _), Lib.hid (HX.out.alloc _), Lib.hid (HY.out.alloc _), Lib.hid (HG.out.alloc _)⟩
  rw [hX5]
  clear hX5
  obtain ⟨gd, hgd⟩ : ∃ g, v5.heap.size = g := ⟨_, rfl⟩
  rw [hgd] at HK qxgd qygd qggd qHWgd
  try rw [hgd]
  clear hgd
  have x0 := HX.out.c0
  have x1 := HX.out.c1
  have x2 := HX.out.c2
  have y0 := HY.out.c0
  have y1 := HY.out.c1
  have y2 := HY.out.c2
  have g0 := HG.out.c0
  have g1 := HG.out.c1
  have k0 := HK.out.c0
  have k1 := HK.out.c1
  go_upto_region 10 with (go_at_call 25; with_reducible refine (H6.out _ HW.out).mono ?_; rintro e v6 ⟨rfl, hB6⟩; have HX := Lib.hid (Lt.below HX.out hB6); have x0 := HX.out.c0; have x1 := HX.out.c1; have x2 := HX.out.c2; have HY := Lib.hid (Lt.below HY.out hB6); have y0 := HY.out.c0; have y1 := HY.out.c1; have y2 := HY.out.c2; have HG := Lib.hid (Rt.below HG.out hB6); have g0 := HG.out.c0; have g1 := HG.out.c1; have HK := Lib.hid (Rt.below HK.out hB6); have k0 := HK.out.c0; have k1 := HK.out.c1; have HW : Hid (Below w.heap.size w _) := Lib.hid (below_step HW.out hB6); clear hB6)
  have qxge : ga < v6.heap.size := HX.out.lt
  have qyge : gb < v6.heap.size := HY.out.lt
  have qgge : gc < v6.heap.size := HG.out.lt
  have qkge : gd < v6.heap.size := HK.out.lt
  have qHWge : w.heap.size ≤ v6.heap.size := HW.out.size
  obtain ⟨X6, hX6, HW, HM, HX, HY, HG, HK⟩ : ∃ X, (v6.alloc (.cells #[.int .i64 cn, .int .i64 cm] 34)) = X ∧ Hid (Below w.heap.size w X) ∧ Hid (Rt X v6.heap.size (.int .i64 cn) (.int .i64 cm)) ∧ Hid (Lt X ga (.int .i64 la) (.int .i64 lb) (.int .i64 ld)) ∧ Hid (Lt X gb (.int .i64 xa) (.int .i64 xb) (.int .i64 xd)) ∧ Hid (Rt X gc (.int .i64 cn) (.int .i64 cm)) ∧ Hid (Rt X gd (.int .i64 vn) (.int .i64 vm)) :=
    ⟨_, rfl, Lib.hid (Below.alloc HW.out HW.out.size _), Lib.hid (Rt.new _ _ _), Lib.hid (HX.out.alloc _), Lib.hid (HY.out.alloc _), Lib.hid (HG.out.alloc _), Lib.hid (HK.out.alloc _)⟩
  rw [hX6]
  clear hX6
  obtain ⟨ge, hge⟩ : ∃ g, v6.heap.size = g := ⟨_, rfl⟩
  rw [hge] at HM qxge qyge qgge qkge qHWge
  try rw [hge]
  clear hge
  have x0 := HX.out.c0
  have x1 := HX.out.c1
  have x2 := HX.out.c2
  have y0 := HY.out.c0
  have y1 := HY.out.c1
  have y2 := HY.out.c2
  have g0 := HG.out.c0
  have g1 := HG.out.c1
  have k0 := HK.out.c0
  have k1 := HK.out.c1
  have m0 := HM.out.c0
  have m1 := HM.out.c1
  go_upto_region 11 with (go_at_call 27; with_reducible refine (H7.out _ HW.out).mono ?_; rintro e v7 ⟨rfl, hB7⟩; have HX := Lib.hid (Lt.below HX.out hB7); have x0 := HX.out.c0; have x1 := HX.out.c1; have x2 := HX.out.c2; have HY := Lib.hid (Lt.below HY.out hB7); have y0 := HY.out.c0; have y1 := HY.out.c1; have y2 := HY.out.c2; have HG := Lib.hid (Rt.below HG.out hB7); have g0 := HG.out.c0; have g1 := HG.out.c1; have HK := Lib.hid (Rt.below HK.out hB7); have k0 := HK.out.c0; have k1 := HK.out.c1; have HM := Lib.hid (Rt.below HM.out hB7); have m0 := HM.out.c0; have m1 := HM.out.c1; have HW : Hid (Below w.heap.size w _) := Lib.hid (below_step HW.out hB7); clear hB7)
  have qxgf : ga < v7.heap.size := HX.out.lt
  have qygf : gb < v7.heap.size := HY.out.lt
  have qggf : gc < v7.heap.size := HG.out.lt
  have qkgf : gd < v7.heap.size := HK.out.lt
  have qmgf : ge < v7.heap.size := HM.out.lt
  have qHWgf : w.heap.size ≤ v7.heap.size := HW.out.size
  obtain ⟨X7, hX7, HW, HN, HX, HY, HG, HK, HM⟩ : ∃ X, (v7.alloc (.cells #[.int .i64 vn, .int .i64 vm] 34)) = X ∧ Hid (Below w.heap.size w X) ∧ Hid (Rt X v7.heap.size (.int .i64 vn) (.int .i64 vm)) ∧ Hid (Lt X ga (.int .i64 la) (.int .i64 lb) (.int .i64 ld)) ∧ Hid (Lt X gb (.int .i64 xa) (.int .i64 xb) (.int .i64 xd)) ∧ Hid (Rt X gc (.int .i64 cn) (.int .i64 cm)) ∧ Hid (Rt X gd (.int .i64 vn) (.int .i64 vm)) ∧ Hid (Rt X ge (.int .i64 cn) (.int .i64 cm)) :=
    ⟨_, rfl, Lib.hid (Below.alloc HW.out HW.out.size _), Lib.hid (Rt.new _ _ _), Lib.hid (HX.out.alloc _), Lib.hid (HY.out.alloc _), Lib.hid (HG.out.alloc _), Lib.hid (HK.out.alloc _), Lib.hid (HM.out.alloc _)⟩
  rw [hX7]
  clear hX7
  obtain ⟨gf, hgf⟩ : ∃ g, v7.heap.size = g := ⟨_, rfl⟩
  rw [hgf] at HN qxgf qygf qggf qkgf qmgf qHWgf
  try rw [hgf]
  clear hgf
  have x0 := HX.out.c0
  have x1 := HX.out.c1
  have x2 := HX.out.c2
  have y0 := HY.out.c0
  have y1 := HY.out.c1
  have y2 := HY.out.c2
  have g0 := HG.out.c0
  have g1 := HG.out.c1
  have k0 := HK.out.c0
  have k1 := HK.out.c1
  have m0 := HM.out.c0
  have m1 := HM.out.c1
  have n0 := HN.out.c0
  have n1 := HN.out.c1
  go_wp2_with (first
    | (go_at_call 16; refine (awake_any _).mono ?_; rintro e wz ⟨rfl, hBz⟩; have HW : Hid (Below w.heap.size w _) := Lib.hid (below_step HW.out hBz); clear hBz)
    | fail)
  go_ret
  exact ⟨rfl, HW.out⟩

set_option maxRecDepth 100000 in
set_option maxHeartbeats 8000000 in
theorem linesL_no (ms : List (Int × Int)) (A : Option Addr) (cap : Nat) (w : World)
    (hLo : ∀ W : World, Calls Try.prog 15 #[.slice A ms.length cap] W fun e w' => e = .returned (.bool false) ∧ W = w')
    (h1 : ∀ W, Below w.heap.size w W → Calls Try.prog 37 #[.slice A ms.length cap] W fun e w' => e = .returned (.tuple #[.agg #[.int .i64 0, .int .i64 0, .int .i64 0], .int .i64 50]) ∧ Below W.heap.size W w')
    (h2 : ∀ W, Below w.heap.size w W → Calls Try.prog 38 #[.slice A ms.length cap] W fun e w' => e = .returned (.tuple #[.agg #[.int .i64 0, .int .i64 0, .int .i64 0], .int .i64 50]) ∧ Below W.heap.size W w')
    (h3 : ∀ W, Below w.heap.size w W → Calls Try.prog 20 #[.slice A ms.length cap] W fun e w' => e = .returned (.bool false) ∧ Below W.heap.size W w') :
    Calls Try.prog 5 #[.slice A ms.length cap] w fun e w' => e = .returned (.bool true) ∧ Below w.heap.size w w' := by
  have HLo := Lib.hid hLo
  have H1 := Lib.hid h1
  have H2 := Lib.hid h2
  have H3 := Lib.hid h3
  clear hLo h1 h2 h3
  have HW : Hid (Below w.heap.size w w) := Lib.hid (Below.refl _ _)
  go_enter Try.func5, Try.ntmps5
  go_upto_region 3 with (go_at_call 15; with_reducible refine (HLo.out _).mono ?_; rintro e w' ⟨rfl, rfl⟩)
  go_upto_region 4 with (go_at_call 37; with_reducible refine (H1.out _ HW.out).mono ?_; rintro e v1 ⟨rfl, hB1⟩; have HW : Hid (Below w.heap.size w _) := Lib.hid (below_step HW.out hB1); clear hB1)
  have qHWga : w.heap.size ≤ v1.heap.size := HW.out.size
  obtain ⟨X1, hX1, HW, HX⟩ : ∃ X, (v1.alloc (.cells #[.int .i64 0, .int .i64 0, .int .i64 0] 24)) = X ∧ Hid (Below w.heap.size w X) ∧ Hid (Lt X v1.heap.size (.int .i64 0) (.int .i64 0) (.int .i64 0)) :=
    ⟨_, rfl, Lib.hid (Below.alloc HW.out HW.out.size _), Lib.hid (Lt.new _ _ _ _)⟩
  rw [hX1]
  clear hX1
  obtain ⟨ga, hga⟩ : ∃ g, v1.heap.size = g := ⟨_, rfl⟩
  rw [hga] at HX qHWga
  try rw [hga]
  clear hga
  have x0 := HX.out.c0
  have x1 := HX.out.c1
  have x2 := HX.out.c2
  go_upto_region 5 with (go_at_call 38; with_reducible refine (H2.out _ HW.out).mono ?_; rintro e v2 ⟨rfl, hB2⟩; have HX := Lib.hid (Lt.below HX.out hB2); have x0 := HX.out.c0; have x1 := HX.out.c1; have x2 := HX.out.c2; have HW : Hid (Below w.heap.size w _) := Lib.hid (below_step HW.out hB2); clear hB2)
  have qxgb : ga < v2.heap.size := HX.out.lt
  have qHWgb : w.heap.size ≤ v2.heap.size := HW.out.size
  obtain ⟨X2, hX2, HW, HY, HX⟩ : ∃ X, (v2.alloc (.cells #[.int .i64 0, .int .i64 0, .int .i64 0] 24)) = X ∧ Hid (Below w.heap.size w X) ∧ Hid (Lt X v2.heap.size (.int .i64 0) (.int .i64 0) (.int .i64 0)) ∧ Hid (Lt X ga (.int .i64 0) (.int .i64 0) (.int .i64 0)) :=
    ⟨_, rfl, Lib.hid (Below.alloc HW.out HW.out.size _), Lib.hid (Lt.new _ _ _ _), Lib.hid (HX.out.alloc _)⟩
  rw [hX2]
  clear hX2
  obtain ⟨gb, hgb⟩ : ∃ g, v2.heap.size = g := ⟨_, rfl⟩
  rw [hgb] at HY qxgb qHWgb
  try rw [hgb]
  clear hgb
  have x0 := HX.out.c0
  have x1 := HX.out.c1
  have x2 := HX.out.c2
  have y0 := HY.out.c0
  have y1 := HY.out.c1
  have y2 := HY.out.c2
  go_wp2_with (first
    | (go_at_call 20; with_reducible refine (H3.out _ HW.out).mono ?_; rintro e v3 ⟨rfl, hB3⟩; have HX := Lib.hid (Lt.below HX.out hB3); have x0 := HX.out.c0; have x1 := HX.out.c1; have x2 := HX.out.c2; have HY := Lib.hid (Lt.below HY.out hB3); have y0 := HY.out.c0; have y1 := HY.out.c1; have y2 := HY.out.c2; have HW : Hid (Below w.heap.size w _) := Lib.hid (below_step HW.out hB3); clear hB3)
    | (go_at_call 16; refine (awake_any _).mono ?_; rintro e wz ⟨rfl, hBz⟩; have HW : Hid (Below w.heap.size w _) := Lib.hid (below_step HW.out hBz); clear hBz)
    | fail)
  go_ret
  exact ⟨rfl, HW.out⟩

theorem trackLines_walk (ms : List (Int × Int)) (A : Option Addr) (cap : Nat) (w : World) (hA : Marks w A ms) (hc : ms.length ≤ cap) (hc0 : cap ≤ maxLen) :
    Calls Try.prog 5 #[.slice A ms.length cap] w fun e w' => e = .returned (.bool true) ∧ Below w.heap.size w w' := by
  have H : Clk w A cap ms := ⟨hA, hc, hc0⟩
  have hlo := fun W => lawLong_any ms A cap W
  cases hm : decide (60 < ms.length) with
  | true => exact linesL_long ms A cap w (fun W => by have := hlo W; rwa [hm] at this)
  | false =>
    have hlo' : ∀ W : World, Calls Try.prog 15 #[.slice A ms.length cap] W fun e w' => e = .returned (.bool false) ∧ W = w' := fun W => by have := hlo W; rwa [hm] at this
    cases hv : viP ms with
    | false =>
      have hve : viE ms = 50 := by rw [viE, hv]; rfl
      exact linesL_no ms A cap w hlo'
        (fun W hW => by have := line_any ms A cap W (H.below hW); rw [hve, hv] at this; exact this)
        (fun W hW => by have := axis_any ms A cap W (H.below hW); rw [hve, hv] at this; exact this)
        (fun W hW => by have := refValid_any ms A cap W (H.below hW).marks H.len; rwa [hv] at this)
    | true =>
      have hve : viE ms = 0 := by rw [viE, hv]; rfl
      obtain ⟨k1, k2⟩ := che_cos hv
      obtain ⟨k3, k4⟩ := nar_wid hv
      exact linesL_yes ms A cap w (cheL ms).1 (cheL ms).2.1 (cheL ms).2.2 (narL ms).1 (narL ms).2.1 (narL ms).2.2 (cosT ms (cheL ms)).1 (cosT ms (cheL ms)).2 (nrV ms).1 (nrV ms).2 hlo'
        (fun W hW => by have := line_any ms A cap W (H.below hW); rw [hve, hv] at this; exact this)
        (fun W hW => by have := axis_any ms A cap W (H.below hW); rw [hve, hv] at this; exact this)
        (fun W hW => by have := refValid_any ms A cap W (H.below hW).marks H.len; rwa [hv] at this)
        (fun W hW => refLeast_yes ms A cap W (H.below hW) hv)
        (fun W hW => refNarrowest_yes ms A cap W (H.below hW) hv)
        (fun W hW => by have := refCost_any ms A cap (cheL ms).1 (cheL ms).2.1 (cheL ms).2.2 W (H.below hW); rw [k1, k2] at this; exact this)
        (fun W hW => by have := refWidth_any ms A cap (narL ms).1 (narL ms).2.1 (narL ms).2.2 W (H.below hW); rw [k3, k4] at this; exact this)
end Go.Proofs.Ytoilbgngefleiaa
