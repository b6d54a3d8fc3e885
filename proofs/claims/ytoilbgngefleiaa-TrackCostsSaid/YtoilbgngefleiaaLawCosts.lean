/-
  The walk of TrackCosts: it returns true, whatever it is given.
-/
import Derived.Test.YtoilbgngefleiaaLeastM
import Derived.Test.YtoilbgngefleiaaCostT
import Derived.Test.YtoilbgngefleiaaPrv
import Derived.Test.YtoilbgngefleiaaSameI
import Derived.Deep.CutRange
namespace Go.Proofs.Ytoilbgngefleiaa
open Go.RowKit Go.Shelf
set_option linter.unusedVariables false
set_option linter.unusedSimpArgs false

set_option maxRecDepth 100000 in
set_option maxHeartbeats 4000000 in
theorem costs_long (ms : List (Int × Int)) (A : Option Addr) (cap : Nat) (a b d : Int) (vs : List Int) (B : Option Addr) (cb : Nat) (m n q : Int) (w : World) (hLo : ∀ W : World, Calls Try.prog 15 #[.slice A ms.length cap] W fun e w' => e = .returned (.bool true) ∧ W = w')  :
    Calls Try.prog 9 #[.slice A ms.length cap, .agg #[.int .i64 a, .int .i64 b, .int .i64 d], .slice B vs.length cb, .int .i64 m, .agg #[.int .i64 n, .int .i64 q]] w fun e w' => e = .returned (.bool true) ∧ Below w.heap.size w w' := by
  have HLo := Lib.hid hLo
  clear hLo
  obtain ⟨W0, hW0, HW, HX, HY⟩ : ∃ W0, W0 = (w.alloc (.cells #[.int .i64 a, .int .i64 b, .int .i64 d] 24)).alloc (.cells #[.int .i64 n, .int .i64 q] 34) ∧ Hid (Below w.heap.size w W0) ∧ Hid (Lt W0 w.heap.size (.int .i64 a) (.int .i64 b) (.int .i64 d)) ∧ Hid (Rt W0 (w.heap.size + 1) (.int .i64 n) (.int .i64 q)) :=
    ⟨_, rfl, Lib.hid (((Below.refl _ _).alloc (Nat.le_refl _) _).alloc (by simp) _), Lib.hid ((Lt.new _ _ _ _).alloc _), Lib.hid (by have := Rt.new (w.alloc (.cells #[.int .i64 a, .int .i64 b, .int .i64 d] 24)) (.int .i64 n) (.int .i64 q); simpa using this)⟩
  have x0 := HX.out.c0
  have x1 := HX.out.c1
  have x2 := HX.out.c2
  have y0 := HY.out.c0
  have y1 := HY.out.c1
  go_enter Try.func9, Try.ntmps9
  go_upto_region 1 with (fail)
  rw [← hW0]
  clear hW0
  go_wp2_with (first
    | (go_at_call 15; with_reducible refine (HLo.out _).mono ?_; rintro e w' ⟨rfl, rfl⟩)
    | (go_at_call 16; refine (awake_any _).mono ?_; rintro e wz ⟨rfl, hBz⟩; have HW : Hid (Below w.heap.size w _) := Lib.hid (below_step HW.out hBz); clear hBz)
    | fail)
  go_ret
  exact ⟨rfl, HW.out⟩

set_option maxRecDepth 100000 in
set_option maxHeartbeats 4000000 in
theorem costs_wide (ms : List (Int × Int)) (A : Option Addr) (cap : Nat) (a b d : Int) (vs : List Int) (B : Option Addr) (cb : Nat) (m n q : Int) (w : World) (hLo : ∀ W : World, Calls Try.prog 15 #[.slice A ms.length cap] W fun e w' => e = .returned (.bool false) ∧ W = w') (hw : decide (60 < (vs.length : Int)) = true) :
    Calls Try.prog 9 #[.slice A ms.length cap, .agg #[.int .i64 a, .int .i64 b, .int .i64 d], .slice B vs.length cb, .int .i64 m, .agg #[.int .i64 n, .int .i64 q]] w fun e w' => e = .returned (.bool true) ∧ Below w.heap.size w w' := by
  have HLo := Lib.hid hLo
  clear hLo
  have t1 := hw
  obtain ⟨W0, hW0, HW, HX, HY⟩ : ∃ W0, W0 = (w.alloc (.cells #[.int .i64 a, .int .i64 b, .int .i64 d] 24)).alloc (.cells #[.int .i64 n, .int .i64 q] 34) ∧ Hid (Below w.heap.size w W0) ∧ Hid (Lt W0 w.heap.size (.int .i64 a) (.int .i64 b) (.int .i64 d)) ∧ Hid (Rt W0 (w.heap.size + 1) (.int .i64 n) (.int .i64 q)) :=
    ⟨_, rfl, Lib.hid (((Below.refl _ _).alloc (Nat.le_refl _) _).alloc (by simp) _), Lib.hid ((Lt.new _ _ _ _).alloc _), Lib.hid (by have := Rt.new (w.alloc (.cells #[.int .i64 a, .int .i64 b, .int .i64 d] 24)) (.int .i64 n) (.int .i64 q); simpa using this)⟩
  have x0 := HX.out.c0
  have x1 := HX.out.c1
  have x2 := HX.out.c2
  have y0 := HY.out.c0
  have y1 := HY.out.c1
  go_enter Try.func9, Try.ntmps9
  go_upto_region 1 with (fail)
  rw [← hW0]
  clear hW0
  go_wp2_with (first
    | (go_at_call 15; with_reducible refine (HLo.out _).mono ?_; rintro e w' ⟨rfl, rfl⟩)
    | (go_at_call 16; refine (awake_any _).mono ?_; rintro e wz ⟨rfl, hBz⟩; have HW : Hid (Below w.heap.size w _) := Lib.hid (below_step HW.out hBz); clear hBz)
    | fail)
  go_ret
  exact ⟨rfl, HW.out⟩

set_option maxRecDepth 100000 in
set_option maxHeartbeats 4000000 in
theorem costs_inv (ms : List (Int × Int)) (A : Option Addr) (cap : Nat) (a b d : Int) (vs : List Int) (B : Option Addr) (cb : Nat) (m n q : Int) (w : World) (hLo : ∀ W : World, Calls Try.prog 15 #[.slice A ms.length cap] W fun e w' => e = .returned (.bool false) ∧ W = w') (hw : decide (60 < (vs.length : Int)) = false) (hV : ∀ W, Below w.heap.size w W → Calls Try.prog 20 #[.slice A ms.length cap] W fun e w' => e = .returned (.bool false) ∧ Below W.heap.size W w') :
    Calls Try.prog 9 #[.slice A ms.length cap, .agg #[.int .i64 a, .int .i64 b, .int .i64 d], .slice B vs.length cb, .int .i64 m, .agg #[.int .i64 n, .int .i64 q]] w fun e w' => e = .returned (.bool true) ∧ Below w.heap.size w w' := by
  have HLo := Lib.hid hLo
  clear hLo
  have t1 := hw
  have HV := Lib.hid hV
  clear hV
  obtain ⟨W0, hW0, HW, HX, HY⟩ : ∃ W0, W0 = (w.alloc (.cells #[.int .i64 a, .int .i64 b, .int .i64 d] 24)).alloc (.cells #[.int .i64 n, .int .i64 q] 34) ∧ Hid (Below w.heap.size w W0) ∧ Hid (Lt W0 w.heap.size (.int .i64 a) (.int .i64 b) (.int .i64 d)) ∧ Hid (Rt W0 (w.heap.size + 1) (.int .i64 n) (.int .i64 q)) :=
    ⟨_, rfl, Lib.hid (((Below.refl _ _).alloc (Nat.le_refl _) _).alloc (by simp) _), Lib.hid ((Lt.new _ _ _ _).alloc _), Lib.hid (by have := Rt.new (w.alloc (.cells #[.int .i64 a, .int .i64 b, .int .i64 d] 24)) (.int .i64 n) (.int .i64 q); simpa using this)⟩
  have x0 := HX.out.c0
  have x1 := HX.out.c1
  have x2 := HX.out.c2
  have y0 := HY.out.c0
  have y1 := HY.out.c1
  go_enter Try.func9, Try.ntmps9
  go_upto_region 1 with (fail)
  rw [← hW0]
  clear hW0
  go_wp2_with (first
    | (go_at_call 15; with_reducible refine (HLo.out _).mono ?_; rintro e w' ⟨rfl, rfl⟩)
    | (go_at_call 20; with_reducible refine (HV.out _ HW.out).mono ?_; rintro e v1 ⟨rfl, hB1⟩; have HX := Lib.hid (Lt.below HX.out hB1); have x0 := HX.out.c0; have x1 := HX.out.c1; have x2 := HX.out.c2; have HY := Lib.hid (Rt.below HY.out hB1); have y0 := HY.out.c0; have y1 := HY.out.c1; have HW : Hid (Below w.heap.size w _) := Lib.hid (below_step HW.out hB1); clear hB1)
    | (go_at_call 16; refine (awake_any _).mono ?_; rintro e wz ⟨rfl, hBz⟩; have HW : Hid (Below w.heap.size w _) := Lib.hid (below_step HW.out hBz); clear hBz)
    | fail)
  go_ret
  exact ⟨rfl, HW.out⟩

set_option maxRecDepth 100000 in
set_option maxHeartbeats 16000000 in
theorem costs_ok1 (ms : List (Int × Int)) (A : Option Addr) (cap : Nat) (a b d : Int) (vs : List Int) (B : Option Addr) (cb : Nat) (m n q : Int) (w : World) (ln lm la lb ld on om pe : Int)
    (hLo : ∀ W : World, Calls Try.prog 15 #[.slice A ms.length cap] W fun e w' => e = .returned (.bool false) ∧ W = w')
    (hw : decide (60 < (vs.length : Int)) = false)
    (hV : ∀ W, Below w.heap.size w W → Calls Try.prog 20 #[.slice A ms.length cap] W fun e w' => e = .returned (.bool true) ∧ Below W.heap.size W w')
    (hL1 : ∀ W, Below w.heap.size w W → Calls Try.prog 31 #[.slice A ms.length cap] W fun e w' => e = .returned (.tuple #[.agg #[.int .i64 ln, .int .i64 lm], .int .i64 0]) ∧ Below W.heap.size W w')
    (hL2 : ∀ W, Below w.heap.size w W → Calls Try.prog 37 #[.slice A ms.length cap] W fun e w' => e = .returned (.tuple #[.agg #[.int .i64 la, .int .i64 lb, .int .i64 ld], .int .i64 0]) ∧ Below W.heap.size W w')
    (hL3 : ∀ W, Below w.heap.size w W → Calls Try.prog 41 #[.slice A ms.length cap] W fun e w' => ∃ (A' : Option Addr) (c' : Nat) (ws : List Int) (k : Int), e = .returned (.tuple #[.slice A' ws.length c', .int .i64 k, .int .i64 0]) ∧ Out w' A' c' ws ∧ Below W.heap.size W w' ∧ Hid (ws.length ≤ 1000 ∧ prB ms ws k ln lm = true ∧ prE ms ws k ln lm = 0))
    (hbd : (0 ≤ ln ∧ ln ≤ 1000000000) ∧ (1 ≤ lm ∧ lm ≤ 10000))
    (hC1 : ∀ W, Below w.heap.size w W → Calls Try.prog 24 #[.slice A ms.length cap, .agg #[.int .i64 la, .int .i64 lb, .int .i64 ld]] W fun e w' => e = .returned (.tuple #[.agg #[.int .i64 ln, .int .i64 lm], .int .i64 0]) ∧ Below W.heap.size W w')
    (hP1 : ∀ W A' c' (ws : List Int) (k : Int), Below w.heap.size w W → Ints W A' ws → ws.length ≤ 1000 → Calls Try.prog 39 #[.slice A ms.length cap, .slice A' ws.length c', .int .i64 k, .agg #[.int .i64 ln, .int .i64 lm]] W fun e w' => e = .returned (.tuple #[.bool (prB ms ws k ln lm), .int .i64 (prE ms ws k ln lm)]) ∧ Below W.heap.size W w')
    (hC2 : ∀ W, Below w.heap.size w W → Calls Try.prog 24 #[.slice A ms.length cap, .agg #[.int .i64 a, .int .i64 b, .int .i64 d]] W fun e w' => e = .returned (.tuple #[.agg #[.int .i64 on, .int .i64 om], .int .i64 0]) ∧ Below W.heap.size W w')
    (hP2 : ∀ W, Below w.heap.size w W → Calls Try.prog 39 #[.slice A ms.length cap, .slice B vs.length cb, .int .i64 m, .agg #[.int .i64 n, .int .i64 q]] W fun e w' => e = .returned (.tuple #[.bool true, .int .i64 pe]) ∧ Below W.heap.size W w')
    (hpe : pe = 0 ∨ pe = 2)
    (hS1 : ∀ W : World, Calls Try.prog 53 #[.agg #[.int .i64 on, .int .i64 om], .agg #[.int .i64 ln, .int .i64 lm]] W fun e w' => e = .returned (.bool false) ∧ Below W.heap.size W w')
    (hS2 : ∀ W : World, Calls Try.prog 53 #[.agg #[.int .i64 ln, .int .i64 lm], .agg #[.int .i64 n, .int .i64 q]] W fun e w' => e = .returned (.bool false) ∧ Below W.heap.size W w') :
    Calls Try.prog 9 #[.slice A ms.length cap, .agg #[.int .i64 a, .int .i64 b, .int .i64 d], .slice B vs.length cb, .int .i64 m, .agg #[.int .i64 n, .int .i64 q]] w fun e w' => e = .returned (.bool true) ∧ Below w.heap.size w w' := by
  have HLo := Lib.hid hLo
  have HV := Lib.hid hV
  have HL1 := Lib.hid hL1
  have HL2 := Lib.hid hL2
  have HL3 := Lib.hid hL3
  have HC1 := Lib.hid hC1
  have HP1 := Lib.hid hP1
  have HC2 := Lib.hid hC2
  have HP2 := Lib.hid hP2
  have HS1 := Lib.hid hS1
  have HS2 := Lib.hid hS2
  have t1 := hw
  have z1 : decide (lm < 1) = false := decide_eq_false (by omega)
  have z2 : decide (10000 < lm) = false := decide_eq_false (by omega)
  have z3 : decide (ln < 0) = false := decide_eq_false (by omega)
  have z4 : decide (1000000000 < ln) = false := decide_eq_false (by omega)
  clear hLo hV hL1 hL2 hL3 hC1 hP1 hC2 hP2 hS1 hS2 hbd
  obtain ⟨W0, hW0, HW, HX, HY⟩ : ∃ W0, W0 = (w.alloc (.cells #[.int .i64 a, .int .i64 b, .int .i64 d] 24)).alloc (.cells #[.int .i64 n, .int .i64 q] 34) ∧ Hid (Below w.heap.size w W0) ∧ Hid (Lt W0 w.heap.size (.int .i64 a) (.int .i64 b) (.int .i64 d)) ∧ Hid (Rt W0 (w.heap.size + 1) (.int .i64 n) (.int .i64 q)) :=
    ⟨_, rfl, Lib.hid (((Below.refl _ _).alloc (Nat.le_refl _) _).alloc (by simp) _), Lib.hid ((Lt.new _ _ _ _).alloc _), Lib.hid (by have := Rt.new (w.alloc (.cells #[.int .i64 a, .int .i64 b, .int .i64 d] 24)) (.int .i64 n) (.int .i64 q); simpa using this)⟩
  have x0 := HX.out.c0
  have x1 := HX.out.c1
  have x2 := HX.out.c2
  have y0 := HY.out.c0
  have y1 := HY.out.c1
  go_enter Try.func9, Try.ntmps9
  go_upto_region 1 with (fail)
  rw [← hW0]
  clear hW0
  go_upto_region 3 with (first
    | (go_at_call 15; with_reducible refine (HLo.out _).mono ?_; rintro e w' ⟨rfl, rfl⟩)
    | (go_at_call 20; with_reducible refine (HV.out _ HW.out).mono ?_; rintro e v1 ⟨rfl, hB1⟩; have HX := Lib.hid (Lt.below HX.out hB1); have x0 := HX.out.c0; have x1 := HX.out.c1; have x2 := HX.out.c2; have HY := Lib.hid (Rt.below HY.out hB1); have y0 := HY.out.c0; have y1 := HY.out.c1; have HW : Hid (Below w.heap.size w _) := Lib.hid (below_step HW.out hB1); clear hB1)
    | fail)
  go_upto_region 4 with (go_at_call 31; with_reducible refine (HL1.out _ HW.out).mono ?_; rintro e v2 ⟨rfl, hB2⟩; have HX := Lib.hid (Lt.below HX.out hB2); have x0 := HX.out.c0; have x1 := HX.out.c1; have x2 := HX.out.c2; have HY := Lib.hid (Rt.below HY.out hB2); have y0 := HY.out.c0; have y1 := HY.out.c1; have HW : Hid (Below w.heap.size w _) := Lib.hid (below_step HW.out hB2); clear hB2)
  have qxga : w.heap.size < v2.heap.size := HX.out.lt
  have qyga : (w.heap.size + 1) < v2.heap.size := HY.out.lt
  have qHWga : w.heap.size ≤ v2.heap.size := HW.out.size
  obtain ⟨X2, hX2, HW, HG, HX, HY⟩ : ∃ X, (v2.alloc (.cells #[.int .i64 ln, .int .i64 lm] 34)) = X ∧ Hid (Below w.heap.size w X) ∧ Hid (Rt X v2.heap.size (.int .i64 ln) (.int .i64 lm)) ∧ Hid (Lt X w.heap.size (.int .i64 a) (.int .i64 b) (.int .i64 d)) ∧ Hid (Rt X (w.heap.size + 1) (.int .i64 n) (.int .i64 q)) :=
    ⟨_, rfl, Lib.hid (Below.alloc HW.out HW.out.size _), Lib.hid (Rt.new _ _ _), Lib.hid (HX.out.alloc _), Lib.hid (HY.out.alloc _)⟩
  rw [hX2]
  clear hX2
  obtain ⟨ga, hga⟩ : ∃ g, v2.heap.size = g := ⟨_, rfl⟩
  rw [hga] at HG qxga qyga qHWga
  try rw [hga]
  clear hga
  have x0 := HX.out.c0
  have x1 := HX.out.c1
  have x2 := HX.out.c2
  have y0 := HY.out.c0
  have y1 := HY.out.c1
  have g0 := HG.out.c0
  have g1 := HG.out.c1
  go_upto_region 5 with (go_at_call 37; with_reducible refine (HL2.out _ HW.out).mono ?_; rintro e v3 ⟨rfl, hB3⟩; have HX := Lib.hid (Lt.below HX.out hB3); have x0 := HX.out.c0; have x1 := HX.out.c1; have x2 := HX.out.c2; have HY := Lib.hid (Rt.below HY.out hB3); have y0 := HY.out.c0; have y1 := HY.out.c1; have HG := Lib.hid (Rt.below HG.out hB3); have g0 := HG.out.c0; have g1 := HG.out.c1; have HW : Hid (Below w.heap.size w _) := Lib.hid (below_step HW.out hB3); clear hB3)
  have qxgb : w.heap.size < v3.heap.size := HX.out.lt
  have qygb : (w.heap.size + 1) < v3.heap.size := HY.out.lt
  have qggb : ga < v3.heap.size := HG.out.lt
  have qHWgb : w.heap.size ≤ v3.heap.size := HW.out.size
  obtain ⟨X3, hX3, HW, HK, HX, HY, HG⟩ : ∃ X, (v3.alloc (.cells #[.int .i64 la, .int .i64 lb, .int .i64 ld] 24)) = X ∧ Hid (Below w.heap.size w X) ∧ Hid (Lt X v3.heap.size (.int .i64 la) (.int .i64 lb) (.int .i64 ld)) ∧ Hid (Lt X w.heap.size (.int .i64 a) (.int .i64 b) (.int .i64 d)) ∧ Hid (Rt X (w.heap.size + 1) (.int .i64 n) (.int .i64 q)) ∧ Hid (Rt X ga (.int .i64 ln) (.int .i64 lm)) :=
    ⟨_, rfl, Lib.hid (Below.alloc HW.out HW.out.size _), Lib.hid (Lt.new _ _ _ _), Lib.hid (HX.out.alloc _), Lib.hid (HY.out.alloc _), Lib.hid (HG.out.alloc _)⟩
  rw [hX3]
  clear hX3
  obtain ⟨gb, hgb⟩ : ∃ g, v3.heap.size = g := ⟨_, rfl⟩
  rw [hgb] at HK qxgb qygb qggb qHWgb
  try rw [hgb]
  clear hgb
  have x0 := HX.out.c0
  have x1 := HX.out.c1
  have x2 := HX.out.c2
  have y0 := HY.out.c0
  have y1 := HY.out.c1
  have g0 := HG.out.c0
  have g1 := HG.out.c1
  have k0 := HK.out.c0
  have k1 := HK.out.c1
  have k2 := HK.out.c2
  go_upto_region 6 with (go_at_call 41; with_reducible refine (HL3.out _ HW.out).mono ?_; rintro e v4 ⟨A4, c4, ws, kk, rfl, ho, hB4, hpp⟩; have HX := Lib.hid (Lt.below HX.out hB4); have x0 := HX.out.c0; have x1 := HX.out.c1; have x2 := HX.out.c2; have HY := Lib.hid (Rt.below HY.out hB4); have y0 := HY.out.c0; have y1 := HY.out.c1; have HG := Lib.hid (Rt.below HG.out hB4); have g0 := HG.out.c0; have g1 := HG.out.c1; have HK := Lib.hid (Lt.below HK.out hB4); have k0 := HK.out.c0; have k1 := HK.out.c1; have k2 := HK.out.c2; have HW : Hid (Below w.heap.size w _) := Lib.hid (below_step HW.out hB4); have HO := Lib.hid ho; clear ho; clear hB4)
  go_upto_region 8 with (fail)
  go_upto_region 9 with (go_at_call 24; with_reducible refine (HC1.out _ HW.out).mono ?_; rintro e v5 ⟨rfl, hB5⟩; have HX := Lib.hid (Lt.below HX.out hB5); have x0 := HX.out.c0; have x1 := HX.out.c1; have x2 := HX.out.c2; have HY := Lib.hid (Rt.below HY.out hB5); have y0 := HY.out.c0; have y1 := HY.out.c1; have HG := Lib.hid (Rt.below HG.out hB5); have g0 := HG.out.c0; have g1 := HG.out.c1; have HK := Lib.hid (Lt.below HK.out hB5); have k0 := HK.out.c0; have k1 := HK.out.c1; have k2 := HK.out.c2; have HO := Lib.hid (Out.below HO.out hB5); have HW : Hid (Below w.heap.size w _) := Lib.hid (below_step HW.out hB5); clear hB5)
  have qxgc : w.heap.size < v5.heap.size := HX.out.lt
  have qygc : (w.heap.size + 1) < v5.heap.size := HY.out.lt
  have qggc : ga < v5.heap.size := HG.out.lt
  have qkgc : gb < v5.heap.size := HK.out.lt
  have qHWgc : w.heap.size ≤ v5.heap.size := HW.out.size
  obtain ⟨X5, hX5, HW, HM, HX, HY, HG, HK, HO⟩ : ∃ X, (v5.alloc (.cells #[.int .i64 ln, .int .i64 lm] 34)) = X ∧ Hid (Below w.heap.size w X) ∧ Hid (Rt X v5.heap.size (.int .i64 ln) (.int .i64 lm)) ∧ Hid (Lt X w.heap.size (.int .i64 a) (.int .i64 b) (.int .i64 d)) ∧ Hid (Rt X (w.heap.size + 1) (.int .i64 n) (.int .i64 q)) ∧ Hid (Rt X ga (.int .i64 ln) (.int .i64 lm)) ∧ Hid (Lt X gb (.int .i64 la) (.int .i64 lb) (.int .i64 ld)) ∧ Hid (Out X A4 c4 ws) :=
    ⟨_, rfl, Lib.hid (Below.alloc HW.out HW.out.size _), Lib.hid (Rt.new _ _ _), Lib.hid (HX.out.alloc _), Lib.hid (HY.out.alloc _), Lib.hid (HG.out.alloc _), Lib.hid (HK.out.alloc _), Lib.hid (HO.out.below (Below.alloc (Below.refl _ _) (Nat.le_refl _) _))⟩
  rw [hX5]
  clear hX5
  obtain ⟨gc, hgc⟩ : ∃ g, v5.heap.size = g := ⟨_, rfl⟩
  rw [hgc] at HM qxgc qygc qggc qkgc qHWgc
  try rw [hgc]
  clear hgc
  have x0 := HX.out.c0
  have x1 := HX.out.c1
  have x2 := HX.out.c2
  have y0 := HY.out.c0
  have y1 := HY.out.c1
  have g0 := HG.out.c0
  have g1 := HG.out.c1
  have k0 := HK.out.c0
  have k1 := HK.out.c1
  have k2 := HK.out.c2
  have r0 := HM.out.c0
  have r1 := HM.out.c1
  go_upto_region 10 with (go_at_call 39; with_reducible refine (HP1.out _ A4 c4 ws kk HW.out HO.out.ints hpp.out.1).mono ?_; rintro e v6 ⟨rfl, hB6⟩; have HX := Lib.hid (Lt.below HX.out hB6); have x0 := HX.out.c0; have x1 := HX.out.c1; have x2 := HX.out.c2; have HY := Lib.hid (Rt.below HY.out hB6); have y0 := HY.out.c0; have y1 := HY.out.c1; have HG := Lib.hid (Rt.below HG.out hB6); have g0 := HG.out.c0; have g1 := HG.out.c1; have HK := Lib.hid (Lt.below HK.out hB6); have k0 := HK.out.c0; have k1 := HK.out.c1; have k2 := HK.out.c2; have HO := Lib.hid (Out.below HO.out hB6); have HM := Lib.hid (Rt.below HM.out hB6); have r0 := HM.out.c0; have r1 := HM.out.c1; have HW : Hid (Below w.heap.size w _) := Lib.hid (below_step HW.out hB6); rw [hpp.out.2.1, hpp.out.2.2]; clear hB6)
  clear HO
  go_upto_region 12 with (fail)
  go_upto_region 13 with (go_at_call 24; with_reducible refine (HC2.out _ HW.out).mono ?_; rintro e v7 ⟨rfl, hB7⟩; have HX := Lib.hid (Lt.below HX.out hB7); have x0 := HX.out.c0; have x1 := HX.out.c1; have x2 := HX.out.c2; have HY := Lib.hid (Rt.below HY.out hB7); have y0 := HY.out.c0; have y1 := HY.out.c1; have HG := Lib.hid (Rt.below HG.out hB7); have g0 := HG.out.c0; have g1 := HG.out.c1; have HK := Lib.hid (Lt.below HK.out hB7); have k0 := HK.out.c0; have k1 := HK.out.c1; have k2 := HK.out.c2; have HM := Lib.hid (Rt.below HM.out hB7); have r0 := HM.out.c0; have r1 := HM.out.c1; have HW : Hid (Below w.heap.size w _) := Lib.hid (below_step HW.out hB7); clear hB7)
  have qxgd : w.heap.size < v7.heap.size := HX.out.lt
  have qygd : (w.heap.size + 1) < v7.heap.size := HY.out.lt
  have qggd : ga < v7.heap.size := HG.out.lt
  have qkgd : gb < v7.heap.size := HK.out.lt
  have qrgd : gc < v7.heap.size := HM.out.lt
  have qHWgd : w.heap.size ≤ v7.heap.size := HW.out.size
  obtain ⟨X7, hX7, HW, HN, HX, HY, HG, HK, HM⟩ : ∃ X, (v7.alloc (.cells #[.int .i64 on, .int .i64 om] 34)) = X ∧ Hid (Below w.heap.size w X) ∧ Hid (Rt X v7.heap.size (.int .i64 on) (.int .i64 om)) ∧ Hid (Lt X w.heap.size (.int .i64 a) (.int .i64 b) (.int .i64 d)) ∧ Hid (Rt X (w.heap.size + 1) (.int .i64 n) (.int .i64 q)) ∧ Hid (Rt X ga (.int .i64 ln) (.int .i64 lm)) ∧ Hid (Lt X gb (.int .i64 la) (.int .i64 lb) (.int .i64 ld)) ∧ Hid (Rt X gc (.int .i64 ln) (.int .i64 lm)) :=
    ⟨_, rfl, Lib.hid (Below.alloc HW.out HW.out.size _), Lib.hid (Rt.new _ _ _), Lib.hid (HX.out.alloc _), Lib.hid (HY.out.alloc _), Lib.hid (HG.out.alloc _), Lib.hid (HK.out.alloc _), Lib.hid (HM.out.alloc _)⟩
  rw [hX7]
  clear hX7
  obtain ⟨gd, hgd⟩ : ∃ g, v7.heap.size = g := ⟨_, rfl⟩
  rw [hgd] at HN qxgd qygd qggd qkgd qrgd qHWgd
  try rw [hgd]
  clear hgd
  have x0 := HX.out.c0
  have x1 := HX.out.c1
  have x2 := HX.out.c2
  have y0 := HY.out.c0
  have y1 := HY.out.c1
  have g0 := HG.out.c0
  have g1 := HG.out.c1
  have k0 := HK.out.c0
  have k1 := HK.out.c1
  have k2 := HK.out.c2
  have r0 := HM.out.c0
  have r1 := HM.out.c1
  have s0 := HN.out.c0
  have s1 := HN.out.c1
  go_upto_region 15 with (go_at_call 53; with_reducible refine (HS1.out _).mono ?_; rintro e v8 ⟨rfl, hB8⟩; have HX := Lib.hid (Lt.below HX.out hB8); have x0 := HX.out.c0; have x1 := HX.out.c1; have x2 := HX.out.c2; have HY := Lib.hid (Rt.below HY.out hB8); have y0 := HY.out.c0; have y1 := HY.out.c1; have HG := Lib.hid (Rt.below HG.out hB8); have g0 := HG.out.c0; have g1 := HG.out.c1; have HK := Lib.hid (Lt.below HK.out hB8); have k0 := HK.out.c0; have k1 := HK.out.c1; have k2 := HK.out.c2; have HM := Lib.hid (Rt.below HM.out hB8); have r0 := HM.out.c0; have r1 := HM.out.c1; have HN := Lib.hid (Rt.below HN.out hB8); have s0 := HN.out.c0; have s1 := HN.out.c1; have HW : Hid (Below w.heap.size w _) := Lib.hid (below_step HW.out hB8); clear hB8)
  go_upto_region 16 with (go_at_call 39; with_reducible refine (HP2.out _ HW.out).mono ?_; rintro e v9 ⟨rfl, hB9⟩; have HX := Lib.hid (Lt.below HX.out hB9); have x0 := HX.out.c0; have x1 := HX.out.c1; have x2 := HX.out.c2; have HY := Lib.hid (Rt.below HY.out hB9); have y0 := HY.out.c0; have y1 := HY.out.c1; have HG := Lib.hid (Rt.below HG.out hB9); have g0 := HG.out.c0; have g1 := HG.out.c1; have HK := Lib.hid (Lt.below HK.out hB9); have k0 := HK.out.c0; have k1 := HK.out.c1; have k2 := HK.out.c2; have HM := Lib.hid (Rt.below HM.out hB9); have r0 := HM.out.c0; have r1 := HM.out.c1; have HN := Lib.hid (Rt.below HN.out hB9); have s0 := HN.out.c0; have s1 := HN.out.c1; have HW : Hid (Below w.heap.size w _) := Lib.hid (below_step HW.out hB9); clear hB9)
  rcases hpe with rfl | rfl
  all_goals
    go_wp2_with (first
      | (go_at_call 53; with_reducible refine (HS2.out _).mono ?_; rintro e v10 ⟨rfl, hB10⟩; have HX := Lib.hid (Lt.below HX.out hB10); have x0 := HX.out.c0; have x1 := HX.out.c1; have x2 := HX.out.c2; have HY := Lib.hid (Rt.below HY.out hB10); have y0 := HY.out.c0; have y1 := HY.out.c1; have HG := Lib.hid (Rt.below HG.out hB10); have g0 := HG.out.c0; have g1 := HG.out.c1; have HK := Lib.hid (Lt.below HK.out hB10); have k0 := HK.out.c0; have k1 := HK.out.c1; have k2 := HK.out.c2; have HM := Lib.hid (Rt.below HM.out hB10); have r0 := HM.out.c0; have r1 := HM.out.c1; have HN := Lib.hid (Rt.below HN.out hB10); have s0 := HN.out.c0; have s1 := HN.out.c1; have HW : Hid (Below w.heap.size w _) := Lib.hid (below_step HW.out hB10); clear hB10)
      | (go_at_call 16; refine (awake_any _).mono ?_; rintro e wz ⟨rfl, hBz⟩; have HW : Hid (Below w.heap.size w _) := Lib.hid (below_step HW.out hBz); clear hBz)
      | fail)
    go_ret
    exact ⟨rfl, HW.out⟩

set_option maxRecDepth 100000 in
set_option maxHeartbeats 16000000 in
theorem costs_ok0 (ms : List (Int × Int)) (A : Option Addr) (cap : Nat) (a b d : Int) (vs : List Int) (B : Option Addr) (cb : Nat) (m n q : Int) (w : World) (ln lm la lb ld on om pe : Int)
    (hLo : ∀ W : World, Calls Try.prog 15 #[.slice A ms.length cap] W fun e w' => e = .returned (.bool false) ∧ W = w')
    (hw : decide (60 < (vs.length : Int)) = false)
    (hV : ∀ W, Below w.heap.size w W → Calls Try.prog 20 #[.slice A ms.length cap] W fun e w' => e = .returned (.bool true) ∧ Below W.heap.size W w')
    (hL1 : ∀ W, Below w.heap.size w W → Calls Try.prog 31 #[.slice A ms.length cap] W fun e w' => e = .returned (.tuple #[.agg #[.int .i64 ln, .int .i64 lm], .int .i64 0]) ∧ Below W.heap.size W w')
    (hL2 : ∀ W, Below w.heap.size w W → Calls Try.prog 37 #[.slice A ms.length cap] W fun e w' => e = .returned (.tuple #[.agg #[.int .i64 la, .int .i64 lb, .int .i64 ld], .int .i64 0]) ∧ Below W.heap.size W w')
    (hL3 : ∀ W, Below w.heap.size w W → Calls Try.prog 41 #[.slice A ms.length cap] W fun e w' => ∃ (A' : Option Addr) (c' : Nat) (ws : List Int) (k : Int), e = .returned (.tuple #[.slice A' ws.length c', .int .i64 k, .int .i64 0]) ∧ Out w' A' c' ws ∧ Below W.heap.size W w' ∧ Hid (ws.length ≤ 1000 ∧ prB ms ws k ln lm = true ∧ prE ms ws k ln lm = 0))
    (hbd : (0 ≤ ln ∧ ln ≤ 1000000000) ∧ (1 ≤ lm ∧ lm ≤ 10000))
    (hC1 : ∀ W, Below w.heap.size w W → Calls Try.prog 24 #[.slice A ms.length cap, .agg #[.int .i64 la, .int .i64 lb, .int .i64 ld]] W fun e w' => e = .returned (.tuple #[.agg #[.int .i64 ln, .int .i64 lm], .int .i64 0]) ∧ Below W.heap.size W w')
    (hP1 : ∀ W A' c' (ws : List Int) (k : Int), Below w.heap.size w W → Ints W A' ws → ws.length ≤ 1000 → Calls Try.prog 39 #[.slice A ms.length cap, .slice A' ws.length c', .int .i64 k, .agg #[.int .i64 ln, .int .i64 lm]] W fun e w' => e = .returned (.tuple #[.bool (prB ms ws k ln lm), .int .i64 (prE ms ws k ln lm)]) ∧ Below W.heap.size W w')
    (hC2 : ∀ W, Below w.heap.size w W → Calls Try.prog 24 #[.slice A ms.length cap, .agg #[.int .i64 a, .int .i64 b, .int .i64 d]] W fun e w' => e = .returned (.tuple #[.agg #[.int .i64 on, .int .i64 om], .int .i64 0]) ∧ Below W.heap.size W w')
    (hP2 : ∀ W, Below w.heap.size w W → Calls Try.prog 39 #[.slice A ms.length cap, .slice B vs.length cb, .int .i64 m, .agg #[.int .i64 n, .int .i64 q]] W fun e w' => e = .returned (.tuple #[.bool false, .int .i64 pe]) ∧ Below W.heap.size W w')
    (hpe : pe = 0 ∨ pe = 2)
    (hS1 : ∀ W : World, Calls Try.prog 53 #[.agg #[.int .i64 on, .int .i64 om], .agg #[.int .i64 ln, .int .i64 lm]] W fun e w' => e = .returned (.bool false) ∧ Below W.heap.size W w') :
    Calls Try.prog 9 #[.slice A ms.length cap, .agg #[.int .i64 a, .int .i64 b, .int .i64 d], .slice B vs.length cb, .int .i64 m, .agg #[.int .i64 n, .int .i64 q]] w fun e w' => e = .returned (.bool true) ∧ Below w.heap.size w w' := by
  have HLo := Lib.hid hLo
  have HV := Lib.hid hV
  have HL1 := Lib.hid hL1
  have HL2 := Lib.hid hL2
  have HL3 := Lib.hid hL3
  have HC1 := Lib.hid hC1
  have HP1 := Lib.hid hP1
  have HC2 := Lib.hid hC2
  have HP2 := Lib.hid hP2
  have HS1 := Lib.hid hS1
  have t1 := hw
  have z1 : decide (lm < 1) = false := decide_eq_false (by omega)
  have z2 : decide (10000 < lm) = false := decide_eq_false (by omega)
  have z3 : decide (ln < 0) = false := decide_eq_false (by omega)
  have z4 : decide (1000000000 < ln) = false := decide_eq_false (by omega)
  clear hLo hV hL1 hL2 hL3 hC1 hP1 hC2 hP2 hS1 hbd
  obtain ⟨W0, hW0, HW, HX, HY⟩ : ∃ W0, W0 = (w.alloc (.cells #[.int .i64 a, .int .i64 b, .int .i64 d] 24)).alloc (.cells #[.int .i64 n, .int .i64 q] 34) ∧ Hid (Below w.heap.size w W0) ∧ Hid (Lt W0 w.heap.size (.int .i64 a) (.int .i64 b) (.int .i64 d)) ∧ Hid (Rt W0 (w.heap.size + 1) (.int .i64 n) (.int .i64 q)) :=
    ⟨_, rfl, Lib.hid (((Below.refl _ _).alloc (Nat.le_refl _) _).alloc (by simp) _), Lib.hid ((Lt.new _ _ _ _).alloc _), Lib.hid (by have := Rt.new (w.alloc (.cells #[.int .i64 a, .int .i64 b, .int .i64 d] 24)) (.int .i64 n) (.int .i64 q); simpa using this)⟩
  have x0 := HX.out.c0
  have x1 := HX.out.c1
  have x2 := HX.out.c2
  have y0 := HY.out.c0
  have y1 := HY.out.c1
  go_enter Try.func9, Try.ntmps9
  go_upto_region 1 with (fail)
  rw [← hW0]
  clear hW0
  go_upto_region 3 with (first
    | (go_at_call 15; with_reducible refine (HLo.out _).mono ?_; rintro e w' ⟨rfl, rfl⟩)
    | (go_at_call 20; with_reducible refine (HV.out _ HW.out).mono ?_; rintro e v1 ⟨rfl, hB1⟩; have HX := Lib.hid (Lt.below HX.out hB1); have x0 := HX.out.c0; have x1 := HX.out.c1; have x2 := HX.out.c2; have HY := Lib.hid (Rt.below HY.out hB1); have y0 := HY.out.c0; have y1 := HY.out.c1; have HW : Hid (Below w.heap.size w _) := Lib.hid (below_step HW.out hB1); clear hB1)
    | fail)
  go_upto_region 4 with (go_at_call 31; with_reducible refine (HL1.out _ HW.out).mono ?_; rintro e v2 ⟨rfl, hB2⟩; have HX := Lib.hid (Lt.below HX.out hB2); have x0 := HX.out.c0; have x1 := HX.out.c1; have x2 := HX.out.c2; have HY := Lib.hid (Rt.below HY.out hB2); have y0 := HY.out.c0; have y1 := HY.out.c1; have HW : Hid (Below w.heap.size w _) := Lib.hid (below_step HW.out hB2); clear hB2)
  have qxga : w.heap.size < v2.heap.size := HX.out.lt
  have qyga : (w.heap.size + 1) < v2.heap.size := HY.out.lt
  have qHWga : w.heap.size ≤ v2.heap.size := HW.out.size
  obtain ⟨X2, hX2, HW, HG, HX, HY⟩ : ∃ X, (v2.alloc (.cells #[.int .i64 ln, .int .i64 lm] 34)) = X ∧ Hid (Below w.heap.size w X) ∧ Hid (Rt X v2.heap.size (.int .i64 ln) (.int .i64 lm)) ∧ Hid (Lt X w.heap.size (.int .i64 a) (.int .i64 b) (.int .i64 d)) ∧ Hid (Rt X (w.heap.size + 1) (.int .i64 n) (.int .i64 q)) :=
    ⟨_, rfl, Lib.hid (Below.alloc HW.out HW.out.size _), Lib.hid (Rt.new _ _ _), Lib.hid (HX.out.alloc _), Lib.hid (HY.out.alloc _)⟩
  rw [hX2]
  clear hX2
  obtain ⟨ga, hga⟩ : ∃ g, v2.heap.size = g := ⟨_, rfl⟩
  rw [hga] at HG qxga qyga qHWga
  try rw [hga]
  clear hga
  have x0 := HX.out.c0
  have x1 := HX.out.c1
  have x2 := HX.out.c2
  have y0 := HY.out.c0
  have y1 := HY.out.c1
  have g0 := HG.out.c0
  have g1 := HG.out.c1
  go_upto_region 5 with (go_at_call 37; with_reducible refine (HL2.out _ HW.out).mono ?_; rintro e v3 ⟨rfl, hB3⟩; have HX := Lib.hid (Lt.below HX.out hB3); have x0 := HX.out.c0; have x1 := HX.out.c1; have x2 := HX.out.c2; have HY := Lib.hid (Rt.below HY.out hB3); have y0 := HY.out.c0; have y1 := HY.out.c1; have HG := Lib.hid (Rt.below HG.out hB3); have g0 := HG.out.c0; have g1 := HG.out.c1; have HW : Hid (Below w.heap.size w _) := Lib.hid (below_step HW.out hB3); clear hB3)
  have qxgb : w.heap.size < v3.heap.size := HX.out.lt
  have qygb : (w.heap.size + 1) < v3.heap.size := HY.out.lt
  have qggb : ga < v3.heap.size := HG.out.lt
  have qHWgb : w.heap.size ≤ v3.heap.size := HW.out.size
  obtain ⟨X3, hX3, HW, HK, HX, HY, HG⟩ : ∃ X, (v3.alloc (.cells #[.int .i64 la, .int .i64 lb, .int .i64 ld] 24)) = X ∧ Hid (Below w.heap.size w X) ∧ Hid (Lt X v3.heap.size (.int .i64 la) (.int .i64 lb) (.int .i64 ld)) ∧ Hid (Lt X w.heap.size (.int .i64 a) (.int .i64 b) (.int .i64 d)) ∧ Hid (Rt X (w.heap.size + 1) (.int .i64 n) (.int .i64 q)) ∧ Hid (Rt X ga (.int .i64 ln) (.int .i64 lm)) :=
    ⟨_, rfl, Lib.hid (Below.alloc HW.out HW.out.size _), Lib.hid (Lt.new _ _ _ _), Lib.hid (HX.out.alloc _), Lib.hid (HY.out.alloc _), Lib.hid (HG.out.alloc _)⟩
  rw [hX3]
  clear hX3
  obtain ⟨gb, hgb⟩ : ∃ g, v3.heap.size = g := ⟨_, rfl⟩
  rw [hgb] at HK qxgb qygb qggb qHWgb
  try rw [hgb]
  clear hgb
  have x0 := HX.out.c0
  have x1 := HX.out.c1
  have x2 := HX.out.c2
  have y0 := HY.out.c0
  have y1 := HY.out.c1
  have g0 := HG.out.c0
  have g1 := HG.out.c1
  have k0 := HK.out.c0
  have k1 := HK.out.c1
  have k2 := HK.out.c2
  go_upto_region 6 with (go_at_call 41; with_reducible refine (HL3.out _ HW.out).mono ?_; rintro e v4 ⟨A4, c4, ws, kk, rfl, ho, hB4, hpp⟩; have HX := Lib.hid (Lt.below HX.out hB4); have x0 := HX.out.c0; have x1 := HX.out.c1; have x2 := HX.out.c2; have HY := Lib.hid (Rt.below HY.out hB4); have y0 := HY.out.c0; have y1 := HY.out.c1; have HG := Lib.hid (Rt.below HG.out hB4); have g0 := HG.out.c0; have g1 := HG.out.c1; have HK := Lib.hid (Lt.below HK.out hB4); have k0 := HK.out.c0; have k1 := HK.out.c1; have k2 := HK.out.c2; have HW : Hid (Below w.heap.size w _) := Lib.hid (below_step HW.out hB4); have HO := Lib.hid ho; clear ho; clear hB4)
  go_upto_region 8 with (fail)
  go_upto_region 9 with (go_at_call 24; with_reducible refine (HC1.out _ HW.out).mono ?_; rintro e v5 ⟨rfl, hB5⟩; have HX := Lib.hid (Lt.below HX.out hB5); have x0 := HX.out.c0; have x1 := HX.out.c1; have x2 := HX.out.c2; have HY := Lib.hid (Rt.below HY.out hB5); have y0 := HY.out.c0; have y1 := HY.out.c1; have HG := Lib.hid (Rt.below HG.out hB5); have g0 := HG.out.c0; have g1 := HG.out.c1; have HK := Lib.hid (Lt.below HK.out hB5); have k0 := HK.out.c0; have k1 := HK.out.c1; have k2 := HK.out.c2; have HO := Lib.hid (Out.below HO.out hB5); have HW : Hid (Below w.heap.size w _) := Lib.hid (below_step HW.out hB5); clear hB5)
  have qxgc : w.heap.size < v5.heap.size := HX.out.lt
  have qygc : (w.heap.size + 1) < v5.heap.size := HY.out.lt
  have qggc : ga < v5.heap.size := HG.out.lt
  have qkgc : gb < v5.heap.size := HK.out.lt
  have qHWgc : w.heap.size ≤ v5.heap.size := HW.out.size
  obtain ⟨X5, hX5, HW, HM, HX, HY, HG, HK, HO⟩ : ∃ X, (v5.alloc (.cells #[.int .i64 ln, .int .i64 lm] 34)) = X ∧ Hid (Below w.heap.size w X) ∧ Hid (Rt X v5.heap.size (.int .i64 ln) (.int .i64 lm)) ∧ Hid (Lt X w.heap.size (.int .i64 a) (.int .i64 b) (.int .i64 d)) ∧ Hid (Rt X (w.heap.size + 1) (.int .i64 n) (.int .i64 q)) ∧ Hid (Rt X ga (.int .i64 ln) (.int .i64 lm)) ∧ Hid (Lt X gb (.int .i64 la) (.int .i64 lb) (.int .i64 ld)) ∧ Hid (Out X A4 c4 ws) :=
    ⟨_, rfl, Lib.hid (Below.alloc HW.out HW.out.size _), Lib.hid (Rt.new _ _ _), Lib.hid (HX.out.alloc _), Lib.hid (HY.out.alloc _), Lib.hid (HG.out.alloc _), Lib.hid (HK.out.alloc _), Lib.hid (HO.out.below (Below.alloc (Below.refl _ _) (Nat.le_refl _) _))⟩
  rw [hX5]
  clear hX5
  obtain ⟨gc, hgc⟩ : ∃ g, v5.heap.size = g := ⟨_, rfl⟩
  rw [hgc] at HM qxgc qygc qggc qkgc qHWgc
  try rw [hgc]
  clear hgc
  have x0 := HX.out.c0
  have x1 := HX.out.c1
  have x2 := HX.out.c2
  have y0 := HY.out.c0
  have y1 := HY.out.c1
  have g0 := HG.out.c0
  have g1 := HG.out.c1
  have k0 := HK.out.c0
  have k1 := HK.out.c1
  have k2 := HK.out.c2
  have r0 := HM.out.c0
  have r1 := HM.out.c1
  go_upto_region 10 with (go_at_call 39; with_reducible refine (HP1.out _ A4 c4 ws kk HW.out HO.out.ints hpp.out.1).mono ?_; rintro e v6 ⟨rfl, hB6⟩; have HX := Lib.hid (Lt.below HX.out hB6); have x0 := HX.out.c0; have x1 := HX.out.c1; have x2 := HX.out.c2; have HY := Lib.hid (Rt.below HY.out hB6); have y0 := HY.out.c0; have y1 := HY.out.c1; have HG := Lib.hid (Rt.below HG.out hB6); have g0 := HG.out.c0; have g1 := HG.out.c1; have HK := Lib.hid (Lt.below HK.out hB6); have k0 := HK.out.c0; have k1 := HK.out.c1; have k2 := HK.out.c2; have HO := Lib.hid (Out.below HO.out hB6); have HM := Lib.hid (Rt.below HM.out hB6); have r0 := HM.out.c0; have r1 := HM.out.c1; have HW : Hid (Below w.heap.size w _) := Lib.hid (below_step HW.out hB6); rw [hpp.out.2.1, hpp.out.2.2]; clear hB6)
  clear HO
  go_upto_region 12 with (fail)
  go_upto_region 13 with (go_at_call 24; with_reducible refine (HC2.out _ HW.out).mono ?_; rintro e v7 ⟨rfl, hB7⟩; have HX := Lib.hid (Lt.below HX.out hB7); have x0 := HX.out.c0; have x1 := HX.out.c1; have x2 := HX.out.c2; have HY := Lib.hid (Rt.below HY.out hB7); have y0 := HY.out.c0; have y1 := HY.out.c1; have HG := Lib.hid (Rt.below HG.out hB7); have g0 := HG.out.c0; have g1 := HG.out.c1; have HK := Lib.hid (Lt.below HK.out hB7); have k0 := HK.out.c0; have k1 := HK.out.c1; have k2 := HK.out.c2; have HM := Lib.hid (Rt.below HM.out hB7); have r0 := HM.out.c0; have r1 := HM.out.c1; have HW : Hid (Below w.heap.size w _) := Lib.hid (below_step HW.out hB7); clear hB7)
  have qxgd : w.heap.size < v7.heap.size := HX.out.lt
  have qygd : (w.heap.size + 1) < v7.heap.size := HY.out.lt
  have qggd : ga < v7.heap.size := HG.out.lt
  have qkgd : gb < v7.heap.size := HK.out.lt
  have qrgd : gc < v7.heap.size := HM.out.lt
  have qHWgd : w.heap.size ≤ v7.heap.size := HW.out.size
  obtain ⟨X7, hX7, HW, HN, HX, HY, HG, HK, HM⟩ : ∃ X, (v7.alloc (.cells #[.int .i64 on, .int .i64 om] 34)) = X ∧ Hid (Below w.heap.size w X) ∧ Hid (Rt X v7.heap.size (.int .i64 on) (.int .i64 om)) ∧ Hid (Lt X w.heap.size (.int .i64 a) (.int .i64 b) (.int .i64 d)) ∧ Hid (Rt X (w.heap.size + 1) (.int .i64 n) (.int .i64 q)) ∧ Hid (Rt X ga (.int .i64 ln) (.int .i64 lm)) ∧ Hid (Lt X gb (.int .i64 la) (.int .i64 lb) (.int .i64 ld)) ∧ Hid (Rt X gc (.int .i64 ln) (.int .i64 lm)) :=
    ⟨_, rfl, Lib.hid (Below.alloc HW.out HW.out.size _), Lib.hid (Rt.new _ _ _), Lib.hid (HX.out.alloc _), Lib.hid (HY.out.alloc _), Lib.hid (HG.out.alloc _), Lib.hid (HK.out.alloc _), Lib.hid (HM.out.alloc _)⟩
  rw [hX7]
  clear hX7
  obtain ⟨gd, hgd⟩ : ∃ g, v7.heap.size = g := ⟨_, rfl⟩
  rw [hgd] at HN qxgd qygd qggd qkgd qrgd qHWgd
  try rw [hgd]
  clear hgd
  have x0 := HX.out.c0
  have x1 := HX.out.c1
  have x2 := HX.out.c2
  have y0 := HY.out.c0
  have y1 := HY.out.c1
  have g0 := HG.out.c0
  have g1 := HG.out.c1
  have k0 := HK.out.c0
  have k1 := HK.out.c1
  have k2 := HK.out.c2
  have r0 := HM.out.c0
  have r1 := HM.out.c1
  have s0 := HN.out.c0
  have s1 := HN.out.c1
  go_upto_region 15 with (go_at_call 53; with_reducible refine (HS1.out _).mono ?_; rintro e v8 ⟨rfl, hB8⟩; have HX := Lib.hid (Lt.below HX.out hB8); have x0 := HX.out.c0; have x1 := HX.out.c1; have x2 := HX.out.c2; have HY := Lib.hid (Rt.below HY.out hB8); have y0 := HY.out.c0; have y1 := HY.out.c1; have HG := Lib.hid (Rt.below HG.out hB8); have g0 := HG.out.c0; have g1 := HG.out.c1; have HK := Lib.hid (Lt.below HK.out hB8); have k0 := HK.out.c0; have k1 := HK.out.c1; have k2 := HK.out.c2; have HM := Lib.hid (Rt.below HM.out hB8); have r0 := HM.out.c0; have r1 := HM.out.c1; have HN := Lib.hid (Rt.below HN.out hB8); have s0 := HN.out.c0; have s1 := HN.out.c1; have HW : Hid (Below w.heap.size w _) := Lib.hid (below_step HW.out hB8); clear hB8)
  go_upto_region 16 with (go_at_call 39; with_reducible refine (HP2.out _ HW.out).mono ?_; rintro e v9 ⟨rfl, hB9⟩; have HX := Lib.hid (Lt.below HX.out hB9); have x0 := HX.out.c0; have x1 := HX.out.c1; have x2 := HX.out.c2; have HY := Lib.hid (Rt.below HY.out hB9); have y0 := HY.out.c0; have y1 := HY.out.c1; have HG := Lib.hid (Rt.below HG.out hB9); have g0 := HG.out.c0; have g1 := HG.out.c1; have HK := Lib.hid (Lt.below HK.out hB9); have k0 := HK.out.c0; have k1 := HK.out.c1; have k2 := HK.out.c2; have HM := Lib.hid (Rt.below HM.out hB9); have r0 := HM.out.c0; have r1 := HM.out.c1; have HN := Lib.hid (Rt.below HN.out hB9); have s0 := HN.out.c0; have s1 := HN.out.c1; have HW : Hid (Below w.heap.size w _) := Lib.hid (below_step HW.out hB9); clear hB9)
  rcases hpe with rfl | rfl
  all_goals
    go_wp2_with (first
      | (go_at_call 16; refine (awake_any _).mono ?_; rintro e wz ⟨rfl, hBz⟩; have HW : Hid (Below w.heap.size w _) := Lib.hid (below_step HW.out hBz); clear hBz)
      | fail)
    go_ret
    exact ⟨rfl, HW.out⟩

set_option maxRecDepth 100000 in
set_option maxHeartbeats 16000000 in
theorem costs_no1 (ms : List (Int × Int)) (A : Option Addr) (cap : Nat) (a b d : Int) (vs : List Int) (B : Option Addr) (cb : Nat) (m n q : Int) (w : World) (ln lm la lb ld on om pe : Int)
    (hLo : ∀ W : World, Calls Try.prog 15 #[.slice A ms.length cap] W fun e w' => e = .returned (.bool false) ∧ W = w')
    (hw : decide (60 < (vs.length : Int)) = false)
    (hV : ∀ W, Below w.heap.size w W → Calls Try.prog 20 #[.slice A ms.length cap] W fun e w' => e = .returned (.bool true) ∧ Below W.heap.size W w')
    (hL1 : ∀ W, Below w.heap.size w W → Calls Try.prog 31 #[.slice A ms.length cap] W fun e w' => e = .returned (.tuple #[.agg #[.int .i64 ln, .int .i64 lm], .int .i64 0]) ∧ Below W.heap.size W w')
    (hL2 : ∀ W, Below w.heap.size w W → Calls Try.prog 37 #[.slice A ms.length cap] W fun e w' => e = .returned (.tuple #[.agg #[.int .i64 la, .int .i64 lb, .int .i64 ld], .int .i64 0]) ∧ Below W.heap.size W w')
    (hL3 : ∀ W, Below w.heap.size w W → Calls Try.prog 41 #[.slice A ms.length cap] W fun e w' => ∃ (A' : Option Addr) (c' : Nat) (ws : List Int) (k : Int), e = .returned (.tuple #[.slice A' ws.length c', .int .i64 k, .int .i64 0]) ∧ Out w' A' c' ws ∧ Below W.heap.size W w' ∧ Hid (ws.length ≤ 1000 ∧ prB ms ws k ln lm = true ∧ prE ms ws k ln lm = 0))
    (hbd : (0 ≤ ln ∧ ln ≤ 1000000000) ∧ (1 ≤ lm ∧ lm ≤ 10000))
    (hC1 : ∀ W, Below w.heap.size w W → Calls Try.prog 24 #[.slice A ms.length cap, .agg #[.int .i64 la, .int .i64 lb, .int .i64 ld]] W fun e w' => e = .returned (.tuple #[.agg #[.int .i64 ln, .int .i64 lm], .int .i64 0]) ∧ Below W.heap.size W w')
    (hP1 : ∀ W A' c' (ws : List Int) (k : Int), Below w.heap.size w W → Ints W A' ws → ws.length ≤ 1000 → Calls Try.prog 39 #[.slice A ms.length cap, .slice A' ws.length c', .int .i64 k, .agg #[.int .i64 ln, .int .i64 lm]] W fun e w' => e = .returned (.tuple #[.bool (prB ms ws k ln lm), .int .i64 (prE ms ws k ln lm)]) ∧ Below W.heap.size W w')
    (hC2 : ∀ W, Below w.heap.size w W → Calls Try.prog 24 #[.slice A ms.length cap, .agg #[.int .i64 a, .int .i64 b, .int .i64 d]] W fun e w' => e = .returned (.tuple #[.agg #[.int .i64 on, .int .i64 om], .int .i64 51]) ∧ Below W.heap.size W w')
    (hP2 : ∀ W, Below w.heap.size w W → Calls Try.prog 39 #[.slice A ms.length cap, .slice B vs.length cb, .int .i64 m, .agg #[.int .i64 n, .int .i64 q]] W fun e w' => e = .returned (.tuple #[.bool true, .int .i64 pe]) ∧ Below W.heap.size W w')
    (hpe : pe = 0 ∨ pe = 2)
    (hS2 : ∀ W : World, Calls Try.prog 53 #[.agg #[.int .i64 ln, .int .i64 lm], .agg #[.int .i64 n, .int .i64 q]] W fun e w' => e = .returned (.bool false) ∧ Below W.heap.size W w') :
    Calls Try.prog 9 #[.slice A ms.length cap, .agg #[.int .i64 a, .int .i64 b, .int .i64 d], .slice B vs.length cb, .int .i64 m, .agg #[.int .i64 n, .int .i64 q]] w fun e w' => e = .returned (.bool true) ∧ Below w.heap.size w w' := by
  have HLo := Lib.hid hLo
  have HV := Lib.hid hV
  have HL1 := Lib.hid hL1
  have HL2 := Lib.hid hL2
  have HL3 := Lib.hid hL3
  have HC1 := Lib.hid hC1
  have HP1 := Lib.hid hP1
  have HC2 := Lib.hid hC2
  have HP2 := Lib.hid hP2
  have HS2 := Lib.hid hS2
  have t1 := hw
  have z1 : decide (lm < 1) = false := decide_eq_false (by omega)
  have z2 : decide (10000 < lm) = false := decide_eq_false (by omega)
  have z3 : decide (ln < 0) = false := decide_eq_false (by omega)
  have z4 : decide (1000000000 < ln) = false := decide_eq_false (by omega)
  clear hLo hV hL1 hL2 hL3 hC1 hP1 hC2 hP2 hS2 hbd
  obtain ⟨W0, hW0, HW, HX, HY⟩ : ∃ W0, W0 = (w.alloc (.cells #[.int .i64 a, .int .i64 b, .int .i64 d] 24)).alloc (.cells #[.int .i64 n, .int .i64 q] 34) ∧ Hid (Below w.heap.size w W0) ∧ Hid (Lt W0 w.heap.size (.int .i64 a) (.int .i64 b) (.int .i64 d)) ∧ Hid (Rt W0 (w.heap.size + 1) (.int .i64 n) (.int .i64 q)) :=
    ⟨_, rfl, Lib.hid (((Below.refl _ _).alloc (Nat.le_refl _) _).alloc (by simp) _), Lib.hid ((Lt.new _ _ _ _).alloc _), Lib.hid (by have := Rt.new (w.alloc (.cells #[.int .i64 a, .int .i64 b, .int .i64 d] 24)) (.int .i64 n) (.int .i64 q); simpa using this)⟩
  have x0 := HX.out.c0
  have x1 := HX.out.c1
  have x2 := HX.out.c2
  have y0 := HY.out.c0
  have y1 := HY.out.c1
  go_enter Try.func9, Try.ntmps9
  go_upto_region 1 with (fail)
  rw [← hW0]
  clear hW0
  go_upto_region 3 with (first
    | (go_at_call 15; with_reducible refine (HLo.out _).mono ?_; rintro e w' ⟨rfl, rfl⟩)
    | (go_at_call 20; with_reducible refine (HV.out _ HW.out).mono ?_; rintro e v1 ⟨rfl, hB1⟩; have HX := Lib.hid (Lt.below HX.out hB1); have x0 := HX.out.c0; have x1 := HX.out.c1; have x2 := HX.out.c2; have HY := Lib.hid (Rt.below HY.out hB1); have y0 := HY.out.c0; have y1 := HY.out.c1; have HW : Hid (Below w.heap.size w _) := Lib.hid (below_step HW.out hB1); clear hB1)
    | fail)
  go_upto_region 4 with (go_at_call 31; with_reducible refine (HL1.out _ HW.out).mono ?_; rintro e v2 ⟨rfl, hB2⟩; have HX := Lib.hid (Lt.below HX.out hB2); have x0 := HX.out.c0; have x1 := HX.out.c1; have x2 := HX.out.c2; have HY := Lib.hid (Rt.below HY.out hB2); have y0 := HY.out.c0; have y1 := HY.out.c1; have HW : Hid (Below w.heap.size w _) := Lib.hid (below_step HW.out hB2); clear hB2)
  have qxga : w.heap.size < v2.heap.size := HX.out.lt
  have qyga : (w.heap.size + 1) < v2.heap.size := HY.out.lt
  have qHWga : w.heap.size ≤ v2.heap.size := HW.out.size
  obtain ⟨X2, hX2, HW, HG, HX, HY⟩ : ∃ X, (v2.alloc (.cells #[.int .i64 ln, .int .i64 lm] 34)) = X ∧ Hid (Below w.heap.size w X) ∧ Hid (Rt X v2.heap.size (.int .i64 ln) (.int .i64 lm)) ∧ Hid (Lt X w.heap.size (.int .i64 a) (.int .i64 b) (.int .i64 d)) ∧ Hid (Rt X (w.heap.size + 1) (.int .i64 n) (.int .i64 q)) :=
    ⟨_, rfl, Lib.hid (Below.alloc HW.out HW.out.size _), Lib.hid (Rt.new _ _ _), Lib.hid (HX.out.alloc _), Lib.hid (HY.out.alloc _)⟩
  rw [hX2]
  clear hX2
  obtain ⟨ga, hga⟩ : ∃ g, v2.heap.size = g := ⟨_, rfl⟩
  rw [hga] at HG qxga qyga qHWga
  try rw [hga]
  clear hga
  have x0 := HX.out.c0
  have x1 := HX.out.c1
  have x2 := HX.out.c2
  have y0 := HY.out.c0
  have y1 := HY.out.c1
  have g0 := HG.out.c0
  have g1 := HG.out.c1
  go_upto_region 5 with (go_at_call 37; with_reducible refine (HL2.out _ HW.out).mono ?_; rintro e v3 ⟨rfl, hB3⟩; have HX := Lib.hid (Lt.below HX.out hB3); have x0 := HX.out.c0; have x1 := HX.out.c1; have x2 := HX.out.c2; have HY := Lib.hid (Rt.below HY.out hB3); have y0 := HY.out.c0; have y1 := HY.out.c1; have HG := Lib.hid (Rt.below HG.out hB3); have g0 := HG.out.c0; have g1 := HG.out.c1; have HW : Hid (Below w.heap.size w _) := Lib.hid (below_step HW.out hB3); clear hB3)
  have qxgb : w.heap.size < v3.heap.size := HX.out.lt
  have qygb : (w.heap.size + 1) < v3.heap.size := HY.out.lt
  have qggb : ga < v3.heap.size := HG.out.lt
  have qHWgb : w.heap.size ≤ v3.heap.size := HW.out.size
  obtain ⟨X3, hX3, HW, HK, HX, HY, HG⟩ : ∃ X, (v3.alloc (.cells #[.int .i64 la, .int .i64 lb, .int .i64 ld] 24)) = X ∧ Hid (Below w.heap.size w X) ∧ Hid (Lt X v3.heap.size (.int .i64 la) (.int .i64 lb) (.int .i64 ld)) ∧ Hid (Lt X w.heap.size (.int .i64 a) (.int .i64 b) (.int .i64 d)) ∧ Hid (Rt X (w.heap.size + 1) (.int .i64 n) (.int .i64 q)) ∧ Hid (Rt X ga (.int .i64 ln) (.int .i64 lm)) :=
    ⟨_, rfl, Lib.hid (Below.alloc HW.out HW.out.size _), Lib.hid (Lt.new _ _ _ _), Lib.hid (HX.out.alloc _), Lib.hid (HY.out.alloc _), Lib.hid (HG.out.alloc _)⟩
  rw [hX3]
  clear hX3
  obtain ⟨gb, hgb⟩ : ∃ g, v3.heap.size = g := ⟨_, rfl⟩
  rw [hgb] at HK qxgb qygb qggb qHWgb
  try rw [hgb]
  clear hgb
  have x0 := HX.out.c0
  have x1 := HX.out.c1
  have x2 := HX.out.c2
  have y0 := HY.out.c0
  have y1 := HY.out.c1
  have g0 := HG.out.c0
  have g1 := HG.out.c1
  have k0 := HK.out.c0
  have k1 := HK.out.c1
  have k2 := HK.out.c2
  go_upto_region 6 with (go_at_call 41; with_reducible refine (HL3.out _ HW.out).mono ?_; rintro e v4 ⟨A4, c4, ws, kk, rfl, ho, hB4, hpp⟩; have HX := Lib.hid (Lt.below HX.out hB4); have x0 := HX.out.c0; have x1 := HX.out.c1; have x2 := HX.out.c2; have HY := Lib.hid (Rt.below HY.out hB4); have y0 := HY.out.c0; have y1 := HY.out.c1; have HG := Lib.hid (Rt.below HG.out hB4); have g0 := HG.out.c0; have g1 := HG.out.c1; have HK := Lib.hid (Lt.below HK.out hB4); have k0 := HK.out.c0; have k1 := HK.out.c1; have k2 := HK.out.c2; have HW : Hid (Below w.heap.size w _) := Lib.hid (below_step HW.out hB4); have HO := Lib.hid ho; clear ho; clear hB4)
  go_upto_region 8 with (fail)
  go_upto_region 9 with (go_at_call 24; with_reducible refine (HC1.out _ HW.out).mono ?_; rintro e v5 ⟨rfl, hB5⟩; have HX := Lib.hid (Lt.below HX.out hB5); have x0 := HX.out.c0; have x1 := HX.out.c1; have x2 := HX.out.c2; have HY := Lib.hid (Rt.below HY.out hB5); have y0 := HY.out.c0; have y1 := HY.out.c1; have HG := Lib.hid (Rt.below HG.out hB5); have g0 := HG.out.c0; have g1 := HG.out.c1; have HK := Lib.hid (Lt.below HK.out hB5); have k0 := HK.out.c0; have k1 := HK.out.c1; have k2 := HK.out.c2; have HO := Lib.hid (Out.below HO.out hB5); have HW : Hid (Below w.heap.size w _) := Lib.hid (below_step HW.out hB5); clear hB5)
  have qxgc : w.heap.size < v5.heap.size := HX.out.lt
  have qygc : (w.heap.size + 1) < v5.heap.size := HY.out.lt
  have qggc : ga < v5.heap.size := HG.out.lt
  have qkgc : gb < v5.heap.size := HK.out.lt
  have qHWgc : w.heap.size ≤ v5.heap.size := HW.out.size
  obtain ⟨X5, hX5, HW, HM, HX, HY, HG, HK, HO⟩ : ∃ X, (v5.alloc (.cells #[.int .i64 ln, .int .i64 lm] 34)) = X ∧ Hid (Below w.heap.size w X) ∧ Hid (Rt X v5.heap.size (.int .i64 ln) (.int .i64 lm)) ∧ Hid (Lt X w.heap.size (.int .i64 a) (.int .i64 b) (.int .i64 d)) ∧ Hid (Rt X (w.heap.size + 1) (.int .i64 n) (.int .i64 q)) ∧ Hid (Rt X ga (.int .i64 ln) (.int .i64 lm)) ∧ Hid (Lt X gb (.int .i64 la) (.int .i64 lb) (.int .i64 ld)) ∧ Hid (Out X A4 c4 ws) :=
    ⟨_, rfl, Lib.hid (Below.alloc HW.out HW.out.size _), Lib.hid (Rt.new _ _ _), Lib.hid (HX.out.alloc _), Lib.hid (HY.out.alloc _), Lib.hid (HG.out.alloc _), Lib.hid (HK.out.alloc _), Lib.hid (HO.out.below (Below.alloc (Below.refl _ _) (Nat.le_refl _) _))⟩
  rw [hX5]
  clear hX5
  obtain ⟨gc, hgc⟩ : ∃ g, v5.heap.size = g := ⟨_, rfl⟩
  rw [hgc] at HM qxgc qygc qggc qkgc qHWgc
  try rw [hgc]
  clear hgc
  have x0 := HX.out.c0
  have x1 := HX.out.c1
  have x2 := HX.out.c2
  have y0 := HY.out.c0
  have y1 := HY.out.c1
  have g0 := HG.out.c0
  have g1 := HG.out.c1
  have k0 := HK.out.c0
  have k1 := HK.out.c1
  have k2 := HK.out.c2
  have r0 := HM.out.c0
  have r1 := HM.out.c1
  go_upto_region 10 with (go_at_call 39; with_reducible refine (HP1.out _ A4 c4 ws kk HW.out HO.out.ints hpp.out.1).mono ?_; rintro e v6 ⟨rfl, hB6⟩; have HX := Lib.hid (Lt.below HX.out hB6); have x0 := HX.out.c0; have x1 := HX.out.c1; have x2 := HX.out.c2; have HY := Lib.hid (Rt.below HY.out hB6); have y0 := HY.out.c0; have y1 := HY.out.c1; have HG := Lib.hid (Rt.below HG.out hB6); have g0 := HG.out.c0; have g1 := HG.out.c1; have HK := Lib.hid (Lt.below HK.out hB6); have k0 := HK.out.c0; have k1 := HK.out.c1; have k2 := HK.out.c2; have HO := Lib.hid (Out.below HO.out hB6); have HM := Lib.hid (Rt.below HM.out hB6); have r0 := HM.out.c0; have r1 := HM.out.c1; have HW : Hid (Below w.heap.size w _) := Lib.hid (below_step HW.out hB6); rw [hpp.out.2.1, hpp.out.2.2]; clear hB6)
  clear HO
  go_upto_region 12 with (fail)
  go_upto_region 13 with (go_at_call 24; with_reducible refine (HC2.out _ HW.out).mono ?_; rintro e v7 ⟨rfl, hB7⟩; have HX := Lib.hid (Lt.below HX.out hB7); have x0 := HX.out.c0; have x1 := HX.out.c1; have x2 := HX.out.c2; have HY := Lib.hid (Rt.below HY.out hB7); have y0 := HY.out.c0; have y1 := HY.out.c1; have HG := Lib.hid (Rt.below HG.out hB7); have g0 := HG.out.c0; have g1 := HG.out.c1; have HK := Lib.hid (Lt.below HK.out hB7); have k0 := HK.out.c0; have k1 := HK.out.c1; have k2 := HK.out.c2; have HM := Lib.hid (Rt.below HM.out hB7); have r0 := HM.out.c0; have r1 := HM.out.c1; have HW : Hid (Below w.heap.size w _) := Lib.hid (below_step HW.out hB7); clear hB7)
  have qxgd : w.heap.size < v7.heap.size := HX.out.lt
  have qygd : (w.heap.size + 1) < v7.heap.size := HY.out.lt
  have qggd : ga < v7.heap.size := HG.out.lt
  have qkgd : gb < v7.heap.size := HK.out.lt
  have qrgd : gc < v7.heap.size := HM.out.lt
  have qHWgd : w.heap.size ≤ v7.heap.size := HW.out.size
  obtain ⟨X7, hX7, HW, HN, HX, HY, HG, HK, HM⟩ : ∃ X, (v7.alloc (.cells #[.int .i64 on, .int .i64 om] 34)) = X ∧ Hid (Below w.heap.size w X) ∧ Hid (Rt X v7.heap.size (.int .i64 on) (.int .i64 om)) ∧ Hid (Lt X w.heap.size (.int .i64 a) (.int .i64 b) (.int .i64 d)) ∧ Hid (Rt X (w.heap.size + 1) (.int .i64 n) (.int .i64 q)) ∧ Hid (Rt X ga (.int .i64 ln) (.int .i64 lm)) ∧ Hid (Lt X gb (.int .i64 la) (.int .i64 lb) (.int .i64 ld)) ∧ Hid (Rt X gc (.int .i64 ln) (.int .i64 lm)) :=
    ⟨_, rfl, Lib.hid (Below.alloc HW.out HW.out.size _), Lib.hid (Rt.new _ _ _), Lib.hid (HX.out.alloc _), Lib.hid (HY.out.alloc _), Lib.hid (HG.out.alloc _), Lib.hid (HK.out.alloc _), Lib.hid (HM.out.alloc _)⟩
  rw [hX7]
  clear hX7
  obtain ⟨gd, hgd⟩ : ∃ g, v7.heap.size = g := ⟨_, rfl⟩
  rw [hgd] at HN qxgd qygd qggd qkgd qrgd qHWgd
  try rw [hgd]
  clear hgd
  have x0 := HX.out.c0
  have x1 := HX.out.c1
  have x2 := HX.out.c2
  have y0 := HY.out.c0
  have y1 := HY.out.c1
  have g0 := HG.out.c0
  have g1 := HG.out.c1
  have k0 := HK.out.c0
  have k1 := HK.out.c1
  have k2 := HK.out.c2
  have r0 := HM.out.c0
  have r1 := HM.out.c1
  have s0 := HN.out.c0
  have s1 := HN.out.c1
  go_upto_region 15 with (fail)
  go_upto_region 16 with (go_at_call 39; with_reducible refine (HP2.out _ HW.out).mono ?_; rintro e v9 ⟨rfl, hB9⟩; have HX := Lib.hid (Lt.below HX.out hB9); have x0 := HX.out.c0; have x1 := HX.out.c1; have x2 := HX.out.c2; have HY := Lib.hid (Rt.below HY.out hB9); have y0 := HY.out.c0; have y1 := HY.out.c1; have HG := Lib.hid (Rt.below HG.out hB9); have g0 := HG.out.c0; have g1 := HG.out.c1; have HK := Lib.hid (Lt.below HK.out hB9); have k0 := HK.out.c0; have k1 := HK.out.c1; have k2 := HK.out.c2; have HM := Lib.hid (Rt.below HM.out hB9); have r0 := HM.out.c0; have r1 := HM.out.c1; have HN := Lib.hid (Rt.below HN.out hB9); have s0 := HN.out.c0; have s1 := HN.out.c1; have HW : Hid (Below w.heap.size w _) := Lib.hid (below_step HW.out hB9); clear hB9)
  rcases hpe with rfl | rfl
  all_goals
    go_wp2_with (first
      | (go_at_call 53; with_reducible refine (HS2.out _).mono ?_; rintro e v10 ⟨rfl, hB10⟩; have HX := Lib.hid (Lt.below HX.out hB10); have x0 := HX.out.c0; have x1 := HX.out.c1; have x2 := HX.out.c2; have HY := Lib.hid (Rt.below HY.out hB10); have y0 := HY.out.c0; have y1 := HY.out.c1; have HG := Lib.hid (Rt.below HG.out hB10); have g0 := HG.out.c0; have g1 := HG.out.c1; have HK := Lib.hid (Lt.below HK.out hB10); have k0 := HK.out.c0; have k1 := HK.out.c1; have k2 := HK.out.c2; have HM := Lib.hid (Rt.below HM.out hB10); have r0 := HM.out.c0; have r1 := HM.out.c1; have HN := Lib.hid (Rt.below HN.out hB10); have s0 := HN.out.c0; have s1 := HN.out.c1; have HW : Hid (Below w.heap.size w _) := Lib.hid (below_step HW.out hB10); clear hB10)
      | (go_at_call 16; refine (awake_any _).mono ?_; rintro e wz ⟨rfl, hBz⟩; have HW : Hid (Below w.heap.size w _) := Lib.hid (below_step HW.out hBz); clear hBz)
      | fail)
    go_ret
    exact ⟨rfl, HW.out⟩

set_option maxRecDepth 100000 in
set_option maxHeartbeats 16000000 in
theorem costs_no0 (ms : List (Int × Int)) (A : Option Addr) (cap : Nat) (a b d : Int) (vs : List Int) (B : Option Addr) (cb : Nat) (m n q : Int) (w : World) (ln lm la lb ld on om pe : Int)
    (hLo : ∀ W : World, Calls Try.prog 15 #[.slice A ms.length cap] W fun e w' => e = .returned (.bool false) ∧ W = w')
    (hw : decide (60 < (vs.length : Int)) = false)
    (hV : ∀ W, Below w.heap.size w W → Calls Try.prog 20 #[.slice A ms.length cap] W fun e w' => e = .returned (.bool true) ∧ Below W.heap.size W w')
    (hL1 : ∀ W, Below w.heap.size w W → Calls Try.prog 31 #[.slice A ms.length cap] W fun e w' => e = .returned (.tuple #[.agg #[.int .i64 ln, .int .i64 lm], .int .i64 0]) ∧ Below W.heap.size W w')
    (hL2 : ∀ W, Below w.heap.size w W → Calls Try.prog 37 #[.slice A ms.length cap] W fun e w' => e = .returned (.tuple #[.agg #[.int .i64 la, .int .i64 lb, .int .i64 ld], .int .i64 0]) ∧ Below W.heap.size W w')
    (hL3 : ∀ W, Below w.heap.size w W → Calls Try.prog 41 #[.slice A ms.length cap] W fun e w' => ∃ (A' : Option Addr) (c' : Nat) (ws : List Int) (k : Int), e = .returned (.tuple #[.slice A' ws.length c', .int .i64 k, .int .i64 0]) ∧ Out w' A' c' ws ∧ Below W.heap.size W w' ∧ Hid (ws.length ≤ 1000 ∧ prB ms ws k ln lm = true ∧ prE ms ws k ln lm = 0))
    (hbd : (0 ≤ ln ∧ ln ≤ 1000000000) ∧ (1 ≤ lm ∧ lm ≤ 10000))
    (hC1 : ∀ W, Below w.heap.size w W → Calls Try.prog 24 #[.slice A ms.length cap, .agg #[.int .i64 la, .int .i64 lb, .int .i64 ld]] W fun e w' => e = .returned (.tuple #[.agg #[.int .i64 ln, .int .i64 lm], .int .i64 0]) ∧ Below W.heap.size W w')
    (hP1 : ∀ W A' c' (ws : List Int) (k : Int), Below w.heap.size w W → Ints W A' ws → ws.length ≤ 1000 → Calls Try.prog 39 #[.slice A ms.length cap, .slice A' ws.length c', .int .i64 k, .agg #[.int .i64 ln, .int .i64 lm]] W fun e w' => e = .returned (.tuple #[.bool (prB ms ws k ln lm), .int .i64 (prE ms ws k ln lm)]) ∧ Below W.heap.size W w')
    (hC2 : ∀ W, Below w.heap.size w W → Calls Try.prog 24 #[.slice A ms.length cap, .agg #[.int .i64 a, .int .i64 b, .int .i64 d]] W fun e w' => e = .returned (.tuple #[.agg #[.int .i64 on, .int .i64 om], .int .i64 51]) ∧ Below W.heap.size W w')
    (hP2 : ∀ W, Below w.heap.size w W → Calls Try.prog 39 #[.slice A ms.length cap, .slice B vs.length cb, .int .i64 m, .agg #[.int .i64 n, .int .i64 q]] W fun e w' => e = .returned (.tuple #[.bool false, .int .i64 pe]) ∧ Below W.heap.size W w')
    (hpe : pe = 0 ∨ pe = 2) :
    Calls Try.prog 9 #[.slice A ms.length cap, .agg #[.int .i64 a, .int .i64 b, .int .i64 d], .slice B vs.length cb, .int .i64 m, .agg #[.int .i64 n, .int .i64 q]] w fun e w' => e = .returned (.bool true) ∧ Below w.heap.size w w' := by
  have HLo := Lib.hid hLo
  have HV := Lib.hid hV
  have HL1 := Lib.hid hL1
  have HL2 := Lib.hid hL2
  have HL3 := Lib.hid hL3
  have HC1 := Lib.hid hC1
  have HP1 := Lib.hid hP1
  have HC2 := Lib.hid hC2
  have HP2 := Lib.hid hP2
  have t1 := hw
  have z1 : decide (lm < 1) = false := decide_eq_false (by omega)
  have z2 : decide (10000 < lm) = false := decide_eq_false (by omega)
  have z3 : decide (ln < 0) = false := decide_eq_false (by omega)
  have z4 : decide (1000000000 < ln) = false := decide_eq_false (by omega)
  clear hLo hV hL1 hL2 hL3 hC1 hP1 hC2 hP2 hbd
  obtain ⟨W0, hW0, HW, HX, HY⟩ : ∃ W0, W0 = (w.alloc (.cells #[.int .i64 a, .int .i64 b, .int .i64 d] 24)).alloc (.cells #[.int .i64 n, .int .i64 q] 34) ∧ Hid (Below w.heap.size w W0) ∧ Hid (Lt W0 w.heap.size (.int .i64 a) (.int .i64 b) (.int .i64 d)) ∧ Hid (Rt W0 (w.heap.size + 1) (.int .i64 n) (.int .i64 q)) :=
    ⟨_, rfl, Lib.hid (((Below.refl _ _).alloc (Nat.le_refl _) _).alloc (by simp) _), Lib.hid ((Lt.new _ _ _ _).alloc _), Lib.hid (by have := Rt.new (w.alloc (.cells #[.int .i64 a, .int .i64 b, .int .i64 d] 24)) (.int .i64 n) (.int .i64 q); simpa using this)⟩
  have x0 := HX.out.c0
  have x1 := HX.out.c1
  have x2 := HX.out.c2
  have y0 := HY.out.c0
  have y1 := HY.out.c1
  go_enter Try.func9, Try.ntmps9
  go_upto_region 1 with (fail)
  rw [← hW0]
  clear hW0
  go_upto_region 3 with (first
    | (go_at_call 15; with_reducible refine (HLo.out _).mono ?_; rintro e w' ⟨rfl, rfl⟩)
    | (go_at_call 20; with_reducible refine (HV.out _ HW.out).mono ?_; rintro e v1 ⟨rfl, hB1⟩; have HX := Lib.hid (Lt.below HX.out hB1); have x0 := HX.out.c0; have x1 := HX.out.c1; have x2 := HX.out.c2; have HY := Lib.hid (Rt.below HY.out hB1); have y0 := HY.out.c0; have y1 := HY.out.c1; have HW : Hid (Below w.heap.size w _) := Lib.hid (below_step HW.out hB1); clear hB1)
    | fail)
  go_upto_region 4 with (go_at_call 31; with_reducible refine (HL1.out _ HW.out).mono ?_; rintro e v2 ⟨rfl, hB2⟩; have HX := Lib.hid (Lt.below HX.out hB2); have x0 := HX.out.c0; have x1 := HX.out.c1; have x2 := HX.out.c2; have HY := Lib.hid (Rt.below HY.out hB2); have y0 := HY.out.c0; have y1 := HY.out.c1; have HW : Hid (Below w.heap.size w _) := Lib.hid (below_step HW.out hB2); clear hB2)
  have qxga : w.heap.size < v2.heap.size := HX.out.lt
  have qyga : (w.heap.size + 1) < v2.heap.size := HY.out.lt
  have qHWga : w.heap.size ≤ v2.heap.size := HW.out.size
  obtain ⟨X2, hX2, HW, HG, HX, HY⟩ : ∃ X, (v2.alloc (.cells #[.int .i64 ln, .int .i64 lm] 34)) = X ∧ Hid (Below w.heap.size w X) ∧ Hid (Rt X v2.heap.size (.int .i64 ln) (.int .i64 lm)) ∧ Hid (Lt X w.heap.size (.int .i64 a) (.int .i64 b) (.int .i64 d)) ∧ Hid (Rt X (w.heap.size + 1) (.int .i64 n) (.int .i64 q)) :=
    ⟨_, rfl, Lib.hid (Below.alloc HW.out HW.out.size _), Lib.hid (Rt.new _ _ _), Lib.hid (HX.out.alloc _), Lib.hid (HY.out.alloc _)⟩
  rw [hX2]
  clear hX2
  obtain ⟨ga, hga⟩ : ∃ g, v2.heap.size = g := ⟨_, rfl⟩
  rw [hga] at HG qxga qyga qHWga
  try rw [hga]
  clear hga
  have x0 := HX.out.c0
  have x1 := HX.out.c1
  have x2 := HX.out.c2
  have y0 := HY.out.c0
  have y1 := HY.out.c1
  have g0 := HG.out.c0
  have g1 := HG.out.c1
  go_upto_region 5 with (go_at_call 37; with_reducible refine (HL2.out _ HW.out).mono ?_; rintro e v3 ⟨rfl, hB3⟩; have HX := Lib.hid (Lt.below HX.out hB3); have x0 := HX.out.c0; have x1 := HX.out.c1; have x2 := HX.out.c2; have HY := Lib.hid (Rt.below HY.out hB3); have y0 := HY.out.c0; have y1 := HY.out.c1; have HG := Lib.hid (Rt.below HG.out hB3); have g0 := HG.out.c0; have g1 := HG.out.c1; have HW : Hid (Below w.heap.size w _) := Lib.hid (below_step HW.out hB3); clear hB3)
  have qxgb : w.heap.size < v3.heap.size := HX.out.lt
  have qygb : (w.heap.size + 1) < v3.heap.size := HY.out.lt
  have qggb : ga < v3.heap.size := HG.out.lt
  have qHWgb : w.heap.size ≤ v3.heap.size := HW.out.size
  obtain ⟨X3, hX3, HW, HK, HX, HY, HG⟩ : ∃ X, (v3.alloc (.cells #[.int .i64 la, .int .i64 lb, .int .i64 ld] 24)) = X ∧ Hid (Below w.heap.size w X) ∧ Hid (Lt X v3.heap.size (.int .i64 la) (.int .i64 lb) (.int .i64 ld)) ∧ Hid (Lt X w.heap.size (.int .i64 a) (.int .i64 b) (.int .i64 d)) ∧ Hid (Rt X (w.heap.size + 1) (.int .i64 n) (.int .i64 q)) ∧ Hid (Rt X ga (.int .i64 ln) (.int .i64 lm)) :=
    ⟨_, rfl, Lib.hid (Below.alloc HW.out HW.out.size _), Lib.hid (Lt.new _ _ _ _), Lib.hid (HX.out.alloc _), Lib.hid (HY.out.alloc _), Lib.hid (HG.out.alloc _)⟩
  rw [hX3]
  clear hX3
  obtain ⟨gb, hgb⟩ : ∃ g, v3.heap.size = g := ⟨_, rfl⟩
  rw [hgb] at HK qxgb qygb qggb qHWgb
  try rw [hgb]
  clear hgb
  have x0 := HX.out.c0
  have x1 := HX.out.c1
  have x2 := HX.out.c2
  have y0 := HY.out.c0
  have y1 := HY.out.c1
  have g0 := HG.out.c0
  have g1 := HG.out.c1
  have k0 := HK.out.c0
  have k1 := HK.out.c1
  have k2 := HK.out.c2
  go_upto_region 6 with (go_at_call 41; with_reducible refine (HL3.out _ HW.out).mono ?_; rintro e v4 ⟨A4, c4, ws, kk, rfl, ho, hB4, hpp⟩; have HX := Lib.hid (Lt.below HX.out hB4); have x0 := HX.out.c0; have x1 := HX.out.c1; have x2 := HX.out.c2; have HY := Lib.hid (Rt.below HY.out hB4); have y0 := HY.out.c0; have y1 := HY.out.c1; have HG := Lib.hid (Rt.below HG.out hB4); have g0 := HG.out.c0; have g1 := HG.out.c1; have HK := Lib.hid (Lt.below HK.out hB4); have k0 := HK.out.c0; have k1 := HK.out.c1; have k2 := HK.out.c2; have HW : Hid (Below w.heap.size w _) := Lib.hid (below_step HW.out hB4); have HO := Lib.hid ho; clear ho; clear hB4)
  go_upto_region 8 with (fail)
  go_upto_region 9 with (go_at_call 24; with_reducible refine (HC1.out _ HW.out).mono ?_; rintro e v5 ⟨rfl, hB5⟩; have HX := Lib.hid (Lt.below HX.out hB5); have x0 := HX.out.c0; have x1 := HX.out.c1; have x2 := HX.out.c2; have HY := Lib.hid (Rt.below HY.out hB5); have y0 := HY.out.c0; have y1 := HY.out.c1; have HG := Lib.hid (Rt.below HG.out hB5); have g0 := HG.out.c0; have g1 := HG.out.c1; have HK := Lib.hid (Lt.below HK.out hB5); have k0 := HK.out.c0; have k1 := HK.out.c1; have k2 := HK.out.c2; have HO := Lib.hid (Out.below HO.out hB5); have HW : Hid (Below w.heap.size w _) := Lib.hid (below_step HW.out hB5); clear hB5)
  have qxgc : w.heap.size < v5.heap.size := HX.out.lt
  have qygc : (w.heap.size + 1) < v5.heap.size := HY.out.lt
  have qggc : ga < v5.heap.size := HG.out.lt
  have qkgc : gb < v5.heap.size := HK.out.lt
  have qHWgc : w.heap.size ≤ v5.heap.size := HW.out.size
  obtain ⟨X5, hX5, HW, HM, HX, HY, HG, HK, HO⟩ : ∃ X, (v5.alloc (.cells #[.int .i64 ln, .int .i64 lm] 34)) = X ∧ Hid (Below w.heap.size w X) ∧ Hid (Rt X v5.heap.size (.int .i64 ln) (.int .i64 lm)) ∧ Hid (Lt X w.heap.size (.int .i64 a) (.int .i64 b) (.int .i64 d)) ∧ Hid (Rt X (w.heap.size + 1) (.int .i64 n) (.int .i64 q)) ∧ Hid (Rt X ga (.int .i64 ln) (.int .i64 lm)) ∧ Hid (Lt X gb (.int .i64 la) (.int .i64 lb) (.int .i64 ld)) ∧ Hid (Out X A4 c4 ws) :=
    ⟨_, rfl, Lib.hid (Below.alloc HW.out HW.out.size _), Lib.hid (Rt.new _ _ _), Lib.hid (HX.out.alloc _), Lib.hid (HY.out.alloc _), Lib.hid (HG.out.alloc _), Lib.hid (HK.out.alloc _), Lib.hid (HO.out.below (Below.alloc (Below.refl _ _) (Nat.le_refl _) _))⟩
  rw [hX5]
  clear hX5
  obtain ⟨gc, hgc⟩ : ∃ g, v5.heap.size = g := ⟨_, rfl⟩
  rw [hgc] at HM qxgc qygc qggc qkgc qHWgc
  try rw [hgc]
  clear hgc
  have x0 := HX.out.c0
  have x1 := HX.out.c1
  have x2 := HX.out.c2
  have y0 := HY.out.c0
  have y1 := HY.out.c1
  have g0 := HG.out.c0
  have g1 := HG.out.c1
  have k0 := HK.out.c0
  have k1 := HK.out.c1
  have k2 := HK.out.c2
  have r0 := HM.out.c0
  have r1 := HM.out.c1
  go_upto_region 10 with (go_at_call 39; with_reducible refine (HP1.out _ A4 c4 ws kk HW.out HO.out.ints hpp.out.1).mono ?_; rintro e v6 ⟨rfl, hB6⟩; have HX := Lib.hid (Lt.below HX.out hB6); have x0 := HX.out.c0; have x1 := HX.out.c1; have x2 := HX.out.c2; have HY := Lib.hid (Rt.below HY.out hB6); have y0 := HY.out.c0; have y1 := HY.out.c1; have HG := Lib.hid (Rt.below HG.out hB6); have g0 := HG.out.c0; have g1 := HG.out.c1; have HK := Lib.hid (Lt.below HK.out hB6); have k0 := HK.out.c0; have k1 := HK.out.c1; have k2 := HK.out.c2; have HO := Lib.hid (Out.below HO.out hB6); have HM := Lib.hid (Rt.below HM.out hB6); have r0 := HM.out.c0; have r1 := HM.out.c1; have HW : Hid (Below w.heap.size w _) := Lib.hid (below_step HW.out hB6); rw [hpp.out.2.1, hpp.out.2.2]; clear hB6)
  clear HO
  go_upto_region 12 with (fail)
  go_upto_region 13 with (go_at_call 24; with_reducible refine (HC2.out _ HW.out).mono ?_; rintro e v7 ⟨rfl, hB7⟩; have HX := Lib.hid (Lt.below HX.out hB7); have x0 := HX.out.c0; have x1 := HX.out.c1; have x2 := HX.out.c2; have HY := Lib.hid (Rt.below HY.out hB7); have y0 := HY.out.c0; have y1 := HY.out.c1; have HG := Lib.hid (Rt.below HG.out hB7); have g0 := HG.out.c0; have g1 := HG.out.c1; have HK := Lib.hid (Lt.below HK.out hB7); have k0 := HK.out.c0; have k1 := HK.out.c1; have k2 := HK.out.c2; have HM := Lib.hid (Rt.below HM.out hB7); have r0 := HM.out.c0; have r1 := HM.out.c1; have HW : Hid (Below w.heap.size w _) := Lib.hid (below_step HW.out hB7); clear hB7)
  have qxgd : w.heap.size < v7.heap.size := HX.out.lt
  have qygd : (w.heap.size + 1) < v7.heap.size := HY.out.lt
  have qggd : ga < v7.heap.size := HG.out.lt
  have qkgd : gb < v7.heap.size := HK.out.lt
  have qrgd : gc < v7.heap.size := HM.out.lt
  have qHWgd : w.heap.size ≤ v7.heap.size := HW.out.size
  obtain ⟨X7, hX7, HW, HN, HX, HY, HG, HK, HM⟩ : ∃ X, (v7.alloc (.cells #[.int .i64 on, .int .i64 om] 34)) = X ∧ Hid (Below w.heap.size w X) ∧ Hid (Rt X v7.heap.size (.int .i64 on) (.int .i64 om)) ∧ Hid (Lt X w.heap.size (.int .i64 a) (.int .i64 b) (.int .i64 d)) ∧ Hid (Rt X (w.heap.size + 1) (.int .i64 n) (.int .i64 q)) ∧ Hid (Rt X ga (.int .i64 ln) (.int .i64 lm)) ∧ Hid (Lt X gb (.int .i64 la) (.int .i64 lb) (.int .i64 ld)) ∧ Hid (Rt X gc (.int .i64 ln) (.int .i64 lm)) :=
    ⟨_, rfl, Lib.hid (Below.alloc HW.out HW.out.size _), Lib.hid (Rt.new _ _ _), Lib.hid (HX.out.alloc _), Lib.hid (HY.out.alloc _), Lib.hid (HG.out.alloc _), Lib.hid (HK.out.alloc _), Lib.hid (HM.out.alloc _)⟩
  rw [hX7]
  clear hX7
  obtain ⟨gd, hgd⟩ : ∃ g, v7.heap.size = g := ⟨_, rfl⟩
  rw [hgd] at HN qxgd qygd qggd qkgd qrgd qHWgd
  try rw [hgd]
  clear hgd
  have x0 := HX.out.c0
  have x1 := HX.out.c1
  have x2 := HX.out.c2
  have y0 := HY.out.c0
  have y1 := HY.out.c1
  have g0 := HG.out.c0
  have g1 := HG.out.c1
  have k0 := HK.out.c0
  have k1 := HK.out.c1
  have k2 := HK.out.c2
  have r0 := HM.out.c0
  have r1 := HM.out.c1
  have s0 := HN.out.c0
  have s1 := HN.out.c1
  go_upto_region 15 with (fail)
  go_upto_region 16 with (go_at_call 39; with_reducible refine (HP2.out _ HW.out).mono ?_; rintro e v9 ⟨rfl, hB9⟩; have HX := Lib.hid (Lt.below HX.out hB9); have x0 := HX.out.c0; have x1 := HX.out.c1; have x2 := HX.out.c2; have HY := Lib.hid (Rt.below HY.out hB9); have y0 := HY.out.c0; have y1 := HY.out.c1; have HG := Lib.hid (Rt.below HG.out hB9); have g0 := HG.out.c0; have g1 := HG.out.c1; have HK := Lib.hid (Lt.below HK.out hB9); have k0 := HK.out.c0; have k1 := HK.out.c1; have k2 := HK.out.c2; have HM := Lib.hid (Rt.below HM.out hB9); have r0 := HM.out.c0; have r1 := HM.out.c1; have HN := Lib.hid (Rt.below HN.out hB9); have s0 := HN.out.c0; have s1 := HN.out.c1; have HW : Hid (Below w.heap.size w _) := Lib.hid (below_step HW.out hB9); clear hB9)
  rcases hpe with rfl | rfl
  all_goals
    go_wp2_with (first
      | (go_at_call 16; refine (awake_any _).mono ?_; rintro e wz ⟨rfl, hBz⟩; have HW : Hid (Below w.heap.size w _) := Lib.hid (below_step HW.out hBz); clear hBz)
      | fail)
    go_ret
    exact ⟨rfl, HW.out⟩

theorem trackCosts_walk (ms : List (Int × Int)) (A : Option Addr) (cap : Nat) (a b d : Int) (vs : List Int) (B : Option Addr) (cb : Nat) (m n q : Int) (w : World) (hA : Marks w A ms) (hc : ms.length ≤ cap) (hc0 : cap ≤ maxLen) (_ : (Lit.int .i64 a).wf = true) (_ : (Lit.int .i64 b).wf = true) (_ : (Lit.int .i64 d).wf = true) (hB : Ints w B vs) (hd : vs.length ≤ cb) (hd0 : cb ≤ maxLen) (_ : (Lit.int .i64 m).wf = true) (_ : (Lit.int .i64 n).wf = true) (_ : (Lit.int .i64 q).wf = true) :
    Calls Try.prog 9 #[.slice A ms.length cap, .agg #[.int .i64 a, .int .i64 b, .int .i64 d], .slice B vs.length cb, .int .i64 m, .agg #[.int .i64 n, .int .i64 q]] w fun e w' => e = .returned (.bool true) ∧ Below w.heap.size w w' := by
  have H : Clk w A cap ms := ⟨hA, hc, hc0⟩
  have hlo := fun W => lawLong_any ms A cap W
  cases hm : decide (60 < ms.length) with
  | true => exact costs_long ms A cap a b d vs B cb m n q w (fun W => by have := hlo W; rwa [hm] at this)
  | false =>
    have hlo' : ∀ W : World, Calls Try.prog 15 #[.slice A ms.length cap] W fun e w' => e = .returned (.bool false) ∧ W = w' := fun W => by have := hlo W; rwa [hm] at this
    cases hw : decide (60 < (vs.length : Int)) with
    | true => exact costs_wide ms A cap a b d vs B cb m n q w hlo' hw
    | false =>
      have hvl : vs.length ≤ 60 := by have := of_decide_eq_false hw; omega
      have hval : ∀ W, Below w.heap.size w W → Calls Try.prog 20 #[.slice A ms.length cap] W fun e w' => e = .returned (.bool (viP ms)) ∧ Below W.heap.size W w' := fun W hW => refValid_any ms A cap W (H.below hW).marks H.len
      cases hv : viP ms with
      | false => exact costs_inv ms A cap a b d vs B cb m n q w hlo' hw (fun W hW => by have := hval W hW; rwa [hv] at this)
      | true =>
        have hval' : ∀ W, Below w.heap.size w W → Calls Try.prog 20 #[.slice A ms.length cap] W fun e w' => e = .returned (.bool true) ∧ Below W.heap.size W w' := fun W hW => by have := hval W hW; rwa [hv] at this
        have hve : viE ms = 0 := by rw [viE, hv]; rfl
        have hsm := lea_small hv
        obtain ⟨hck, hcv⟩ := che_cos hv
        have hdp := (che_small hv).2.1.1
        have hCert : ∀ ws k, Cert ms ws k (cheL ms).1 (cheL ms).2.1 (cheL ms).2.2 → prB ms ws k (cosT ms (cheL ms)).1 (cosT ms (cheL ms)).2 = true ∧ prE ms ws k (cosT ms (cheL ms)).1 (cosT ms (cheL ms)).2 = 0 := fun ws k hC => cert_prove hv hC (by omega) (by have := hsm.2.2; exact (show (cosT ms (cheL ms)).2 ≤ 10000 by omega)) (show 0 ≤ (cosT ms (cheL ms)).1 ∧ (cosT ms (cheL ms)).1 ≤ 1000000000 by omega)
        have hLea : ∀ W, Below w.heap.size w W → Calls Try.prog 31 #[.slice A ms.length cap] W fun e w' => e = .returned (.tuple #[.agg #[.int .i64 (cosT ms (cheL ms)).1, .int .i64 (cosT ms (cheL ms)).2], .int .i64 0]) ∧ Below W.heap.size W w' := fun W hW => by
          have := least_any ms A cap W (H.below hW)
          rw [hve, show leaV ms = cosT ms (cheL ms) by rw [leaV, hv]; rfl] at this
          exact this
        have hLin : ∀ W, Below w.heap.size w W → Calls Try.prog 37 #[.slice A ms.length cap] W fun e w' => e = .returned (.tuple #[.agg #[.int .i64 (cheL ms).1, .int .i64 (cheL ms).2.1, .int .i64 (cheL ms).2.2], .int .i64 0]) ∧ Below W.heap.size W w' := fun W hW => by
          have := line_any ms A cap W (H.below hW)
          rw [hve, if_pos hv] at this
          exact this
        have hWei : ∀ W, Below w.heap.size w W → Calls Try.prog 41 #[.slice A ms.length cap] W fun e w' => ∃ (A' : Option Addr) (c' : Nat) (ws : List Int) (k : Int), e = .returned (.tuple #[.slice A' ws.length c', .int .i64 k, .int .i64 0]) ∧ Out w' A' c' ws ∧ Below W.heap.size W w' ∧ Hid (ws.length ≤ 1000 ∧ prB ms ws k (cosT ms (cheL ms)).1 (cosT ms (cheL ms)).2 = true ∧ prE ms ws k (cosT ms (cheL ms)).1 (cosT ms (cheL ms)).2 = 0) := fun W hW =>
          (weights_yes ms A cap W (H.below hW) hv).mono fun e w' ⟨A', c', ws, k, h1, h2, h3, h4⟩ => ⟨A', c', ws, k, h1, h2, h3, Lib.hid ⟨by rw [h4.out.len]; have := (vi_parts hv).1.2; omega, hCert ws k h4.out⟩⟩
        have hCo1 : ∀ W, Below w.heap.size w W → Calls Try.prog 24 #[.slice A ms.length cap, .agg #[.int .i64 (cheL ms).1, .int .i64 (cheL ms).2.1, .int .i64 (cheL ms).2.2]] W fun e w' => e = .returned (.tuple #[.agg #[.int .i64 (cosT ms (cheL ms)).1, .int .i64 (cosT ms (cheL ms)).2], .int .i64 0]) ∧ Below W.heap.size W w' := fun W hW => by
          have := cosRTold_any ms A cap (cheL ms).1 (cheL ms).2.1 (cheL ms).2.2 W (H.below hW)
          rw [hcv, hck] at this
          exact this
        have hPr1 : ∀ W A' c' (ws : List Int) (k : Int), Below w.heap.size w W → Ints W A' ws → ws.length ≤ 1000 → Calls Try.prog 39 #[.slice A ms.length cap, .slice A' ws.length c', .int .i64 k, .agg #[.int .i64 (cosT ms (cheL ms)).1, .int .i64 (cosT ms (cheL ms)).2]] W fun e w' => e = .returned (.tuple #[.bool (prB ms ws k (cosT ms (cheL ms)).1 (cosT ms (cheL ms)).2), .int .i64 (prE ms ws k (cosT ms (cheL ms)).1 (cosT ms (cheL ms)).2)]) ∧ Below W.heap.size W w' := fun W A' c' ws k hW hI hl => proves_any ms ws A A' cap c' k _ _ W (H.below hW) hI hl
        have hPr2 : ∀ W, Below w.heap.size w W → Calls Try.prog 39 #[.slice A ms.length cap, .slice B vs.length cb, .int .i64 m, .agg #[.int .i64 n, .int .i64 q]] W fun e w' => e = .returned (.tuple #[.bool (prB ms vs m n q), .int .i64 (prE ms vs m n q)]) ∧ Below W.heap.size W w' := fun W hW => proves_any ms vs A B cap cb m n q W (H.below hW) (hB.below hW) (by omega)
        have hpe : prE ms vs m n q = 0 ∨ prE ms vs m n q = 2 := by rw [prE, hv]; cases prA ms vs m n q <;> simp
        have hCo2 : ∀ W, Below w.heap.size w W → Calls Try.prog 24 #[.slice A ms.length cap, .agg #[.int .i64 a, .int .i64 b, .int .i64 d]] W fun e w' => e = .returned (.tuple #[.agg #[.int .i64 (cosRV ms a b d).1, .int .i64 (cosRV ms a b d).2], .int .i64 (ckE ms a b d)]) ∧ Below W.heap.size W w' := fun W hW => cosRTold_any ms A cap a b d W (H.below hW)
        have hless2 : prB ms vs m n q = true → ∀ W : World, Calls Try.prog 53 #[.agg #[.int .i64 (cosT ms (cheL ms)).1, .int .i64 (cosT ms (cheL ms)).2], .agg #[.int .i64 n, .int .i64 q]] W fun e w' => e = .returned (.bool false) ∧ Below W.heap.size W w' := fun hp W => by
          have h2 := low_cross2 (show 0 < (cheL ms).2.2 by omega) (weak_prove (a := (cheL ms).1) (b := (cheL ms).2.1) hp (show 0 < (cheL ms).2.2 by omega))
          have hA : prA ms vs m n q = true := by simp only [prB, Bool.and_eq_true] at hp; exact hp.2.1
          obtain ⟨_, _, p3, p4, _⟩ := pr_parts hA
          have b1 := mulBox (X := 9600000) (Y := 10000) (show -9600000 ≤ (cosT ms (cheL ms)).1 by omega) hsm.1.2 (show -10000 ≤ q by omega) p3.2
          have b2 := mulBox (X := 1000000000) (Y := 200) (show -1000000000 ≤ n by omega) p4.2 (show -200 ≤ (cosT ms (cheL ms)).2 by omega) hsm.2.2
          have := refLess_any (cosT ms (cheL ms)).1 (cosT ms (cheL ms)).2 n q W (by omega) (by omega)
          rw [decide_eq_false (by exact Int.not_lt.2 h2)] at this
          exact this
        cases hl : lnB a b d with
        | true =>
          have hck2 : ckE ms a b d = 0 := by rw [ckE, hv, hl]; rfl
          have hLn := ln_of hl
          have hln : LnB a b d := hLn
          have hd1 : 1 ≤ d ∧ d ≤ 100000 := hLn.2.2
          have hcv2 : cosRV ms a b d = cosT ms (a, b, d) := by rw [cosRV, if_pos hck2, cosT]
          have hCo2' : ∀ W, Below w.heap.size w W → Calls Try.prog 24 #[.slice A ms.length cap, .agg #[.int .i64 a, .int .i64 b, .int .i64 d]] W fun e w' => e = .returned (.tuple #[.agg #[.int .i64 (cosT ms (a, b, d)).1, .int .i64 (cosT ms (a, b, d)).2], .int .i64 0]) ∧ Below W.heap.size W w' := fun W hW => by
            have := hCo2 W hW
            rw [hcv2, hck2] at this
            exact this
          obtain ⟨ws, k, hC⟩ : ∃ ws k, Cert ms ws k (cheL ms).1 (cheL ms).2.1 (cheL ms).2.2 := cert_there hv
          have hwc := weak_cost hC (show 0 < (cheL ms).2.2 by omega) a b d (by omega)
          have hle := le_low (show 0 < (cheL ms).2.2 by omega) (show 0 < d by omega) hwc
          have hless1 : ∀ W : World, Calls Try.prog 53 #[.agg #[.int .i64 (cosT ms (a, b, d)).1, .int .i64 (cosT ms (a, b, d)).2], .agg #[.int .i64 (cosT ms (cheL ms)).1, .int .i64 (cosT ms (cheL ms)).2]] W fun e w' => e = .returned (.bool false) ∧ Below W.heap.size W w' := fun W => by
            have x1 := cos_cross hv (a, b, d) (cheL ms) hLn (che_ln hv)
            have x2 := cos_cross hv (cheL ms) (a, b, d) (che_ln hv) hLn
            have := refLess_any (cosT ms (a, b, d)).1 (cosT ms (a, b, d)).2 (cosT ms (cheL ms)).1 (cosT ms (cheL ms)).2 W (by omega) (by omega)
            rw [decide_eq_false (by exact Int.not_lt.2 hle)] at this
            exact this
          cases hp : prB ms vs m n q with
          | true => exact costs_ok1 ms A cap a b d vs B cb m n q w _ _ _ _ _ _ _ _ hlo' hw hval' hLea hLin hWei (by omega) hCo1 hPr1 hCo2' (fun W hW => by have := hPr2 W hW; rwa [hp] at this) hpe hless1 (hless2 hp)
          | false => exact costs_ok0 ms A cap a b d vs B cb m n q w _ _ _ _ _ _ _ _ hlo' hw hval' hLea hLin hWei (by omega) hCo1 hPr1 hCo2' (fun W hW => by have := hPr2 W hW; rwa [hp] at this) hpe hless1
        | false =>
          have hck2 : ckE ms a b d = 51 := by rw [ckE, hv, hl]; rfl
          have hCo2' : ∀ W, Below w.heap.size w W → Calls Try.prog 24 #[.slice A ms.length cap, .agg #[.int .i64 a, .int .i64 b, .int .i64 d]] W fun e w' => e = .returned (.tuple #[.agg #[.int .i64 (cosRV ms a b d).1, .int .i64 (cosRV ms a b d).2], .int .i64 51]) ∧ Below W.heap.size W w' := fun W hW => by
            have := hCo2 W hW
            rw [hck2] at this
            exact this
          cases hp : prB ms vs m n q with
          | true => exact costs_no1 ms A cap a b d vs B cb m n q w _ _ _ _ _ _ _ _ hlo' hw hval' hLea hLin hWei (by omega) hCo1 hPr1 hCo2' (fun W hW => by have := hPr2 W hW; rwa [hp] at this) hpe (hless2 hp)
          | false => exact costs_no0 ms A cap a b d vs B cb m n q w _ _ _ _ _ _ _ _ hlo' hw hval' hLea hLin hWei (by omega) hCo1 hPr1 hCo2' (fun W hW => by have := hPr2 W hW; rwa [hp] at this) hpe
end Go.Proofs.Ytoilbgngefleiaa
