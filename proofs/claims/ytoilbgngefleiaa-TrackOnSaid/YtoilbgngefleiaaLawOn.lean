/-
  The walk of TrackOn: it returns true, whatever it is given.
-/
import Derived.Test.YtoilbgngefleiaaThrT
import Derived.Test.YtoilbgngefleiaaOnM
import Derived.Test.YtoilbgngefleiaaRefLeast
import Derived.Test.YtoilbgngefleiaaSameI
import Derived.Test.YtoilbgngefleiaaTellsT
import Derived.Deep.CutRange
namespace Go.Proofs.Ytoilbgngefleiaa
open Go.RowKit Go.Shelf
set_option linter.unusedVariables false
set_option linter.unusedSimpArgs false

theorem if_max {z v : Int} (h : max z (-z) = v) : (if z < -z then -z else z) = v := by split <;> omega
theorem if_most {m z v : Int} (h : max z (-z) = v) : (if (if m < z then z else m) < -z then -z else if m < z then z else m) = max m v := by
  by_cases h1 : m < z
  · rw [if_pos h1]; split <;> omega
  · rw [if_neg h1]; split <;> omega

set_option maxRecDepth 100000 in
set_option maxHeartbeats 16000000 in
theorem onL_long (ms : List (Int × Int)) (A : Option Addr) (cap : Nat) (a b d : Int) (w : World) (hLo : ∀ W : World, Calls Try.prog 15 #[.slice A ms.length cap] W fun e w' => e = .returned (.bool true) ∧ W = w') :
    Calls Try.prog 13 #[.slice A ms.length cap, .agg #[.int .i64 a, .int .i64 b, .int .i64 d]] w fun e w' => e = .returned (.bool true) ∧ Below w.heap.size w w' := by
  have HLo := Lib.hid hLo
  clear hLo
  obtain ⟨W0, hW0, HW, HX⟩ : ∃ W0, W0 = w.alloc (.cells #[.int .i64 a, .int .i64 b, .int .i64 d] 24) ∧ Hid (Below w.heap.size w W0) ∧ Hid (Lt W0 w.heap.size (.int .i64 a) (.int .i64 b) (.int .i64 d)) :=
    ⟨_, rfl, Lib.hid ((Below.refl _ _).alloc (Nat.le_refl _) _), Lib.hid (Lt.new _ _ _ _)⟩
  have x0 := HX.out.c0
  have x1 := HX.out.c1
  have x2 := HX.out.c2
  go_enter Try.func13, Try.ntmps13
  go_upto_region 1 with (fail)
  rw [← hW0]
  clear hW0
  go_wp2_with (first
    | (go_at_call 15; with_reducible refine (HLo.out _).mono ?_; rintro e w' ⟨rfl, rfl⟩)
    | (go_at_call 16; refine (awake_any _).mono ?_; rintro e wz ⟨rfl, hBz⟩; have HW : Hid (Below w.heap.size w _) := Lib.hid (below_step HW.out hBz); clear hBz)
    | fail)
  go_ret
  exact ⟨rfl, HW.out⟩

set_option maxRecDepth 100000 in
set_option maxHeartbeats 16000000 in
theorem onL_bad (ms : List (Int × Int)) (A : Option Addr) (cap : Nat) (a b d : Int) (w : World) (cn cm vn vm k : Int)
    (hLo : ∀ W : World, Calls Try.prog 15 #[.slice A ms.length cap] W fun e w' => e = .returned (.bool false) ∧ W = w')
    (h1 : ∀ W, Below w.heap.size w W → Calls Try.prog 17 #[.slice A ms.length cap, .agg #[.int .i64 a, .int .i64 b, .int .i64 d]] W fun e w' => ∃ A' c', e = .returned (.tuple #[.slice A' 0 c', .int .i64 k]) ∧ Clk w' A' c' [] ∧ Below W.heap.size W w')
    (h2 : ∀ W, Below w.heap.size w W → Calls Try.prog 24 #[.slice A ms.length cap, .agg #[.int .i64 a, .int .i64 b, .int .i64 d]] W fun e w' => e = .returned (.tuple #[.agg #[.int .i64 cn, .int .i64 cm], .int .i64 k]) ∧ Below W.heap.size W w')
    (h3 : ∀ W, Below w.heap.size w W → Calls Try.prog 26 #[.slice A ms.length cap, .agg #[.int .i64 a, .int .i64 b, .int .i64 d]] W fun e w' => e = .returned (.tuple #[.agg #[.int .i64 vn, .int .i64 vm], .int .i64 k]) ∧ Below W.heap.size W w')
    (h4 : ∀ W, Below w.heap.size w W → Calls Try.prog 28 #[.slice A ms.length cap, .agg #[.int .i64 a, .int .i64 b, .int .i64 d]] W fun e w' => ∃ A' c', e = .returned (.tuple #[.slice A' 0 c', .int .i64 k]) ∧ Out w' A' c' [] ∧ Below W.heap.size W w')
    (hk : k ≠ 0) :
    Calls Try.prog 13 #[.slice A ms.length cap, .agg #[.int .i64 a, .int .i64 b, .int .i64 d]] w fun e w' => e = .returned (.bool true) ∧ Below w.heap.size w w' := by
  have HLo := Lib.hid hLo
  have H1 := Lib.hid h1
  have H2 := Lib.hid h2
  have H3 := Lib.hid h3
  have H4 := Lib.hid h4
  have t1 : (k == 0) = false := by simpa using hk
  have t2 : (k != 0) = true := by simpa using hk
  clear hLo h1 h2 h3 h4 hk
  obtain ⟨W0, hW0, HW, HX⟩ : ∃ W0, W0 = w.alloc (.cells #[.int .i64 a, .int .i64 b, .int .i64 d] 24) ∧ Hid (Below w.heap.size w W0) ∧ Hid (Lt W0 w.heap.size (.int .i64 a) (.int .i64 b) (.int .i64 d)) :=
    ⟨_, rfl, Lib.hid ((Below.refl _ _).alloc (Nat.le_refl _) _), Lib.hid (Lt.new _ _ _ _)⟩
  have x0 := HX.out.c0
  have x1 := HX.out.c1
  have x2 := HX.out.c2
  go_enter Try.func13, Try.ntmps13
  go_upto_region 1 with (fail)
  rw [← hW0]
  clear hW0
  go_upto_region 3 with (go_at_call 15; with_reducible refine (HLo.out _).mono ?_; rintro e w' ⟨rfl, rfl⟩)
  go_upto_region 4 with (go_at_call 17; with_reducible refine (H1.out _ HW.out).mono ?_; rintro e v1 ⟨A1, c1, rfl, ho, hB1⟩; have HX := Lib.hid (Lt.below HX.out hB1); have x0 := HX.out.c0; have x1 := HX.out.c1; have x2 := HX.out.c2; have HW : Hid (Below w.heap.size w _) := Lib.hid (below_step HW.out hB1); have HQ := Lib.hid ho; clear ho; clear hB1)
  go_upto_region 5 with (go_at_call 24; with_reducible refine (H2.out _ HW.out).mono ?_; rintro e v2 ⟨rfl, hB2⟩; have HX := Lib.hid (Lt.below HX.out hB2); have x0 := HX.out.c0; have x1 := HX.out.c1; have x2 := HX.out.c2; have HQ := Lib.hid (Clk.below HQ.out hB2); have HW : Hid (Below w.heap.size w _) := Lib.hid (below_step HW.out hB2); clear hB2)
  have qxga : w.heap.size < v2.heap.size := HX.out.lt
  have qHWga : w.heap.size ≤ v2.heap.size := HW.out.size
  obtain ⟨X2, hX2, HW, HG, HX, HQ⟩ : ∃ X, (v2.alloc (.cells #[.int .i64 cn, .int .i64 cm] 34)) = X ∧ Hid (Below w.heap.size w X) ∧ Hid (Rt X v2.heap.size (.int .i64 cn) (.int .i64 cm)) ∧ Hid (Lt X w.heap.size (.int .i64 a) (.int .i64 b) (.int .i64 d)) ∧ Hid (Clk X A1 c1 ([] : List (Int × Int))) :=
    ⟨_, rfl, Lib.hid (Below.alloc HW.out HW.out.size _), Lib.hid (Rt.new _ _ _), Lib.hid (HX.out.alloc _), Lib.hid (HQ.out.below (Below.alloc (Below.refl _ _) (Nat.le_refl _) _))⟩
  rw [hX2]
  clear hX2
  obtain ⟨ga, hga⟩ : ∃ g, v2.heap.size = g := ⟨_, rfl⟩
  rw [hga] at HG qxga qHWga
  try rw [hga]
  clear hga
  have x0 := HX.out.c0
  have x1 := HX.out.c1
  have x2 := HX.out.c2
  have g0 := HG.out.c0
  have g1 := HG.out.c1
  go_upto_region 6 with (go_at_call 26; with_reducible refine (H3.out _ HW.out).mono ?_; rintro e v3 ⟨rfl, hB3⟩; have HX := Lib.hid (Lt.below HX.out hB3); have x0 := HX.out.c0; have x1 := HX.out.c1; have x2 := HX.out.c2; have HQ := Lib.hid (Clk.below HQ.out hB3); have HG := Lib.hid (Rt.below HG.out hB3); have g0 := HG.out.c0; have g1 := HG.out.c1; have HW : Hid (Below w.heap.size w _) := Lib.hid (below_step HW.out hB3); clear hB3)
  have qxgb : w.heap.size < v3.heap.size := HX.out.lt
  have qggb : ga < v3.heap.size := HG.out.lt
  have qHWgb : w.heap.size ≤ v3.heap.size := HW.out.size
  obtain ⟨X3, hX3, HW, HK, HX, HQ, HG⟩ : ∃ X, (v3.alloc (.cells #[.int .i64 vn, .int .i64 vm] 34)) = X ∧ Hid (Below w.heap.size w X) ∧ Hid (Rt X v3.heap.size (.int .i64 vn) (.int .i64 vm)) ∧ Hid (Lt X w.heap.size (.int .i64 a) (.int .i64 b) (.int .i64 d)) ∧ Hid (Clk X A1 c1 ([] : List (Int × Int))) ∧ Hid (Rt X ga (.int .i64 cn) (.int .i64 cm)) :=
    ⟨_, rfl, Lib.hid (Below.alloc HW.out HW.out.size _), Lib.hid (Rt.new _ _ _), Lib.hid (HX.out.alloc _), Lib.hid (HQ.out.below (Below.alloc (Below.refl _ _) (Nat.le_refl _) _)), Lib.hid (HG.out.alloc _)⟩
  rw [hX3]
  clear hX3
  obtain ⟨gb, hgb⟩ : ∃ g, v3.heap.size = g := ⟨_, rfl⟩
  rw [hgb] at HK qxgb qggb qHWgb
  try rw [hgb]
  clear hgb
  have x0 := HX.out.c0
  have x1 := HX.out.c1
  have x2 := HX.out.c2
  have g0 := HG.out.c0
  have g1 := HG.out.c1
  have k0 := HK.out.c0
  have k1 := HK.out.c1
  go_upto_region 7 with (go_at_call 28; with_reducible refine (H4.out _ HW.out).mono ?_; rintro e v4 ⟨A4, c4, rfl, ho, hB4⟩; have HX := Lib.hid (Lt.below HX.out hB4); have x0 := HX.out.c0; have x1 := HX.out.c1; have x2 := HX.out.c2; have HQ := Lib.hid (Clk.below HQ.out hB4); have HG := Lib.hid (Rt.below HG.out hB4); have g0 := HG.out.c0; have g1 := HG.out.c1; have HK := Lib.hid (Rt.below HK.out hB4); have k0 := HK.out.c0; have k1 := HK.out.c1; have HW : Hid (Below w.heap.size w _) := Lib.hid (below_step HW.out hB4); have HO := Lib.hid ho; clear ho; clear hB4)
  go_wp2_with (first
    | (go_at_call 16; refine (awake_any _).mono ?_; rintro e wz ⟨rfl, hBz⟩; have HW : Hid (Below w.heap.size w _) := Lib.hid (below_step HW.out hBz); clear hBz)
    | fail)
  go_ret
  exact ⟨rfl, HW.out⟩

set_option maxRecDepth 100000 in
set_option maxHeartbeats 16000000 in
theorem onL_main (ms : List (Int × Int)) (A : Option Addr) (cap : Nat) (a b d : Int) (w : World) (zs : List Int) (cn cm vn vm ln lm : Int)
    (hLo : ∀ W : World, Calls Try.prog 15 #[.slice A ms.length cap] W fun e w' => e = .returned (.bool false) ∧ W = w')
    (h1 : ∀ W, Below w.heap.size w W → Calls Try.prog 17 #[.slice A ms.length cap, .agg #[.int .i64 a, .int .i64 b, .int .i64 d]] W fun e w' => ∃ A' c', e = .returned (.tuple #[.slice A' zs.length c', .int .i64 0]) ∧ Clk w' A' c' (zs.map fun z => (lowN z d, lowD z d)) ∧ Below W.heap.size W w')
    (h2 : ∀ W, Below w.heap.size w W → Calls Try.prog 24 #[.slice A ms.length cap, .agg #[.int .i64 a, .int .i64 b, .int .i64 d]] W fun e w' => e = .returned (.tuple #[.agg #[.int .i64 cn, .int .i64 cm], .int .i64 0]) ∧ Below W.heap.size W w')
    (h3 : ∀ W, Below w.heap.size w W → Calls Try.prog 26 #[.slice A ms.length cap, .agg #[.int .i64 a, .int .i64 b, .int .i64 d]] W fun e w' => e = .returned (.tuple #[.agg #[.int .i64 vn, .int .i64 vm], .int .i64 0]) ∧ Below W.heap.size W w')
    (h4 : ∀ W, Below w.heap.size w W → Calls Try.prog 28 #[.slice A ms.length cap, .agg #[.int .i64 a, .int .i64 b, .int .i64 d]] W fun e w' => ∃ A' c', e = .returned (.tuple #[.slice A' (zeroL zs zs.length).length c', .int .i64 0]) ∧ Out w' A' c' (zeroL zs zs.length) ∧ Below W.heap.size W w')
    (hzl : zs.length = ms.length)
    (hzb : ∀ z ∈ zs, -1200000000 ≤ z ∧ z ≤ 1200000000)
    (hv : viP ms = true)
    (hd : 1 ≤ d ∧ d ≤ 10000)
    (h5 : ∀ W : World, Calls Try.prog 55 #[.int .i64 (sumA zs), .int .i64 d] W fun e w' => e = .returned (.agg #[.int .i64 cn, .int .i64 cm]) ∧ Below W.heap.size W w')
    (h6 : ∀ W : World, Calls Try.prog 55 #[.int .i64 (mostA zs), .int .i64 d] W fun e w' => e = .returned (.agg #[.int .i64 vn, .int .i64 vm]) ∧ Below W.heap.size W w')
    (h7 : ∀ W, Below w.heap.size w W → Calls Try.prog 31 #[.slice A ms.length cap] W fun e w' => e = .returned (.tuple #[.agg #[.int .i64 ln, .int .i64 lm], .int .i64 0]) ∧ Below W.heap.size W w')
    (hC : Clk w A cap ms)
    (hlv : cosT ms (cheL ms) = (ln, lm)) :
    Calls Try.prog 13 #[.slice A ms.length cap, .agg #[.int .i64 a, .int .i64 b, .int .i64 d]] w fun e w' => e = .returned (.bool true) ∧ Below w.heap.size w w' := by
  obtain ⟨⟨hn1, hn2⟩, hpt, _⟩ := vi_parts hv
  have HPT := Lib.hid hpt
  have HLo := Lib.hid hLo
  have H1 := Lib.hid h1
  have H2 := Lib.hid h2
  have H3 := Lib.hid h3
  have H4 := Lib.hid h4
  have Hzl := Lib.hid hzl
  have Hzb := Lib.hid hzb
  have Hhv := Lib.hid hv
  have H5 := Lib.hid h5
  have H6 := Lib.hid h6
  have H7 := Lib.hid h7
  have HhC := Lib.hid hC
  have Hhlv := Lib.hid hlv
  have hcap : ms.length ≤ cap := hC.le
  have hcm : cap ≤ 9223372036854775807 := by have := hC.cap; unfold maxLen at this; exact this
  have n1 : ((zs.length : Int) != (ms.length : Int)) = false := by rw [hzl]; simp
  have n2 : ((ms.length : Int) == 0) = false := by rw [beq_eq_false_iff_ne]; omega
  have hzn : zs.length ≤ 12 := by omega
  have hzp : 0 < zs.length := by omega
  have hd1 := hd.1
  have hd2 := hd.2
  clear hLo h1 h2 h3 h4 hzl hzb hv h5 h6 h7 hC hlv hpt hd
  obtain ⟨W0, hW0, HW, HX⟩ : ∃ W0, W0 = w.alloc (.cells #[.int .i64 a, .int .i64 b, .int .i64 d] 24) ∧ Hid (Below w.heap.size w W0) ∧ Hid (Lt W0 w.heap.size (.int .i64 a) (.int .i64 b) (.int .i64 d)) :=
    ⟨_, rfl, Lib.hid ((Below.refl _ _).alloc (Nat.le_refl _) _), Lib.hid (Lt.new _ _ _ _)⟩
  have x0 := HX.out.c0
  have x1 := HX.out.c1
  have x2 := HX.out.c2
  go_enter Try.func13, Try.ntmps13
  go_upto_region 1 with (fail)
  rw [← hW0]
  clear hW0
  go_upto_region 3 with (go_at_call 15; with_reducible refine (HLo.out _).mono ?_; rintro e w' ⟨rfl, rfl⟩)
  go_upto_region 4 with (go_at_call 17; with_reducible refine (H1.out _ HW.out).mono ?_; rintro e v1 ⟨A1, c1, rfl, ho, hB1⟩; have HX := Lib.hid (Lt.below HX.out hB1); have x0 := HX.out.c0; have x1 := HX.out.c1; have x2 := HX.out.c2; have HW : Hid (Below w.heap.size w _) := Lib.hid (below_step HW.out hB1); have HQ := Lib.hid ho; clear ho; clear hB1)
  go_upto_region 5 with (go_at_call 24; with_reducible refine (H2.out _ HW.out).mono ?_; rintro e v2 ⟨rfl, hB2⟩; have HX := Lib.hid (Lt.below HX.out hB2); have x0 := HX.out.c0; have x1 := HX.out.c1; have x2 := HX.out.c2; have HQ := Lib.hid (Clk.below HQ.out hB2); have HW : Hid (Below w.heap.size w _) := Lib.hid (below_step HW.out hB2); clear hB2)
  have qxga : w.heap.size < v2.heap.size := HX.out.lt
  have qHWga : w.heap.size ≤ v2.heap.size := HW.out.size
  obtain ⟨X2, hX2, HW, HG, HX, HQ⟩ : ∃ X, (v2.alloc (.cells #[.int .i64 cn, .int .i64 cm] 34)) = X ∧ Hid (Below w.heap.size w X) ∧ Hid (Rt X v2.heap.size (.int .i64 cn) (.int .i64 cm)) ∧ Hid (Lt X w.heap.size (.int .i64 a) (.int .i64 b) (.int .i64 d)) ∧ Hid (Clk X A1 c1 (zs.map fun z => (lowN z d, lowD z d))) :=
    ⟨_, rfl, Lib.hid (Below.alloc HW.out HW.out.size _), Lib.hid (Rt.new _ _ _), Lib.hid (HX.out.alloc _), Lib.hid (HQ.out.below (Below.alloc (Below.refl _ _) (Nat.le_refl _) _))⟩
  rw [hX2]
  clear hX2
  obtain ⟨ga, hga⟩ : ∃ g, v2.heap.size = g := ⟨_, rfl⟩
  rw [hga] at HG qxga qHWga
  try rw [hga]
  clear hga
  have x0 := HX.out.c0
  have x1 := HX.out.c1
  have x2 := HX.out.c2
  have g0 := HG.out.c0
  have g1 := HG.out.c1
  go_upto_region 6 with (go_at_call 26; with_reducible refine (H3.out _ HW.out).mono ?_; rintro e v3 ⟨rfl, hB3⟩; have HX := Lib.hid (Lt.below HX.out hB3); have x0 := HX.out.c0; have x1 := HX.out.c1; have x2 := HX.out.c2; have HQ := Lib.hid (Clk.below HQ.out hB3); have HG := Lib.hid (Rt.below HG.out hB3); have g0 := HG.out.c0; have g1 := HG.out.c1; have HW : Hid (Below w.heap.size w _) := Lib.hid (below_step HW.out hB3); clear hB3)
  have qxgb : w.heap.size < v3.heap.size := HX.out.lt
  have qggb : ga < v3.heap.size := HG.out.lt
  have qHWgb : w.heap.size ≤ v3.heap.size := HW.out.size
  obtain ⟨X3, hX3, HW, HK, HX, HQ, HG⟩ : ∃ X, (v3.alloc (.cells #[.int .i64 vn, .int .i64 vm] 34)) = X ∧ Hid (Below w.heap.size w X) ∧ Hid (Rt X v3.heap.size (.int .i64 vn) (.int .i64 vm)) ∧ Hid (Lt X w.heap.size (.int .i64 a) (.int .i64 b) (.int .i64 d)) ∧ Hid (Clk X A1 c1 (zs.map fun z => (lowN z d, lowD z d))) ∧ Hid (Rt X ga (.int .i64 cn) (.int .i64 cm)) :=
    ⟨_, rfl, Lib.hid (Below.alloc HW.out HW.out.size _), Lib.hid (Rt.new _ _ _), Lib.hid (HX.out.alloc _), Lib.hid (HQ.out.below (Below.alloc (Below.refl _ _) (Nat.le_refl _) _)), Lib.hid (HG.out.alloc _)⟩
  rw [hX3]
  clear hX3
  obtain ⟨gb, hgb⟩ : ∃ g, v3.heap.size = g := ⟨_, rfl⟩
  rw [hgb] at HK qxgb qggb qHWgb
  try rw [hgb]
  clear hgb
  have x0 := HX.out.c0
  have x1 := HX.out.c1
  have x2 := HX.out.c2
  have g0 := HG.out.c0
  have g1 := HG.out.c1
  have k0 := HK.out.c0
  have k1 := HK.out.c1
  go_upto_region 7 with (go_at_call 28; with_reducible refine (H4.out _ HW.out).mono ?_; rintro e v4 ⟨A4, c4, rfl, ho, hB4⟩; have HX := Lib.hid (Lt.below HX.out hB4); have x0 := HX.out.c0; have x1 := HX.out.c1; have x2 := HX.out.c2; have HQ := Lib.hid (Clk.below HQ.out hB4); have HG := Lib.hid (Rt.below HG.out hB4); have g0 := HG.out.c0; have g1 := HG.out.c1; have HK := Lib.hid (Rt.below HK.out hB4); have k0 := HK.out.c0; have k1 := HK.out.c1; have HW : Hid (Below w.heap.size w _) := Lib.hid (below_step HW.out hB4); have HO := Lib.hid ho; clear ho; clear hB4)
  go_upto_region 13 with (fail)
  obtain ⟨b1, o1, rfl, hb1, hcells⟩ := HQ.out.marks.open_ (by rw [List.length_map]; exact hzp)
  have HC1 := Lib.hid hcells
  clear hcells
  have HX0 := HX
  have HG0 := HG
  have HK0 := HK
  have HO0 := HO
  have HW0 := HW
  go_loopw [13, 14, 15, 106] (fun s m kk i wr => ∃ k : Nat, k ≤ zs.length ∧ i = .int .i64 k ∧ s = .int .i64 (sumA (zs.take k)) ∧ m = .int .i64 (mostA (zs.take k)) ∧ kk = .int .i64 ((zeroL zs k).length : Nat) ∧ Hid (Below v4.heap.size v4 wr)) (fun _ _ _ i _ => zs.length - (intOf i).toNat)
  case atStart => exact ⟨0, Nat.zero_le _, rfl, rfl, rfl, rfl, Lib.hid (Below.refl _ _)⟩
  case round =>
    clear HX HG HK HO HW
    obtain ⟨k, hk, rfl, rfl, rfl, rfl, HB⟩ := hrel
    have HX := Lib.hid (HX0.out.below HB.out)
    have HG := Lib.hid (HG0.out.below HB.out)
    have HK := Lib.hid (HK0.out.below HB.out)
    have HO := Lib.hid (HO0.out.below HB.out)
    have HW : Hid (Below w.heap.size w wr) := Lib.hid (below_step HW0.out HB.out)
    rename World => wo
    have hsb := sumA_bd (zs.take k) (fun z hz => Hzb.out z (List.mem_of_mem_take hz))
    have hmb := mostA_bd (zs.take k) (fun z hz => Hzb.out z (List.mem_of_mem_take hz))
    have hln : (zs.take k).length ≤ 12 := by rw [List.length_take]; omega
    have hzk := zeroL_len zs k
    by_cases hlt : k < zs.length
    · obtain ⟨z, hz⟩ : ∃ z, zs[k]? = some z := ⟨_, List.getElem?_eq_getElem hlt⟩
      have HZ := Lib.hid hz
      have hzbd := Hzb.out z (List.mem_of_getElem? hz)
      have hcel := HC1.out k (lowN z d, lowD z d) (by rw [List.getElem?_map, hz]; rfl)
      have c0 := (HB.out.cell (p := ⟨b1, o1 + k * 2, none⟩) hb1).trans (by simpa using hcel.1)
      have c1_ := (HB.out.cell (p := ⟨b1, o1 + k * 2 + 1, none⟩) hb1).trans (by simpa using hcel.2)
      have HSU := Lib.hid (sumA_snoc hz)
      have HMO := Lib.hid (mostA_snoc hz)
      obtain ⟨r1, r2, r3, r4⟩ := back_rest (r := z) (d := d) (by omega)
      have r5 := lowD_bd (n := z) (d := d) (by omega)
      have r6 := lowN_abs (n := z) (d := d) (M := 1200000000) (by omega) (by omega) (by omega)
      obtain ⟨s, hs⟩ : ∃ s, sumA (zs.take k) = s := ⟨_, rfl⟩
      obtain ⟨m, hm⟩ : ∃ m, mostA (zs.take k) = m := ⟨_, rfl⟩
      obtain ⟨v, hv⟩ : ∃ v, absI z = v := ⟨_, rfl⟩
      obtain ⟨rn, hrn⟩ : ∃ v, lowN z d = v := ⟨_, rfl⟩
      obtain ⟨rm, hrm⟩ : ∃ v, lowD z d = v := ⟨_, rfl⟩
      obtain ⟨q, hq⟩ : ∃ v, d.tdiv rm = v := ⟨_, rfl⟩
      rw [hrn, hrm] at hcel
      rw [hrn] at c0 r2 r6
      rw [hrm] at c1_ r1 r2 r3 r4 r5
      rw [hq] at r2 r3 r4
      rw [hs] at hsb HSU
      rw [hm] at hmb HMO
      rw [hv] at HSU HMO
      simp only [hs, hm]
      have hab : 0 ≤ v ∧ v ≤ 1200000000 := by rw [← hv]; exact abs_bd hzbd
      have HVM : Hid (max z (-z) = v) := Lib.hid hv
      have hsb2 : s ≤ 1200000000000 := by omega
      have hmb2 : m ≤ 1200000000000 := by omega
      have hsb1 := hsb.1
      have hmb1 := hmb.1
      have e1 : decide (rm < 1) = false := decide_eq_false (by omega)
      have e2 : rm ≠ 0 := by omega
      have e2' : ¬ rm = 0 := by omega
      have e3 : (rm == 0) = false := by simp; omega
      have e4 : IntKind.i64.wrap (d.tdiv rm) = q := by rw [hq]; exact IntWalk.i64_in _ (by omega)
      have e5 : IntKind.i64.wrap (rn * q) = z := by rw [r2]; exact IntWalk.i64_in _ (by omega)
      have e6 : IntKind.i64.wrap (-z) = -z := IntWalk.i64_in _ (by omega)
      have e7 : IntKind.i64.wrap (s + v) = s + v := IntWalk.i64_in _ (by omega)
      have hkc : k ≤ c1 := by have := HQ.out.le; rw [List.length_map] at this; omega
      clear hsb hmb hs hm hv hrn hrm hq hcel hz
      have x0 := HX.out.c0
      have x1 := HX.out.c1
      have x2 := HX.out.c2
      have g0 := HG.out.c0
      have g1 := HG.out.c1
      have k0 := HK.out.c0
      have k1 := HK.out.c1
      go_upto_region 15 with (fail)
      have qxgc : w.heap.size < wo.heap.size := HX.out.lt
      have qggc : ga < wo.heap.size := HG.out.lt
      have qkgc : gb < wo.heap.size := HK.out.lt
      have qHWgc : w.heap.size ≤ wo.heap.size := HW.out.size
      have qHBgc : v4.heap.size ≤ wo.heap.size := HB.out.size
      obtain ⟨X5, hX5, HW, HB, HR, HX, HG, HK, HO⟩ : ∃ X, (wo.alloc (.cells #[.int .i64 rn, .int .i64 rm] 34)) = X ∧ Hid (Below w.heap.size w X) ∧ Hid (Below v4.heap.size v4 X) ∧ Hid (Rt X wo.heap.size (.int .i64 rn) (.int .i64 rm)) ∧ Hid (Lt X w.heap.size (.int .i64 a) (.int .i64 b) (.int .i64 d)) ∧ Hid (Rt X ga (.int .i64 cn) (.int .i64 cm)) ∧ Hid (Rt X gb (.int .i64 vn) (.int .i64 vm)) ∧ Hid (Out X A4 c4 (zeroL zs zs.length)) :=
        ⟨_, rfl, Lib.hid (Below.alloc HW.out HW.out.size _), Lib.hid (Below.alloc HB.out HB.out.size _), Lib.hid (Rt.new _ _ _), Lib.hid (HX.out.alloc _), Lib.hid (HG.out.alloc _), Lib.hid (HK.out.alloc _), Lib.hid (HO.out.below (Below.alloc (Below.refl _ _) (Nat.le_refl _) _))⟩
      rw [hX5]
      clear hX5
      obtain ⟨gc, hgc⟩ : ∃ g, wo.heap.size = g := ⟨_, rfl⟩
      rw [hgc] at HR qxgc qggc qkgc qHWgc qHBgc
      try rw [hgc]
      clear hgc
      have x0 := HX.out.c0
      have x1 := HX.out.c1
      have x2 := HX.out.c2
      have g0 := HG.out.c0
      have g1 := HG.out.c1
      have k0 := HK.out.c0
      have k1 := HK.out.c1
      have r0 := HR.out.c0
      have r1 := HR.out.c1
      go_upto_region 17 with (fail)
      have y0 : ∀ g : Gw X5, g.v.cell? ⟨w.heap.size, 0, none⟩ = some (.int .i64 a) := fun g => (HX.out.below g.h).c0
      have y1 : ∀ g : Gw X5, g.v.cell? ⟨w.heap.size, 1, none⟩ = some (.int .i64 b) := fun g => (HX.out.below g.h).c1
      have y2 : ∀ g : Gw X5, g.v.cell? ⟨w.heap.size, 2, none⟩ = some (.int .i64 d) := fun g => (HX.out.below g.h).c2
      have y3 : ∀ g : Gw X5, g.v.cell? ⟨gc, 0, none⟩ = some (.int .i64 rn) := fun g => (HR.out.below g.h).c0
      have y4 : ∀ g : Gw X5, g.v.cell? ⟨gc, 1, none⟩ = some (.int .i64 rm) := fun g => (HR.out.below g.h).c1
      go_wp2
      refine wp_region_grow (by kernel_rfl) (by kernel_rfl) ?_
      repeat (go_big_quiet_step ((first
        | fail)))
      refine wpQuiet_nil ?_
      rintro _ ⟨gq, rfl⟩
      have hX : Below X5.heap.size X5 gq.v := gq.h
      generalize gq.v = X6 at hX ⊢
      have HX := Lib.hid (Lt.below HX.out hX)
      have HG := Lib.hid (Rt.below HG.out hX)
      have HK := Lib.hid (Rt.below HK.out hX)
      have HO := Lib.hid (Out.below HO.out hX)
      have HR := Lib.hid (Rt.below HR.out hX)
      have HW : Hid (Below w.heap.size w _) := Lib.hid (below_step HW.out hX)
      have HB : Hid (Below v4.heap.size v4 _) := Lib.hid (below_step HB.out hX)
      clear hX y0 y1 y2 y3 y4
      have x0 := HX.out.c0
      have x1 := HX.out.c1
      have x2 := HX.out.c2
      have g0 := HG.out.c0
      have g1 := HG.out.c1
      have k0 := HK.out.c0
      have k1 := HK.out.c1
      have r0 := HR.out.c0
      have r1 := HR.out.c1
      by_cases hz0 : z = 0
      · have q1 : (z == 0) = true := by simpa using hz0
        have q2 : (z != 0) = false := by simpa using hz0
        have hza := zeroL_at hlt (by rw [HZ.out, hz0])
        have hlz : (zeroL zs k).length < (zeroL zs zs.length).length := (List.getElem?_eq_some_iff.1 hza).1
        obtain ⟨bo, oo, rfl, hbo, hoc⟩ := HO.out.ints.open_ (show 0 < (zeroL zs zs.length).length by omega)
        have x0 := hoc _ _ hza
        have q3 : decide (((zeroL zs zs.length).length : Int) ≤ ((zeroL zs k).length : Int)) = false := decide_eq_false (by omega)
        have hz1 : (zeroL zs (k + 1)).length = (zeroL zs k).length + 1 := by rw [zeroL_yes (by rw [HZ.out, hz0]), List.length_append]; rfl
        have hzc : (zeroL zs zs.length).length ≤ c4 := HO.out.le
        have HZ1 := Lib.hid hz1
        clear hz0 hoc hza hz1
        go_wp2
        go_roundw
        case rel => exact ⟨k + 1, by omega, by go_num, by rw [HSU.out, if_max HVM.out], by rw [HMO.out, if_most HVM.out], by rw [HZ1.out]; go_num, HB⟩
        case measure => simp [intOf]; omega
      · have q1 : (z == 0) = false := by simpa using hz0
        have q2 : (z != 0) = true := by simpa using hz0
        have hz1 : (zeroL zs (k + 1)).length = (zeroL zs k).length := by rw [zeroL_no HZ.out hz0]
        have HZ1 := Lib.hid hz1
        clear hz0 hz1
        go_wp2
        go_roundw
        case rel => exact ⟨k + 1, by omega, by go_num, by rw [HSU.out, if_max HVM.out], by rw [HMO.out, if_most HVM.out], by rw [HZ1.out], HB⟩
        case measure => simp [intOf]; omega
    · obtain rfl : k = zs.length := by omega
      rw [List.take_length]
      have x0 := HX.out.c0
      have x1 := HX.out.c1
      have x2 := HX.out.c2
      have g0 := HG.out.c0
      have g1 := HG.out.c1
      have k0 := HK.out.c0
      have k1 := HK.out.c1
      have y0 : ∀ g : Gw wo, g.v.cell? ⟨w.heap.size, 0, none⟩ = some (.int .i64 a) := fun g => (HX.out.below g.h).c0
      have y1 : ∀ g : Gw wo, g.v.cell? ⟨w.heap.size, 1, none⟩ = some (.int .i64 b) := fun g => (HX.out.below g.h).c1
      have y2 : ∀ g : Gw wo, g.v.cell? ⟨w.heap.size, 2, none⟩ = some (.int .i64 d) := fun g => (HX.out.below g.h).c2
      have y3 : ∀ g : Gw wo, g.v.cell? ⟨ga, 0, none⟩ = some (.int .i64 cn) := fun g => (HG.out.below g.h).c0
      have y4 : ∀ g : Gw wo, g.v.cell? ⟨ga, 1, none⟩ = some (.int .i64 cm) := fun g => (HG.out.below g.h).c1
      have y5 : ∀ g : Gw wo, g.v.cell? ⟨gb, 0, none⟩ = some (.int .i64 vn) := fun g => (HK.out.below g.h).c0
      have y6 : ∀ g : Gw wo, g.v.cell? ⟨gb, 1, none⟩ = some (.int .i64 vm) := fun g => (HK.out.below g.h).c1
      go_wp2
      refine wp_region_grow (by kernel_rfl) (by kernel_rfl) ?_
      repeat (go_big_quiet_step ((first
        | (go_at_call 55; with_reducible exact Calls.grow_of (H5.out _))
        | (go_at_call 55; with_reducible exact Calls.grow_of (H6.out _))
        | fail)))
      refine wpQuiet_nil ?_
      rintro _ ⟨gq, rfl⟩
      have hX : Below wo.heap.size wo gq.v := gq.h
      generalize gq.v = X7 at hX ⊢
      have HX := Lib.hid (Lt.below HX.out hX)
      have HG := Lib.hid (Rt.below HG.out hX)
      have HK := Lib.hid (Rt.below HK.out hX)
      have HO := Lib.hid (Out.below HO.out hX)
      have HW : Hid (Below w.heap.size w _) := Lib.hid (below_step HW.out hX)
      clear hX y0 y1 y2 y3 y4 y5 y6
      have x0 := HX.out.c0
      have x1 := HX.out.c1
      have x2 := HX.out.c2
      have g0 := HG.out.c0
      have g1 := HG.out.c1
      have k0 := HK.out.c0
      have k1 := HK.out.c1
      go_upto_region 28 with (go_at_call 31; with_reducible refine (H7.out _ HW.out).mono ?_; rintro e v7 ⟨rfl, hB7⟩; have HX := Lib.hid (Lt.below HX.out hB7); have x0 := HX.out.c0; have x1 := HX.out.c1; have x2 := HX.out.c2; have HG := Lib.hid (Rt.below HG.out hB7); have g0 := HG.out.c0; have g1 := HG.out.c1; have HK := Lib.hid (Rt.below HK.out hB7); have k0 := HK.out.c0; have k1 := HK.out.c1; have HO := Lib.hid (Out.below HO.out hB7); have HW : Hid (Below w.heap.size w _) := Lib.hid (below_step HW.out hB7); clear hB7)
      have qxgm : w.heap.size < v7.heap.size := HX.out.lt
      have qggm : ga < v7.heap.size := HG.out.lt
      have qkgm : gb < v7.heap.size := HK.out.lt
      have qHWgm : w.heap.size ≤ v7.heap.size := HW.out.size
      obtain ⟨X8, hX8, HW, HM, HX, HG, HK, HO⟩ : ∃ X, (v7.alloc (.cells #[.int .i64 ln, .int .i64 lm] 34)) = X ∧ Hid (Below w.heap.size w X) ∧ Hid (Rt X v7.heap.size (.int .i64 ln) (.int .i64 lm)) ∧ Hid (Lt X w.heap.size (.int .i64 a) (.int .i64 b) (.int .i64 d)) ∧ Hid (Rt X ga (.int .i64 cn) (.int .i64 cm)) ∧ Hid (Rt X gb (.int .i64 vn) (.int .i64 vm)) ∧ Hid (Out X A4 c4 (zeroL zs zs.length)) :=
        ⟨_, rfl, Lib.hid (Below.alloc HW.out HW.out.size _), Lib.hid (Rt.new _ _ _), Lib.hid (HX.out.alloc _), Lib.hid (HG.out.alloc _), Lib.hid (HK.out.alloc _), Lib.hid (HO.out.below (Below.alloc (Below.refl _ _) (Nat.le_refl _) _))⟩
      rw [hX8]
      clear hX8
      obtain ⟨gm, hgm⟩ : ∃ g, v7.heap.size = g := ⟨_, rfl⟩
      rw [hgm] at HM qxgm qggm qkgm qHWgm
      try rw [hgm]
      clear hgm
      have x0 := HX.out.c0
      have x1 := HX.out.c1
      have x2 := HX.out.c2
      have g0 := HG.out.c0
      have g1 := HG.out.c1
      have k0 := HK.out.c0
      have k1 := HK.out.c1
      have m0 := HM.out.c0
      have m1 := HM.out.c1
      clear HX HG HK HO HX0 HG0 HK0 HO0 HC1 HB H1 H2 H3 H4 H5 H6 H7
      go_wp2
      go_loopw [20, 185] (fun s i wr => ∃ (k : Nat) (sm : Bool), k ≤ ms.length ∧ i = .int .i64 k ∧ s = .bool sm ∧ Hid (∀ x ∈ pairsL ms k, thL x = cheL ms → sm = true) ∧ Hid (Rt wr gm (.int .i64 ln) (.int .i64 lm)) ∧ Hid (Below w.heap.size w wr)) (fun _ i _ => ms.length - (intOf i).toNat)
      case atStart => exact ⟨0, false, Nat.zero_le _, rfl, rfl, Lib.hid (by intro x hx; simp [pairsL] at hx), HM, HW⟩
      case round =>
        clear HM HW
        obtain ⟨k, sm, hk, rfl, rfl, HS, HM, HW⟩ := hrel
        rename World => wk
        by_cases hlt : k < ms.length
        · obtain ⟨bl, off, rfl, hbl, hcells⟩ := HhC.out.marks.open_ (show 0 < ms.length by omega)
          have HCELLS := Lib.hid hcells
          obtain ⟨x, y, hxy⟩ := getM_of_lt hlt
          have HXY := Lib.hid hxy
          have hkc : k ≤ cap := by omega
          clear hcells hxy
          go_wp2
          go_loopw [20, 189] (fun s i wr => ∃ (m : Nat) (sm : Bool), m ≤ k ∧ i = .int .i64 m ∧ s = .bool sm ∧ Hid (∀ z ∈ lpre ms k (x, y) m, thL z = cheL ms → sm = true) ∧ Hid (Rt wr gm (.int .i64 ln) (.int .i64 lm)) ∧ Hid (Below w.heap.size w wr)) (fun _ i _ => k - (intOf i).toNat)
          case atStart => exact ⟨0, sm, Nat.zero_le _, rfl, rfl, Lib.hid (by rw [lpre_zero]; exact HS.out), HM, HW⟩
          case round =>
            clear HS HM HW
            rename Bool => sm0
            obtain ⟨m, sm, hm, rfl, rfl, HS, HM, HW⟩ := hrel
            rename World => wi
            by_cases hlt2 : m < k
            · have hml : m < ms.length := by omega
              have hmc : m ≤ cap := by omega
              obtain ⟨u, v, huv⟩ := getM_of_lt hml
              have HUV := Lib.hid huv
              have a0 := (HW.out.cell (p := ⟨bl, off + m * 2, none⟩) hbl).trans (by simpa using (HCELLS.out m _ huv).1)
              have a1 := (HW.out.cell (p := ⟨bl, off + m * 2 + 1, none⟩) hbl).trans (by simpa using (HCELLS.out m _ huv).2)
              have b0 := (HW.out.cell (p := ⟨bl, off + k * 2, none⟩) hbl).trans (by simpa using (HCELLS.out k _ HXY.out).1)
              have b1 := (HW.out.cell (p := ⟨bl, off + k * 2 + 1, none⟩) hbl).trans (by simpa using (HCELLS.out k _ HXY.out).2)
              have q2 : bl < wi.heap.size := Nat.lt_of_lt_of_le hbl HW.out.size
              have q3 : gm < wi.heap.size := HM.out.lt
              have HWI := HW
              obtain ⟨ta, tb, td, er, HTH, HER⟩ : ∃ ta tb td er : Int, Hid (∀ V : World, Calls Try.prog 51 #[.agg #[.int .i64 u, .int .i64 v], .agg #[.int .i64 x, .int .i64 y]] V fun e w' => e = .returned (.tuple #[.agg #[.int .i64 ta, .int .i64 tb, .int .i64 td], .int .i64 er]) ∧ Below V.heap.size V w') ∧ Hid ((er = 5 ∧ u = x) ∨ (er = 0 ∧ u ≠ x ∧ thL ((u, v), (x, y)) = (ta, tb, td))) := by
                have hpt1 := HPT.out _ (List.mem_of_getElem? HUV.out)
                have hpt2 := HPT.out _ (List.mem_of_getElem? HXY.out)
                by_cases hux : u = x
                · exact ⟨0, 0, 0, 5, Lib.hid (fun V => throughT_none u v x y V hpt1 hpt2 hux), Lib.hid (Or.inl ⟨rfl, hux⟩)⟩
                · exact ⟨_, _, _, 0, Lib.hid (fun V => throughT_yes u v x y V hpt1 hpt2 hux), Lib.hid (Or.inr ⟨rfl, hux, rfl⟩)⟩
              clear huv
              go_wp2
              have k2 : bl ≠ wi.heap.size := by omega
              have k3 : gm ≠ wi.heap.size := by omega
              go_region_held3 (fun w' => w'.cell? ⟨bl, off + m * 2, none⟩ = some (.int .i64 u) ∧ w'.cell? ⟨bl, off + m * 2 + 1, none⟩ = some (.int .i64 v) ∧ w'.cell? ⟨bl, off + k * 2, none⟩ = some (.int .i64 x) ∧ w'.cell? ⟨bl, off + k * 2 + 1, none⟩ = some (.int .i64 y))
                ((first
                  | with_reducible exact ⟨a0, a1, b0, b1⟩
                  | exact ⟨a0, a1, b0, b1⟩
                  | exact ⟨(World.cell?_alloc_lt _ _ _ q2).trans a0, (World.cell?_alloc_lt _ _ _ q2).trans a1, (World.cell?_alloc_lt _ _ _ q2).trans b0, (World.cell?_alloc_lt _ _ _ q2).trans b1⟩
                  | exact ⟨cell_st3 a0 k2, cell_st3 a1 k2, cell_st3 b0 k2, cell_st3 b1 k2⟩
                  | exact trivial))
                ((first
                  | (go_at_call 51; refine (HTH.out _).mono ?_; rintro e w1 ⟨rfl, hB0⟩; have hB1 : Below wi.heap.size wi w1 := ((Below.refl wi.heap.size wi).drew.trans hB0); have a0 := (hB1.cell (p := ⟨bl, off + m * 2, none⟩) q2).trans a0; have a1 := (hB1.cell (p := ⟨bl, off + m * 2 + 1, none⟩) q2).trans a1; have b0 := (hB1.cell (p := ⟨bl, off + k * 2, none⟩) q2).trans b0; have b1 := (hB1.cell (p := ⟨bl, off + k * 2 + 1, none⟩) q2).trans b1; have HM := Lib.hid (HM.out.below hB1); have HW : Hid (Below w.heap.size w _) := Lib.hid (below_step HW.out hB1); have q2 := Nat.lt_of_lt_of_le q2 hB1.size; have q3 := Nat.lt_of_lt_of_le q3 hB1.size)
                  | (go_at_call 51; refine (HTH.out _).mono ?_; rintro e w1 ⟨rfl, hB0⟩; have hz : Lt w1 wi.heap.size (.int .i64 0) (.int .i64 0) (.int .i64 0) := (hB0.block wi.heap.size (by simp)).trans (heap_alloc_new wi _); have hB1 : Below wi.heap.size wi w1 := (((Below.refl wi.heap.size wi).alloc (Nat.le_refl _) _).drew.trans (hB0.mono (by simp))); have z0 := hz.c0; have z1 := hz.c1; have z2 := hz.c2; have zf0 := hz.f 0; have zf1 := hz.f 1; have zf2 := hz.f 2; have a0 := (hB1.cell (p := ⟨bl, off + m * 2, none⟩) q2).trans a0; have a1 := (hB1.cell (p := ⟨bl, off + m * 2 + 1, none⟩) q2).trans a1; have b0 := (hB1.cell (p := ⟨bl, off + k * 2, none⟩) q2).trans b0; have b1 := (hB1.cell (p := ⟨bl, off + k * 2 + 1, none⟩) q2).trans b1; have HM := Lib.hid (HM.out.below hB1); have HW : Hid (Below w.heap.size w _) := Lib.hid (below_step HW.out hB1); have q2 := Nat.lt_of_lt_of_le q2 hB1.size; have q3 := Nat.lt_of_lt_of_le q3 hB1.size)))
              all_goals first
                | (obtain ⟨W1, hW1, HW, HM, HL⟩ : ∃ W1, w1.alloc (.cells #[.int .i64 ta, .int .i64 tb, .int .i64 td] 24) = W1 ∧ Hid (Below w.heap.size w W1) ∧ Hid (Rt W1 gm (.int .i64 ln) (.int .i64 lm)) ∧ Hid (Lt W1 w1.heap.size (.int .i64 ta) (.int .i64 tb) (.int .i64 td)) :=
                    ⟨_, rfl, Lib.hid (HW.out.alloc HW.out.size _), Lib.hid (HM.out.alloc _), Lib.hid (Lt.new _ _ _ _)⟩
                   rw [hW1]
                   clear hW1
                   obtain ⟨gl, hgl⟩ : ∃ g, w1.heap.size = g := ⟨_, rfl⟩
                   rw [hgl] at HL ⊢)
                | (obtain ⟨W1, hW1, HW, HM, HL⟩ : ∃ W1, ((w1.setCell ⟨wi.heap.size, 0, none⟩ (.int .i64 ta)).setCell ⟨wi.heap.size, 1, none⟩ (.int .i64 tb)).setCell ⟨wi.heap.size, 2, none⟩ (.int .i64 td) = W1 ∧ Hid (Below w.heap.size w W1) ∧ Hid (Rt W1 gm (.int .i64 ln) (.int .i64 lm)) ∧ Hid (Lt W1 wi.heap.size (.int .i64 ta) (.int .i64 tb) (.int .i64 td)) :=
                    ⟨_, rfl, Lib.hid (st3_below HW.out (by have := HWI.out.size; omega)), Lib.hid (HM.out.other3 k3), Lib.hid (Lt.set hz)⟩
                   rw [hW1]
                   clear hW1 z0 z1 z2 zf0 zf1 zf2 hz
                   obtain ⟨gl, hgl⟩ : ∃ g, wi.heap.size = g := ⟨_, rfl⟩
                   rw [hgl] at HL ⊢)
              all_goals
                clear hgl a0 a1 b0 b1 hB0 hB1 q2 q3 k2 k3 HTH
              all_goals
                rcases HER.out with ⟨rfl, hux⟩ | ⟨rfl, hux, hth⟩
                · have HN := Lib.hid (lpre_no (b := (x, y)) hlt2 HUV.out hux)
                  clear hux
                  go_wp2
                  go_roundw
                  case rel => exact ⟨m + 1, sm, by omega, by go_num, rfl, by rw [HN.out]; exact HS, HM, HW⟩
                  case measure => simp [intOf]; omega
                · have HN := Lib.hid (lpre_yes (b := (x, y)) hlt2 HUV.out (show (u, v).1 ≠ (x, y).1 from hux))
                  obtain ⟨⟨rn, rm⟩, hr⟩ : ∃ z, cosT ms (ta, tb, td) = z := ⟨_, rfl⟩
                  have HEQ : Hid (thL ((u, v), (x, y)) = cheL ms → (rn, rm) = (ln, lm)) := Lib.hid (fun e => by rw [← hr, ← hth, e]; exact Hhlv.out)
                  have HCO : Hid (∀ W, Below w.heap.size w W → Calls Try.prog 24 #[.slice (some ⟨bl, off, none⟩) ms.length cap, .agg #[.int .i64 ta, .int .i64 tb, .int .i64 td]] W fun e w' => e = .returned (.tuple #[.agg #[.int .i64 rn, .int .i64 rm], .int .i64 0]) ∧ Below W.heap.size W w') := Lib.hid (fun W hW => by
                    have hpt1 := HPT.out _ (List.mem_of_getElem? HUV.out)
                    have hpt2 := HPT.out _ (List.mem_of_getElem? HXY.out)
                    have hb := th_bd hpt1 hpt2 (show (u, v).1 ≠ (x, y).1 from hux)
                    obtain ⟨e1, e2⟩ := Prod.mk.inj hth
                    obtain ⟨e2, e3⟩ := Prod.mk.inj e2
                    dsimp only at e1 e2 e3
                    rw [e1, e2, e3] at hb
                    have hck : ckE ms ta tb td = 0 := by rw [ckE, Hhv.out, ln_ok (decide_eq_true (by omega)) (decide_eq_true (by omega)) (by omega)]; rfl
                    have := cosRTold_any ms (some ⟨bl, off, none⟩) cap ta tb td W (HhC.out.below hW)
                    rw [cosRV, if_pos hck, hck, hr] at this
                    exact this)
                  clear hux hth hr
                  have m0 := HM.out.c0
                  have m1 := HM.out.c1
                  have l0 := HL.out.c0
                  have l1 := HL.out.c1
                  have l2 := HL.out.c2
                  go_upto_region 38 with (go_at_call 24; with_reducible refine (HCO.out _ HW.out).mono ?_; rintro e v8 ⟨rfl, hB8⟩; have HM := Lib.hid (Rt.below HM.out hB8); have m0 := HM.out.c0; have m1 := HM.out.c1; have HL := Lib.hid (Lt.below HL.out hB8); have l0 := HL.out.c0; have l1 := HL.out.c1; have l2 := HL.out.c2; have HW : Hid (Below w.heap.size w _) := Lib.hid (below_step HW.out hB8); clear hB8)
                  have qmgr : gm < v8.heap.size := HM.out.lt
                  have qlgr : gl < v8.heap.size := HL.out.lt
                  have qHWgr : w.heap.size ≤ v8.heap.size := HW.out.size
                  obtain ⟨X9, hX9, HW, HR, HM, HL⟩ : ∃ X, (v8.alloc (.cells #[.int .i64 rn, .int .i64 rm] 34)) = X ∧ Hid (Below w.heap.size w X) ∧ Hid (Rt X v8.heap.size (.int .i64 rn) (.int .i64 rm)) ∧ Hid (Rt X gm (.int .i64 ln) (.int .i64 lm)) ∧ Hid (Lt X gl (.int .i64 ta) (.int .i64 tb) (.int .i64 td)) :=
                    ⟨_, rfl, Lib.hid (Below.alloc HW.out HW.out.size _), Lib.hid (Rt.new _ _ _), Lib.hid (HM.out.alloc _), Lib.hid (HL.out.alloc _)⟩
                  rw [hX9]
                  clear hX9
                  obtain ⟨gr, hgr⟩ : ∃ g, v8.heap.size = g := ⟨_, rfl⟩
                  rw [hgr] at HR qmgr qlgr qHWgr
                  try rw [hgr]
                  clear hgr
                  have m0 := HM.out.c0
                  have m1 := HM.out.c1
                  have l0 := HL.out.c0
                  have l1 := HL.out.c1
                  have l2 := HL.out.c2
                  have r0 := HR.out.c0
                  have r1 := HR.out.c1
                  cases sm with
                  | true =>
                    go_wp2
                    go_roundw
                    case rel => exact ⟨m + 1, true, by omega, by go_num, rfl, Lib.hid (fun _ _ _ => rfl), HM, HW⟩
                    case measure => simp [intOf]; omega
                  | false =>
                    by_cases he : rn = ln ∧ rm = lm
                    · obtain ⟨rfl, rfl⟩ := he
                      go_wp2
                      go_roundw
                      case rel => exact ⟨m + 1, true, by omega, by go_num, rfl, Lib.hid (fun _ _ _ => rfl), HM, HW⟩
                      case measure => simp [intOf]; omega
                    · have HNE : Hid (thL ((u, v), (x, y)) ≠ cheL ms) := Lib.hid (fun e => he (Prod.mk.inj (HEQ.out e)))
                      go_wp2
                      all_goals
                        go_roundw
                        case rel => exact ⟨m + 1, false, by omega, by go_num, rfl, by rw [HN.out]; exact Lib.hid (fun z hz e => by
                          rcases List.mem_append.1 hz with h | h
                          · exact HS.out z h e
                          · rw [List.mem_singleton.1 h] at e; exact absurd e HNE.out), HM, HW⟩
                        case measure => simp [intOf]; omega
            · obtain rfl : m = k := by omega
              have HN := Lib.hid (lpre_full HXY.out)
              go_wp2
              go_roundw
              case rel => exact ⟨m + 1, sm, by omega, by go_num, rfl, by rw [← HN.out]; exact HS, HM, HW⟩
              case measure => simp [intOf]; omega
        · obtain rfl : k = ms.length := by omega
          obtain rfl : sm = true := by obtain ⟨x, hx, e⟩ := che_pair Hhv.out; exact HS.out x hx e
          go_wp2_with (first
            | (go_at_call 16; refine (awake_any _).mono ?_; rintro e wz ⟨rfl, hBz⟩; have HW : Hid (Below w.heap.size w _) := Lib.hid (below_step HW.out hBz); clear hBz)
            | fail)
          go_ret
          exact ⟨rfl, HW.out⟩

theorem trackOn_walk (ms : List (Int × Int)) (A : Option Addr) (cap : Nat) (a b d : Int) (w : World) (hA : Marks w A ms) (hc : ms.length ≤ cap) (hc0 : cap ≤ maxLen) (_ : (Lit.int .i64 a).wf = true) (_ : (Lit.int .i64 b).wf = true) (_ : (Lit.int .i64 d).wf = true) :
    Calls Try.prog 13 #[.slice A ms.length cap, .agg #[.int .i64 a, .int .i64 b, .int .i64 d]] w fun e w' => e = .returned (.bool true) ∧ Below w.heap.size w w' := by
  have H : Clk w A cap ms := ⟨hA, hc, hc0⟩
  have hlo := fun W => lawLong_any ms A cap W
  cases hm : decide (60 < ms.length) with
  | true => exact onL_long ms A cap a b d w (fun W => by have := hlo W; rwa [hm] at this)
  | false =>
    have hlo' : ∀ W : World, Calls Try.prog 15 #[.slice A ms.length cap] W fun e w' => e = .returned (.bool false) ∧ W = w' := fun W => by have := hlo W; rwa [hm] at this
    by_cases hk : ckE ms a b d = 0
    · obtain ⟨hv, hl⟩ := ck_zero hk
      have hLn : LnB a b d := ln_of hl
      have hln2 : 1 ≤ d ∧ d ≤ 10000 := by simp only [lnB, Bool.and_eq_true, decide_eq_true_eq] at hl; exact hl.2.2
      obtain ⟨⟨_, hn⟩, hpt, _⟩ := vi_parts hv
      have hzb := rs_all hLn (List.all_eq_true.2 hpt)
      have hzl : (ms.map (rsI a b d)).length = ms.length := List.length_map _
      have hsb := sumA_bd (ms.map (rsI a b d)) hzb
      have hmb := mostA_bd (ms.map (rsI a b d)) hzb
      rw [hzl] at hsb hmb
      refine onL_main ms A cap a b d w (ms.map (rsI a b d)) (lowN (costI ms a b d) d) (lowD (costI ms a b d) d) (lowN (widI ms a b d) d) (lowD (widI ms a b d) d) (cosT ms (cheL ms)).1 (cosT ms (cheL ms)).2 hlo' (fun W hW => (restsTold_any ms A cap a b d W (H.below hW)).mono ?_) (fun W hW => ?_) (fun W hW => ?_) (fun W hW => (onTold_any ms A cap a b d W (H.below hW)).mono ?_) hzl hzb hv hln2 (fun W => refRatio_any _ d W (by omega) (by omega) (by omega) (by omega)) (fun W => refRatio_any _ d W (by omega) (by omega) (by omega) (by omega)) (fun W hW => ?_) H rfl
      · rintro e w' ⟨A', c', ys, rfl, h1, h2, h3⟩
        have hy : ys = (ms.map (rsI a b d)).map fun z => (lowN z d, lowD z d) := by rw [h3.out, rstV, if_pos hk, List.map_map]; rfl
        subst hy
        exact ⟨A', c', by rw [hk, List.length_map], h1, h2⟩
      · have := cosRTold_any ms A cap a b d W (H.below hW)
        rw [cosRV, if_pos hk, hk] at this
        exact this
      · have := widRTold_any ms A cap a b d W (H.below hW)
        rw [widRV, if_pos hk, hk] at this
        exact this
      · rintro e w' ⟨A', c', ys, rfl, h1, h2, h3⟩
        have hy : ys = zeroL (ms.map (rsI a b d)) (ms.map (rsI a b d)).length := by rw [h3.out, onV, if_pos hk, hzl]
        subst hy
        exact ⟨A', c', by rw [hk], h1, h2⟩
      · have := least_any ms A cap W (H.below hW)
        rw [show viE ms = 0 by rw [viE, hv]; rfl, show leaV ms = cosT ms (cheL ms) by rw [leaV, hv]; rfl] at this
        exact this
    · refine onL_bad ms A cap a b d w (cosRV ms a b d).1 (cosRV ms a b d).2 (widRV ms a b d).1 (widRV ms a b d).2 (ckE ms a b d) hlo' (fun W hW => (restsTold_any ms A cap a b d W (H.below hW)).mono ?_) (fun W hW => cosRTold_any ms A cap a b d W (H.below hW)) (fun W hW => widRTold_any ms A cap a b d W (H.below hW)) (fun W hW => (onTold_any ms A cap a b d W (H.below hW)).mono ?_) hk
      · rintro e w' ⟨A', c', ys, rfl, h1, h2, h3⟩
        obtain rfl : ys = [] := by rw [h3.out, rstV, if_neg hk]
        exact ⟨A', c', rfl, h1, h2⟩
      · rintro e w' ⟨A', c', ys, rfl, h1, h2, h3⟩
        obtain rfl : ys = [] := by rw [h3.out, onV, if_neg hk]
        exact ⟨A', c', rfl, h1, h2⟩
end Go.Proofs.Ytoilbgngefleiaa
