/-
  The walk of TrackTells: it returns true, whatever it is given.
-/
import Derived.Test.YtoilbgngefleiaaRefTells2
import Derived.Test.YtoilbgngefleiaaSameI
import Derived.Deep.CutRange
namespace Go.Proofs.Ytoilbgngefleiaa
open Go.RowKit Go.Shelf
set_option linter.unusedVariables false
set_option linter.unusedSimpArgs false

set_option maxRecDepth 100000 in
set_option maxHeartbeats 4000000 in
theorem tellsL_long (ms : List (Int × Int)) (A : Option Addr) (cap : Nat) (vs : List Int) (B : Option Addr) (cb : Nat) (w : World) (hLo : ∀ W : World, Calls Try.prog 15 #[.slice A ms.length cap] W fun e w' => e = .returned (.bool true) ∧ W = w')  :
    Calls Try.prog 7 #[.slice A ms.length cap, .slice B vs.length cb] w fun e w' => e = .returned (.bool true) ∧ Below w.heap.size w w' := by
  have HLo := Lib.hid hLo
  clear hLo
  have HW : Hid (Below w.heap.size w w) := Lib.hid (Below.refl _ _)
  go_enter Try.func7, Try.ntmps7
  go_wp2_with (first
    | (go_at_call 15; with_reducible refine (HLo.out _).mono ?_; rintro e w' ⟨rfl, rfl⟩)
    | (go_at_call 16; refine (awake_any _).mono ?_; rintro e wz ⟨rfl, hBz⟩; have HW : Hid (Below w.heap.size w _) := Lib.hid (below_step HW.out hBz); clear hBz)
    | fail)
  go_ret
  exact ⟨rfl, HW.out⟩

set_option maxRecDepth 100000 in
set_option maxHeartbeats 4000000 in
theorem tellsL_wide (ms : List (Int × Int)) (A : Option Addr) (cap : Nat) (vs : List Int) (B : Option Addr) (cb : Nat) (w : World) (hLo : ∀ W : World, Calls Try.prog 15 #[.slice A ms.length cap] W fun e w' => e = .returned (.bool false) ∧ W = w') (hw : decide (60 < (vs.length : Int)) = true) :
    Calls Try.prog 7 #[.slice A ms.length cap, .slice B vs.length cb] w fun e w' => e = .returned (.bool true) ∧ Below w.heap.size w w' := by
  have HLo := Lib.hid hLo
  clear hLo
  have t1 := hw
  have HW : Hid (Below w.heap.size w w) := Lib.hid (Below.refl _ _)
  go_enter Try.func7, Try.ntmps7
  go_wp2_with (first
    | (go_at_call 15; with_reducible refine (HLo.out _).mono ?_; rintro e w' ⟨rfl, rfl⟩)
    | (go_at_call 16; refine (awake_any _).mono ?_; rintro e wz ⟨rfl, hBz⟩; have HW : Hid (Below w.heap.size w _) := Lib.hid (below_step HW.out hBz); clear hBz)
    | fail)
  go_ret
  exact ⟨rfl, HW.out⟩

set_option maxRecDepth 100000 in
set_option maxHeartbeats 8000000 in
theorem tellsL_main (ms : List (Int × Int)) (A : Option Addr) (cap : Nat) (vs : List Int) (B : Option Addr) (cb : Nat) (w : World) (n m k : Int) (hLo : ∀ W : World, Calls Try.prog 15 #[.slice A ms.length cap] W fun e w' => e = .returned (.bool false) ∧ W = w') (hw : decide (60 < (vs.length : Int)) = false)
    (h1 : ∀ W, Below w.heap.size w W → Calls Try.prog 42 #[.slice A ms.length cap, .slice B vs.length cb] W fun e w' => e = .returned (.tuple #[.agg #[.int .i64 n, .int .i64 m], .int .i64 k]) ∧ Below W.heap.size W w')
    (h2 : ∀ W, Below w.heap.size w W → Calls Try.prog 43 #[.slice A ms.length cap, .slice B vs.length cb] W fun e w' => e = .returned (.tuple #[.agg #[.int .i64 n, .int .i64 m], .int .i64 k]) ∧ Below W.heap.size W w') :
    Calls Try.prog 7 #[.slice A ms.length cap, .slice B vs.length cb] w fun e w' => e = .returned (.bool true) ∧ Below w.heap.size w w' := by
  have HLo := Lib.hid hLo
  have H1 := Lib.hid h1
  have H2 := Lib.hid h2
  have t1 := hw
  clear hLo h1 h2
  have HW : Hid (Below w.heap.size w w) := Lib.hid (Below.refl _ _)
  go_enter Try.func7, Try.ntmps7
  go_upto_region 3 with (go_at_call 15; with_reducible refine (HLo.out _).mono ?_; rintro e w' ⟨rfl, rfl⟩)
  go_upto_region 4 with (go_at_call 42; with_reducible refine (H1.out _ HW.out).mono ?_; rintro e v1 ⟨rfl, hB1⟩; have HW : Hid (Below w.heap.size w _) := Lib.hid (below_step HW.out hB1); clear hB1)
  have qHWga : w.heap.size ≤ v1.heap.size := HW.out.size
  obtain ⟨X1, hX1, HW, HG⟩ : ∃ X, (v1.alloc (.cells #[.int .i64 n, .int .i64 m] 34)) = X ∧ Hid (Below w.heap.size w X) ∧ Hid (Rt X v1.heap.size (.int .i64 n) (.int .i64 m)) :=
    ⟨_, rfl, Lib.hid (Below.alloc HW.out HW.out.size _), Lib.hid (Rt.new _ _ _)⟩
  rw [hX1]
  clear hX1
  obtain ⟨ga, hga⟩ : ∃ g, v1.heap.size = g := ⟨_, rfl⟩
  rw [hga] at HG qHWga
  try rw [hga]
  clear hga
  have g0 := HG.out.c0
  have g1 := HG.out.c1
  go_upto_region 5 with (go_at_call 43; with_reducible refine (H2.out _ HW.out).mono ?_; rintro e v2 ⟨rfl, hB2⟩; have HG := Lib.hid (Rt.below HG.out hB2); have g0 := HG.out.c0; have g1 := HG.out.c1; have HW : Hid (Below w.heap.size w _) := Lib.hid (below_step HW.out hB2); clear hB2)
  have qggb : ga < v2.heap.size := HG.out.lt
  have qHWgb : w.heap.size ≤ v2.heap.size := HW.out.size
  obtain ⟨X2, hX2, HW, HK, HG⟩ : ∃ X, (v2.alloc (.cells #[.int .i64 n, .int .i64 m] 34)) = X ∧ Hid (Below w.heap.size w X) ∧ Hid (Rt X v2.heap.size (.int .i64 n) (.int .i64 m)) ∧ Hid (Rt X ga (.int .i64 n) (.int .i64 m)) :=
    ⟨_, rfl, Lib.hid (Below.alloc HW.out HW.out.size _), Lib.hid (Rt.new _ _ _), Lib.hid (HG.out.alloc _)⟩
  rw [hX2]
  clear hX2
  obtain ⟨gb, hgb⟩ : ∃ g, v2.heap.size = g := ⟨_, rfl⟩
  rw [hgb] at HK qggb qHWgb
  try rw [hgb]
  clear hgb
  have g0 := HG.out.c0
  have g1 := HG.out.c1
  have r0 := HK.out.c0
  have r1 := HK.out.c1
  go_wp2_with (first
    | (go_at_call 16; refine (awake_any _).mono ?_; rintro e wz ⟨rfl, hBz⟩; have HW : Hid (Below w.heap.size w _) := Lib.hid (below_step HW.out hBz); clear hBz)
    | fail)
  go_ret
  exact ⟨rfl, HW.out⟩

theorem trackTells_walk (ms : List (Int × Int)) (A : Option Addr) (cap : Nat) (vs : List Int) (B : Option Addr) (cb : Nat) (w : World) (hA : Marks w A ms) (hc : ms.length ≤ cap) (hc0 : cap ≤ maxLen) (hB : Ints w B vs) (hd : vs.length ≤ cb) (hd0 : cb ≤ maxLen) :
    Calls Try.prog 7 #[.slice A ms.length cap, .slice B vs.length cb] w fun e w' => e = .returned (.bool true) ∧ Below w.heap.size w w' := by
  have H : Clk w A cap ms := ⟨hA, hc, hc0⟩
  have hlo := fun W => lawLong_any ms A cap W
  cases hm : decide (60 < ms.length) with
  | true => exact tellsL_long ms A cap vs B cb w (fun W => by have := hlo W; rwa [hm] at this)
  | false =>
    have hlo' : ∀ W : World, Calls Try.prog 15 #[.slice A ms.length cap] W fun e w' => e = .returned (.bool false) ∧ W = w' := fun W => by have := hlo W; rwa [hm] at this
    cases hw : decide (60 < (vs.length : Int)) with
    | true => exact tellsL_wide ms A cap vs B cb w hlo' hw
    | false =>
      have hvl : vs.length ≤ 60 := by have := of_decide_eq_false hw; omega
      exact tellsL_main ms A cap vs B cb w _ _ _ hlo' hw (fun W hW => tellsT_any ms A cap vs B cb W (H.below hW) (hB.below hW) (by omega)) (fun W hW => refTells_any ms A cap vs B cb W (H.below hW) (hB.below hW) (by omega) hd hd0)
end Go.Proofs.Ytoilbgngefleiaa
