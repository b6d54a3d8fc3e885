/-
  Contract: Narrowest (firnref05).
-/
import Derived.Test.YtoilbgngefleiaaRefNar
namespace Go.Proofs.Ytoilbgngefleiaa
open Go.RowKit Go.Shelf
set_option linter.unusedVariables false
set_option linter.unusedSimpArgs false

set_option maxRecDepth 100000 in
set_option maxHeartbeats 2000000 in
theorem refNarrowest_no (ms : List (Int × Int)) (A : Option Addr) (c : Nat) (w : World) (h : Clk w A c ms) (hv : viP ms = false) :
    Calls Try.prog 34 #[.slice A ms.length c] w fun e w' => e = .returned (.tuple #[.agg #[.int .i64 0, .int .i64 0], .int .i64 50]) ∧ Below w.heap.size w w' := by
  have H := Lib.hid h
  have HV := Lib.hid hv
  obtain ⟨W0, hW0, HW, HG⟩ : ∃ W0, W0 = w.alloc (.cells #[.int .i64 0, .int .i64 0] 34) ∧ Hid (Below w.heap.size w W0) ∧ Hid (Rt W0 w.heap.size (.int .i64 0) (.int .i64 0)) :=
    ⟨_, rfl, Lib.hid ((Below.refl _ _).alloc (Nat.le_refl _) _), Lib.hid (Rt.new _ _ _)⟩
  clear h hv
  go_enter Try.func34, Try.ntmps34
  go_upto_region 1 with (fail)
  rw [← hW0]
  clear hW0
  go_wp2_with (first
    | (go_at_call 20; refine (refValid_any ms A c _ (H.out.below HW.out).marks H.out.len).mono ?_; rintro e w1 ⟨rfl, hB1⟩; rw [HV.out]; have HG := Lib.hid (Rt.below HG.out hB1); have g0 := HG.out.c0; have g1 := HG.out.c1; have gf0 := HG.out.f 0; have gf1 := HG.out.f 1; have HW : Hid (Below w.heap.size w _) := Lib.hid (below_step HW.out hB1); clear hB1)
    | fail)
  exact bodyPost_ret (v := .tuple #[.agg #[.int .i64 0, .int .i64 0], .int .i64 50]) (by simp [results, Try.results34, go_sem, g0, g1]) rfl ⟨rfl, by
    repeat (first | with_reducible exact HW.out | refine Below.setCell ?_ (Nat.le_refl w.heap.size) _)⟩
set_option maxRecDepth 100000 in
set_option maxHeartbeats 2000000 in
theorem refNarrowest_yes (ms : List (Int × Int)) (A : Option Addr) (c : Nat) (w : World) (h : Clk w A c ms) (hv : viP ms = true) :
    Calls Try.prog 34 #[.slice A ms.length c] w fun e w' => e = .returned (.tuple #[.agg #[.int .i64 (nrV ms).1, .int .i64 (nrV ms).2], .int .i64 0]) ∧ Below w.heap.size w w' := by
  obtain ⟨⟨hn1, hn2⟩, hpt, _⟩ := vi_parts hv
  have HPT := Lib.hid hpt
  obtain ⟨⟨rn, rd⟩, hr⟩ : ∃ z, nrV ms = z := ⟨_, rfl⟩
  have HR0 := Lib.hid hr
  rw [hr]
  clear hr hpt
  have H := Lib.hid h
  have HV := Lib.hid hv
  obtain ⟨W0, hW0, HW, HG⟩ : ∃ W0, W0 = w.alloc (.cells #[.int .i64 0, .int .i64 0] 34) ∧ Hid (Below w.heap.size w W0) ∧ Hid (Rt W0 w.heap.size (.int .i64 0) (.int .i64 0)) :=
    ⟨_, rfl, Lib.hid ((Below.refl _ _).alloc (Nat.le_refl _) _), Lib.hid (Rt.new _ _ _)⟩
  clear h hv
  go_enter Try.func34, Try.ntmps34
  go_upto_region 1 with (fail)
  rw [← hW0]
  clear hW0
  have g0 := HG.out.c0
  have g1 := HG.out.c1
  have gf0 := HG.out.f 0
  have gf1 := HG.out.f 1
  go_upto_region 3 with (go_at_call 20; refine (refValid_any ms A c _ (H.out.below HW.out).marks H.out.len).mono ?_; rintro e w1 ⟨rfl, hB1⟩; rw [HV.out]; have HG := Lib.hid (Rt.below HG.out hB1); have g0 := HG.out.c0; have g1 := HG.out.c1; have gf0 := HG.out.f 0; have gf1 := HG.out.f 1; have HW : Hid (Below w.heap.size w _) := Lib.hid (below_step HW.out hB1); clear hB1)
  go_upto_region 4 with (go_at_call 73; refine (refNar_any ms A c _ (H.out.below HW.out) hn2 HPT.out).mono ?_; rintro e w2 ⟨f, gf, n2, d2, rfl, hB1, hN⟩; have HG := Lib.hid (Rt.below HG.out hB1); have g0 := HG.out.c0; have g1 := HG.out.c1; have gf0 := HG.out.f 0; have gf1 := HG.out.f 1; have HW : Hid (Below w.heap.size w _) := Lib.hid (below_step HW.out hB1); have hE := (nw_end HV.out hN.out.1).trans HR0.out; injection hE with hE1 hE2; subst hE1; subst hE2; clear hB1)
  have qgga : w.heap.size < w2.heap.size := HG.out.lt
  have qHWga : w.heap.size ≤ w2.heap.size := HW.out.size
  obtain ⟨X2, hX2, HW, HK, HG⟩ : ∃ X, (w2.alloc (.cells #[.int .i64 n2, .int .i64 d2] 34)) = X ∧ Hid (Below w.heap.size w X) ∧ Hid (Rt X w2.heap.size (.int .i64 n2) (.int .i64 d2)) ∧ Hid (Rt X w.heap.size (.int .i64 0) (.int .i64 0)) :=
    ⟨_, rfl, Lib.hid (Below.alloc HW.out HW.out.size _), Lib.hid (Rt.new _ _ _), Lib.hid (HG.out.alloc _)⟩
  rw [hX2]
  clear hX2
  obtain ⟨ga, hga⟩ : ∃ g, w2.heap.size = g := ⟨_, rfl⟩
  rw [hga] at HK qgga qHWga
  try rw [hga]
  clear hga
  have g0 := HG.out.c0
  have g1 := HG.out.c1
  have gf0 := HG.out.f 0
  have gf1 := HG.out.f 1
  have r0 := HK.out.c0
  have r1 := HK.out.c1
  go_wp2
  exact bodyPost_ret (v := .tuple #[.agg #[.int .i64 n2, .int .i64 d2], .int .i64 0]) (by simp [results, Try.results34, go_sem, g0, g1]) rfl ⟨rfl, by
    repeat (first | with_reducible exact HW.out | refine Below.setCell ?_ (Nat.le_refl w.heap.size) _)⟩
end Go.Proofs.Ytoilbgngefleiaa
