/-
  Contract: Through (track).
-/
import Derived.Test.YtoilbgngefleiaaBestM
import Derived.Test.YtoilbgngefleiaaBoxes
import Derived.Deep.CutRange
namespace Go.Proofs.Ytoilbgngefleiaa
open Go.RowKit Go.Shelf
set_option linter.unusedVariables false
set_option linter.unusedSimpArgs false

theorem two_marks (w : World) (x y u v : Int) : Marks (w.alloc (.cells #[.int .i64 x, .int .i64 y, .int .i64 u, .int .i64 v] 54)) (some ⟨w.heap.size, 0, none⟩) [(x, y), (u, v)] := by
  refine ⟨by simp [mk2], fun _ => ⟨_, rfl, by simp, fun j z hj => ?_⟩⟩
  rw [add_mk, cell_of_row _ w.heap.size (0 + j) _ _ (0, 0) (heap_alloc_new w _)]
  simpa [mk2] using hj
set_option maxRecDepth 100000 in
set_option maxHeartbeats 2000000 in
theorem throughT_bad (x y u v : Int) (w : World) (h : ¬ (ptB (x, y) = true ∧ ptB (u, v) = true)) :
    Calls Try.prog 51 #[.agg #[.int .i64 x, .int .i64 y], .agg #[.int .i64 u, .int .i64 v]] w fun e w' => e = .returned (.tuple #[.agg #[.int .i64 0, .int .i64 0, .int .i64 0], .int .i64 50]) ∧ Below w.heap.size w w' := by
  have HPL : Hid ([(x, y), (u, v)].all ptB = false) := Lib.hid (by simp only [List.all_cons, List.all_nil, Bool.and_true]; cases h1 : ptB (x, y) <;> cases h2 : ptB (u, v) <;> simp_all)
  clear h
  obtain ⟨W0, hW0, HW, HP, HQ, HG⟩ : ∃ W0, W0 = ((w.alloc (.cells #[.int .i64 x, .int .i64 y] 54)).alloc (.cells #[.int .i64 u, .int .i64 v] 54)).alloc (.cells #[.int .i64 0, .int .i64 0, .int .i64 0] 24) ∧ Hid (Below w.heap.size w W0) ∧ Hid (Pt W0 w.heap.size (.int .i64 x) (.int .i64 y)) ∧ Hid (Pt W0 (w.heap.size + 1) (.int .i64 u) (.int .i64 v)) ∧ Hid (Lt W0 (w.heap.size + 1 + 1) (.int .i64 0) (.int .i64 0) (.int .i64 0)) :=
    ⟨_, rfl, Lib.hid ((((Below.refl _ _).alloc (Nat.le_refl _) _).alloc (by simp) _).alloc (by simp <;> omega) _), Lib.hid (((Pt.new _ _ _).alloc _).alloc _), Lib.hid (Pt.alloc (by simpa using Pt.new (w.alloc (.cells #[.int .i64 x, .int .i64 y] 54)) (.int .i64 u) (.int .i64 v)) _), Lib.hid (by simpa using Lt.new ((w.alloc (.cells #[.int .i64 x, .int .i64 y] 54)).alloc (.cells #[.int .i64 u, .int .i64 v] 54)) (.int .i64 0) (.int .i64 0) (.int .i64 0))⟩
  have p0 := HP.out.c0
  have p1 := HP.out.c1
  have q0 := HQ.out.c0
  have q1 := HQ.out.c1
  have g0 := HG.out.c0
  have g1 := HG.out.c1
  have g2 := HG.out.c2
  have gf0 := HG.out.f 0
  have gf1 := HG.out.f 1
  have gf2 := HG.out.f 2
  go_enter Try.func51, Try.ntmps51
  go_upto_region 1 with (fail)
  rw [← hW0]
  clear hW0
  go_wp2_with (first
    | (go_at_call 62; refine (placed_any [(x, y), (u, v)] (some ⟨W0.heap.size, 0, none⟩) 2 _ (two_marks W0 x y u v) (by simp)).mono ?_; rintro e w1 ⟨rfl, hB1⟩; rw [HPL.out]; have hB1 : Below W0.heap.size W0 w1 := (((Below.refl W0.heap.size W0).alloc (Nat.le_refl _) _).trans (hB1.mono (by simp))); have HP := Lib.hid (Pt.below HP.out hB1); have p0 := HP.out.c0; have p1 := HP.out.c1; have HQ := Lib.hid (Pt.below HQ.out hB1); have q0 := HQ.out.c0; have q1 := HQ.out.c1; have HG := Lib.hid (Lt.below HG.out hB1); have g0 := HG.out.c0; have g1 := HG.out.c1; have g2 := HG.out.c2; have gf0 := HG.out.f 0; have gf1 := HG.out.f 1; have gf2 := HG.out.f 2; have HW : Hid (Below w.heap.size w _) := Lib.hid (below_step HW.out hB1); clear hB1)
    | fail)
  exact bodyPost_ret (v := .tuple #[.agg #[.int .i64 0, .int .i64 0, .int .i64 0], .int .i64 50]) (by simp [results, Try.results51, go_sem, g0, g1, g2]) rfl ⟨rfl, by
    repeat (first | with_reducible exact HW.out | refine Below.setCell ?_ (show w.heap.size ≤ w.heap.size + 1 + 1 by omega) _)⟩
set_option maxRecDepth 100000 in
set_option maxHeartbeats 2000000 in
theorem throughT_none (x y u v : Int) (w : World) (h1 : ptB (x, y) = true) (h2 : ptB (u, v) = true) (h : x = u) :
    Calls Try.prog 51 #[.agg #[.int .i64 x, .int .i64 y], .agg #[.int .i64 u, .int .i64 v]] w fun e w' => e = .returned (.tuple #[.agg #[.int .i64 0, .int .i64 0, .int .i64 0], .int .i64 5]) ∧ Below w.heap.size w w' := by
  have HPL : Hid ([(x, y), (u, v)].all ptB = true) := Lib.hid (by simp [h1, h2])
  have t1 : (x == u) = true := by simpa using h
  clear h1 h2 h
  obtain ⟨W0, hW0, HW, HP, HQ, HG⟩ : ∃ W0, W0 = ((w.alloc (.cells #[.int .i64 x, .int .i64 y] 54)).alloc (.cells #[.int .i64 u, .int .i64 v] 54)).alloc (.cells #[.int .i64 0, .int .i64 0, .int .i64 0] 24) ∧ Hid (Below w.heap.size w W0) ∧ Hid (Pt W0 w.heap.size (.int .i64 x) (.int .i64 y)) ∧ Hid (Pt W0 (w.heap.size + 1) (.int .i64 u) (.int .i64 v)) ∧ Hid (Lt W0 (w.heap.size + 1 + 1) (.int .i64 0) (.int .i64 0) (.int .i64 0)) :=
    ⟨_, rfl, Lib.hid ((((Below.refl _ _).alloc (Nat.le_refl _) _).alloc (by simp) _).alloc (by simp <;> omega) _), Lib.hid (((Pt.new _ _ _).alloc _).alloc _), Lib.hid (Pt.alloc (by simpa using Pt.new (w.alloc (.cells #[.int .i64 x, .int .i64 y] 54)) (.int .i64 u) (.int .i64 v)) _), Lib.hid (by simpa using Lt.new ((w.alloc (.cells #[.int .i64 x, .int .i64 y] 54)).alloc (.cells #[.int .i64 u, .int .i64 v] 54)) (.int .i64 0) (.int .i64 0) (.int .i64 0))⟩
  have p0 := HP.out.c0
  have p1 := HP.out.c1
  have q0 := HQ.out.c0
  have q1 := HQ.out.c1
  have g0 := HG.out.c0
  have g1 := HG.out.c1
  have g2 := HG.out.c2
  have gf0 := HG.out.f 0
  have gf1 := HG.out.f 1
  have gf2 := HG.out.f 2
  go_enter Try.func51, Try.ntmps51
  go_upto_region 1 with (fail)
  rw [← hW0]
  clear hW0
  go_wp2_with (first
    | (go_at_call 62; refine (placed_any [(x, y), (u, v)] (some ⟨W0.heap.size, 0, none⟩) 2 _ (two_marks W0 x y u v) (by simp)).mono ?_; rintro e w1 ⟨rfl, hB1⟩; rw [HPL.out]; have hB1 : Below W0.heap.size W0 w1 := (((Below.refl W0.heap.size W0).alloc (Nat.le_refl _) _).trans (hB1.mono (by simp))); have HP := Lib.hid (Pt.below HP.out hB1); have p0 := HP.out.c0; have p1 := HP.out.c1; have HQ := Lib.hid (Pt.below HQ.out hB1); have q0 := HQ.out.c0; have q1 := HQ.out.c1; have HG := Lib.hid (Lt.below HG.out hB1); have g0 := HG.out.c0; have g1 := HG.out.c1; have g2 := HG.out.c2; have gf0 := HG.out.f 0; have gf1 := HG.out.f 1; have gf2 := HG.out.f 2; have HW : Hid (Below w.heap.size w _) := Lib.hid (below_step HW.out hB1); clear hB1)
    | fail)
  exact bodyPost_ret (v := .tuple #[.agg #[.int .i64 0, .int .i64 0, .int .i64 0], .int .i64 5]) (by simp [results, Try.results51, go_sem, g0, g1, g2]) rfl ⟨rfl, by
    repeat (first | with_reducible exact HW.out | refine Below.setCell ?_ (show w.heap.size ≤ w.heap.size + 1 + 1 by omega) _)⟩
set_option maxRecDepth 100000 in
set_option maxHeartbeats 2000000 in
theorem throughT_yes (x y u v : Int) (w : World) (h1 : ptB (x, y) = true) (h2 : ptB (u, v) = true) (h : x ≠ u) :
    Calls Try.prog 51 #[.agg #[.int .i64 x, .int .i64 y], .agg #[.int .i64 u, .int .i64 v]] w fun e w' => e = .returned (.tuple #[.agg #[.int .i64 (thA (x, y) (u, v)), .int .i64 (thB (x, y) (u, v)), .int .i64 (thD (x, y) (u, v))], .int .i64 0]) ∧ Below w.heap.size w w' := by
  have HPL : Hid ([(x, y), (u, v)].all ptB = true) := Lib.hid (by simp [h1, h2])
  have t1 : (x == u) = false := by simpa using h
  obtain ⟨a, ha⟩ : ∃ z, thA (x, y) (u, v) = z := ⟨_, rfl⟩
  obtain ⟨b, hb⟩ : ∃ z, thB (x, y) (u, v) = z := ⟨_, rfl⟩
  obtain ⟨d, hd⟩ : ∃ z, thD (x, y) (u, v) = z := ⟨_, rfl⟩
  have HTH : Hid (∀ V : World, Calls Try.prog 81 #[.agg #[.int .i64 x, .int .i64 y], .agg #[.int .i64 u, .int .i64 v]] V fun e w' => e = .returned (.agg #[.int .i64 a, .int .i64 b, .int .i64 d]) ∧ Below V.heap.size V w') := Lib.hid (fun V => by
    have := through_any x y u v V h1 h2 h
    rw [ha, hb, hd] at this
    exact this)
  rw [ha, hb, hd]
  clear h1 h2 h ha hb hd
  obtain ⟨W0, hW0, HW, HP, HQ, HG⟩ : ∃ W0, W0 = ((w.alloc (.cells #[.int .i64 x, .int .i64 y] 54)).alloc (.cells #[.int .i64 u, .int .i64 v] 54)).alloc (.cells #[.int .i64 0, .int .i64 0, .int .i64 0] 24) ∧ Hid (Below w.heap.size w W0) ∧ Hid (Pt W0 w.heap.size (.int .i64 x) (.int .i64 y)) ∧ Hid (Pt W0 (w.heap.size + 1) (.int .i64 u) (.int .i64 v)) ∧ Hid (Lt W0 (w.heap.size + 1 + 1) (.int .i64 0) (.int .i64 0) (.int .i64 0)) :=
    ⟨_, rfl, Lib.hid ((((Below.refl _ _).alloc (Nat.le_refl _) _).alloc (by simp) _).alloc (by simp <;> omega) _), Lib.hid (((Pt.new _ _ _).alloc _).alloc _), Lib.hid (Pt.alloc (by simpa using Pt.new (w.alloc (.cells #[.int .i64 x, .int .i64 y] 54)) (.int .i64 u) (.int .i64 v)) _), Lib.hid (by simpa using Lt.new ((w.alloc (.cells #[.int .i64 x, .int .i64 y] 54)).alloc (.cells #[.int .i64 u, .int .i64 v] 54)) (.int .i64 0) (.int .i64 0) (.int .i64 0))⟩
  have p0 := HP.out.c0
  have p1 := HP.out.c1
  have q0 := HQ.out.c0
  have q1 := HQ.out.c1
  have g0 := HG.out.c0
  have g1 := HG.out.c1
  have g2 := HG.out.c2
  have gf0 := HG.out.f 0
  have gf1 := HG.out.f 1
  have gf2 := HG.out.f 2
  go_enter Try.func51, Try.ntmps51
  go_upto_region 1 with (fail)
  rw [← hW0]
  clear hW0
  go_wp2_with (first
    | (go_at_call 62; refine (placed_any [(x, y), (u, v)] (some ⟨W0.heap.size, 0, none⟩) 2 _ (two_marks W0 x y u v) (by simp)).mono ?_; rintro e w1 ⟨rfl, hB1⟩; rw [HPL.out]; have hB1 : Below W0.heap.size W0 w1 := (((Below.refl W0.heap.size W0).alloc (Nat.le_refl _) _).trans (hB1.mono (by simp))); have HP := Lib.hid (Pt.below HP.out hB1); have p0 := HP.out.c0; have p1 := HP.out.c1; have HQ := Lib.hid (Pt.below HQ.out hB1); have q0 := HQ.out.c0; have q1 := HQ.out.c1; have HG := Lib.hid (Lt.below HG.out hB1); have g0 := HG.out.c0; have g1 := HG.out.c1; have g2 := HG.out.c2; have gf0 := HG.out.f 0; have gf1 := HG.out.f 1; have gf2 := HG.out.f 2; have HW : Hid (Below w.heap.size w _) := Lib.hid (below_step HW.out hB1); clear hB1)
    | (go_at_call 81; with_reducible refine (HTH.out _).mono ?_; rintro e w2 ⟨rfl, hB2⟩; have HP := Lib.hid (Pt.below HP.out hB2); have p0 := HP.out.c0; have p1 := HP.out.c1; have HQ := Lib.hid (Pt.below HQ.out hB2); have q0 := HQ.out.c0; have q1 := HQ.out.c1; have HG := Lib.hid (Lt.below HG.out hB2); have g0 := HG.out.c0; have g1 := HG.out.c1; have g2 := HG.out.c2; have gf0 := HG.out.f 0; have gf1 := HG.out.f 1; have gf2 := HG.out.f 2; have HW : Hid (Below w.heap.size w _) := Lib.hid (below_step HW.out hB2); clear hB2)
    | fail)
  exact bodyPost_ret (v := .tuple #[.agg #[.int .i64 a, .int .i64 b, .int .i64 d], .int .i64 0]) (by simp [results, Try.results51, go_sem, g0, g1, g2]) rfl ⟨rfl, by
    repeat (first | with_reducible exact HW.out | refine Below.setCell ?_ (show w.heap.size ≤ w.heap.size + 1 + 1 by omega) _)⟩
end Go.Proofs.Ytoilbgngefleiaa
