/-
  Contract: Tells (firnref05).
-/
import Derived.Test.YtoilbgngefleiaaRefTells
namespace Go.Proofs.Ytoilbgngefleiaa
open Go.RowKit Go.Shelf
set_option linter.unusedVariables false
set_option linter.unusedSimpArgs false

set_option maxRecDepth 100000 in
set_option maxHeartbeats 2000000 in
theorem refTells_inv (ms : List (Int × Int)) (A : Option Addr) (c : Nat) (l : List Int) (B : Option Addr) (cb : Nat) (w : World) (h : Clk w A c ms) (hB : Ints w B l) (hl : l.length ≤ 1000) (hcb : l.length ≤ cb) (hcb2 : cb ≤ maxLen) (hv : viP ms = false) :
    Calls Try.prog 43 #[.slice A ms.length c, .slice B l.length cb] w fun e w' => e = .returned (.tuple #[.agg #[.int .i64 (teV ms l).1, .int .i64 (teV ms l).2], .int .i64 (teE ms l)]) ∧ Below w.heap.size w w' := by
  have HE := Lib.hid (te_ret (ms := ms) (l := l) (a := 0) (b := 0) (e := 50) (by rw [teV, hv]; rfl) (by rw [teE, hv]; rfl))
  have H := Lib.hid h
  have HB := Lib.hid hB
  have HV := Lib.hid hv
  clear h hB hv
  obtain ⟨W0, hW0, HW, HG⟩ : ∃ W0, W0 = w.alloc (.cells #[.int .i64 0, .int .i64 0] 34) ∧ Hid (Below w.heap.size w W0) ∧ Hid (Rt W0 w.heap.size (.int .i64 0) (.int .i64 0)) :=
    ⟨_, rfl, Lib.hid ((Below.refl _ _).alloc (Nat.le_refl _) _), Lib.hid (Rt.new _ _ _)⟩
  go_enter Try.func43, Try.ntmps43
  go_upto_region 1 with (fail)
  rw [← hW0]
  clear hW0
  go_wp2_with (first
    | (go_at_call 20; refine (refValid_any ms A c _ (H.out.below HW.out).marks H.out.len).mono ?_; rintro e w1 ⟨rfl, hB1⟩; rw [HV.out]; have HG := Lib.hid (Rt.below HG.out hB1); have g0 := HG.out.c0; have g1 := HG.out.c1; have gf0 := HG.out.f 0; have gf1 := HG.out.f 1; have HW : Hid (Below w.heap.size w _) := Lib.hid (below_step HW.out hB1); clear hB1)
    | fail)
  exact bodyPost_ret (v := .tuple #[.agg #[.int .i64 0, .int .i64 0], .int .i64 50]) (by simp [results, Try.results43, go_sem, g0, g1]) rfl ⟨HE.out, by
    repeat (first | with_reducible exact HW.out | refine Below.setCell ?_ (Nat.le_refl w.heap.size) _)⟩
set_option maxRecDepth 100000 in
set_option maxHeartbeats 2000000 in
theorem refTells_no (ms : List (Int × Int)) (A : Option Addr) (c : Nat) (l : List Int) (B : Option Addr) (cb : Nat) (w : World) (h : Clk w A c ms) (hB : Ints w B l) (hl : l.length ≤ 1000) (hcb : l.length ≤ cb) (hcb2 : cb ≤ maxLen) (hv : viP ms = true) (hw : wiB ms l = false) :
    Calls Try.prog 43 #[.slice A ms.length c, .slice B l.length cb] w fun e w' => e = .returned (.tuple #[.agg #[.int .i64 (teV ms l).1, .int .i64 (teV ms l).2], .int .i64 (teE ms l)]) ∧ Below w.heap.size w w' := by
  have HE := Lib.hid (te_ret (ms := ms) (l := l) (a := 0) (b := 0) (e := 2) (by rw [teV, hv, hw]; rfl) (by rw [teE, hv, hw]; rfl))
  have HT : Hid (twV ms l = (0, 0)) := Lib.hid (by rw [twV, hw]; rfl)
  have HPT := Lib.hid (vi_parts hv).2.1
  have HWI := Lib.hid hw
  clear hw
  have H := Lib.hid h
  have HB := Lib.hid hB
  have HV := Lib.hid hv
  clear h hB hv
  obtain ⟨W0, hW0, HW, HG⟩ : ∃ W0, W0 = w.alloc (.cells #[.int .i64 0, .int .i64 0] 34) ∧ Hid (Below w.heap.size w W0) ∧ Hid (Rt W0 w.heap.size (.int .i64 0) (.int .i64 0)) :=
    ⟨_, rfl, Lib.hid ((Below.refl _ _).alloc (Nat.le_refl _) _), Lib.hid (Rt.new _ _ _)⟩
  go_enter Try.func43, Try.ntmps43
  go_upto_region 1 with (fail)
  rw [← hW0]
  clear hW0
  have g0 := HG.out.c0
  have g1 := HG.out.c1
  have gf0 := HG.out.f 0
  have gf1 := HG.out.f 1
  go_upto_region 3 with (go_at_call 20; refine (refValid_any ms A c _ (H.out.below HW.out).marks H.out.len).mono ?_; rintro e w1 ⟨rfl, hB1⟩; rw [HV.out]; have HG := Lib.hid (Rt.below HG.out hB1); have g0 := HG.out.c0; have g1 := HG.out.c1; have gf0 := HG.out.f 0; have gf1 := HG.out.f 1; have HW : Hid (Below w.heap.size w _) := Lib.hid (below_step HW.out hB1); clear hB1)
  go_upto_region 4 with (go_at_call 79; refine (refTells1_any ms A c l B cb _ (H.out.below HW.out) (HB.out.below HW.out) hl hcb hcb2 HPT.out).mono ?_; rintro e w2 ⟨rfl, hB1⟩; rw [HT.out, HWI.out]; have HG := Lib.hid (Rt.below HG.out hB1); have g0 := HG.out.c0; have g1 := HG.out.c1; have gf0 := HG.out.f 0; have gf1 := HG.out.f 1; have HW : Hid (Below w.heap.size w _) := Lib.hid (below_step HW.out hB1); clear hB1)
  have qgga : w.heap.size < w2.heap.size := HG.out.lt
  have qHWga : w.heap.size ≤ w2.heap.size := HW.out.size
  obtain ⟨X2, hX2, HW, HR, HG⟩ : ∃ X, (w2.alloc (.cells #[.int .i64 0, .int .i64 0] 34)) = X ∧ Hid (Below w.heap.size w X) ∧ Hid (Rt X w2.heap.size (.int .i64 0) (.int .i64 0)) ∧ Hid (Rt X w.heap.size (.int .i64 0) (.int .i64 0)) :=
    ⟨_, rfl, Lib.hid (Below.alloc HW.out HW.out.size _), Lib.hid (Rt.new _ _ _), Lib.hid (HG.out.alloc _)⟩
  rw [hX2]
  clear hX2
  obtain ⟨ga, hga⟩ : ∃ g, w2.heap.size = g := ⟨_, rfl⟩
  rw [hga] at HR qgga qHWga
  try rw [hga]
  clear hga
  have g0 := HG.out.c0
  have g1 := HG.out.c1
  have gf0 := HG.out.f 0
  have gf1 := HG.out.f 1
  have r0 := HR.out.c0
  have r1 := HR.out.c1
  go_wp2
  exact bodyPost_ret (v := .tuple #[.agg #[.int .i64 0, .int .i64 0], .int .i64 2]) (by simp [results, Try.results43, go_sem, g0, g1]) rfl ⟨HE.out, by
    repeat (first | with_reducible exact HW.out | refine Below.setCell ?_ (Nat.le_refl w.heap.size) _)⟩
set_option maxRecDepth 100000 in
set_option maxHeartbeats 2000000 in
theorem refTells_yes (ms : List (Int × Int)) (A : Option Addr) (c : Nat) (l : List Int) (B : Option Addr) (cb : Nat) (w : World) (h : Clk w A c ms) (hB : Ints w B l) (hl : l.length ≤ 1000) (hcb : l.length ≤ cb) (hcb2 : cb ≤ maxLen) (hv : viP ms = true) (hw : wiB ms l = true) :
    Calls Try.prog 43 #[.slice A ms.length c, .slice B l.length cb] w fun e w' => e = .returned (.tuple #[.agg #[.int .i64 (teV ms l).1, .int .i64 (teV ms l).2], .int .i64 (teE ms l)]) ∧ Below w.heap.size w w' := by
  obtain ⟨⟨rn, rd⟩, hr⟩ : ∃ z, tlV ms l = z := ⟨_, rfl⟩
  have HE := Lib.hid (te_ret (ms := ms) (l := l) (a := rn) (b := rd) (e := 0) (by rw [teV, hv, hw, ← hr]; rfl) (by rw [teE, hv, hw]; rfl))
  have HT : Hid (twV ms l = (rn, rd)) := Lib.hid (by rw [twV, hw, ← hr]; rfl)
  have HPT := Lib.hid (vi_parts hv).2.1
  have HWI := Lib.hid hw
  clear hw hr
  have H := Lib.hid h
  have HB := Lib.hid hB
  have HV := Lib.hid hv
  clear h hB hv
  obtain ⟨W0, hW0, HW, HG⟩ : ∃ W0, W0 = w.alloc (.cells #[.int .i64 0, .int .i64 0] 34) ∧ Hid (Below w.heap.size w W0) ∧ Hid (Rt W0 w.heap.size (.int .i64 0) (.int .i64 0)) :=
    ⟨_, rfl, Lib.hid ((Below.refl _ _).alloc (Nat.le_refl _) _), Lib.hid (Rt.new _ _ _)⟩
  go_enter Try.func43, Try.ntmps43
  go_upto_region 1 with (fail)
  rw [← hW0]
  clear hW0
  have g0 := HG.out.c0
  have g1 := HG.out.c1
  have gf0 := HG.out.f 0
  have gf1 := HG.out.f 1
  go_upto_region 3 with (go_at_call 20; refine (refValid_any ms A c _ (H.out.below HW.out).marks H.out.len).mono ?_; rintro e w1 ⟨rfl, hB1⟩; rw [HV.out]; have HG := Lib.hid (Rt.below HG.out hB1); have g0 := HG.out.c0; have g1 := HG.out.c1; have gf0 := HG.out.f 0; have gf1 := HG.out.f 1; have HW : Hid (Below w.heap.size w _) := Lib.hid (below_step HW.out hB1); clear hB1)
  go_upto_region 4 with (go_at_call 79; refine (refTells1_any ms A c l B cb _ (H.out.below HW.out) (HB.out.below HW.out) hl hcb hcb2 HPT.out).mono ?_; rintro e w2 ⟨rfl, hB1⟩; rw [HT.out, HWI.out]; have HG := Lib.hid (Rt.below HG.out hB1); have g0 := HG.out.c0; have g1 := HG.out.c1; have gf0 := HG.out.f 0; have gf1 := HG.out.f 1; have HW : Hid (Below w.heap.size w _) := Lib.hid (below_step HW.out hB1); clear hB1)
  have qgga : w.heap.size < w2.heap.size := HG.out.lt
  have qHWga : w.heap.size ≤ w2.heap.size := HW.out.size
  obtain ⟨X2, hX2, HW, HR, HG⟩ : ∃ X, (w2.alloc (.cells #[.int .i64 rn, .int .i64 rd] 34)) = X ∧ Hid (Below w.heap.size w X) ∧ Hid (Rt X w2.heap.size (.int .i64 rn) (.int .i64 rd)) ∧ Hid (Rt X w.heap.size (.int .i64 0) (.int .i64 0)) :=
    ⟨_, rfl, Lib.hid (Below.alloc HW.out HW.out.size _), Lib.hid (Rt.new _ _ _), Lib.hid (HG.out.alloc _)⟩
  rw [hX2]
  clear hX2
  obtain ⟨ga, hga⟩ : ∃ g, w2.heap.size = g := ⟨_, rfl⟩
  rw [hga] at HR qgga qHWga
  try rw [hga]
  clear hga
  have g0 := HG.out.c0
  have g1 := HG.out.c1
  have gf0 := HG.out.f 0
  have gf1 := HG.out.f 1
  have r0 := HR.out.c0
  have r1 := HR.out.c1
  go_wp2
  exact bodyPost_ret (v := .tuple #[.agg #[.int .i64 rn, .int .i64 rd], .int .i64 0]) (by simp [results, Try.results43, go_sem, g0, g1]) rfl ⟨HE.out, by
    repeat (first | with_reducible exact HW.out | refine Below.setCell ?_ (Nat.le_refl w.heap.size) _)⟩
theorem refTells_any (ms : List (Int × Int)) (A : Option Addr) (c : Nat) (l : List Int) (B : Option Addr) (cb : Nat) (w : World) (h : Clk w A c ms) (hB : Ints w B l) (hl : l.length ≤ 1000) (hcb : l.length ≤ cb) (hcb2 : cb ≤ maxLen) :
    Calls Try.prog 43 #[.slice A ms.length c, .slice B l.length cb] w fun e w' => e = .returned (.tuple #[.agg #[.int .i64 (teV ms l).1, .int .i64 (teV ms l).2], .int .i64 (teE ms l)]) ∧ Below w.heap.size w w' := by
  cases hv : viP ms with
  | false => exact refTells_inv ms A c l B cb w h hB hl hcb hcb2 hv
  | true =>
    cases hw : wiB ms l with
    | false => exact refTells_no ms A c l B cb w h hB hl hcb hcb2 hv hw
    | true => exact refTells_yes ms A c l B cb w h hB hl hcb hcb2 hv hw
end Go.Proofs.Ytoilbgngefleiaa
