/-
  Contract: Tells (track).
-/
import Derived.Test.YtoilbgngefleiaaWit
namespace Go.Proofs.Ytoilbgngefleiaa
open Go.RowKit Go.Shelf
set_option linter.unusedVariables false
set_option linter.unusedSimpArgs false

theorem te_ret {ms : List (Int × Int)} {l : List Int} {a b e : Int} (h1 : teV ms l = (a, b)) (h2 : teE ms l = e) : Ending.returned (.tuple #[.agg #[.int .i64 a, .int .i64 b], .int .i64 e]) = .returned (.tuple #[.agg #[.int .i64 (teV ms l).1, .int .i64 (teV ms l).2], .int .i64 (teE ms l)]) := by rw [h1, h2]
set_option maxRecDepth 100000 in
set_option maxHeartbeats 2000000 in
theorem tellsT_inv (ms : List (Int × Int)) (A : Option Addr) (c : Nat) (l : List Int) (B : Option Addr) (cb : Nat) (w : World) (h : Clk w A c ms) (hB : Ints w B l) (hl : l.length ≤ 1000) (hv : viP ms = false) :
    Calls Try.prog 42 #[.slice A ms.length c, .slice B l.length cb] w fun e w' => e = .returned (.tuple #[.agg #[.int .i64 (teV ms l).1, .int .i64 (teV ms l).2], .int .i64 (teE ms l)]) ∧ Below w.heap.size w w' := by
  have HE := Lib.hid (te_ret (ms := ms) (l := l) (a := 0) (b := 0) (e := 50) (by rw [teV, hv]; rfl) (by rw [teE, hv]; rfl))
  have H := Lib.hid h
  have HB := Lib.hid hB
  have HV := Lib.hid hv
  clear h hB hv
  obtain ⟨W0, hW0, HW, HG⟩ : ∃ W0, W0 = w.alloc (.cells #[.int .i64 0, .int .i64 0] 34) ∧ Hid (Below w.heap.size w W0) ∧ Hid (Rt W0 w.heap.size (.int .i64 0) (.int .i64 0)) :=
    ⟨_, rfl, Lib.hid ((Below.refl _ _).alloc (Nat.le_refl _) _), Lib.hid (Rt.new _ _ _)⟩
  go_enter Try.func42, Try.ntmps42
  go_upto_region 1 with (fail)
  rw [← hW0]
  clear hW0
  go_wp2_with (first
    | (go_at_call 19; refine (valid_any ms A c _ (H.out.below HW.out).marks H.out.len).mono ?_; rintro e w1 ⟨rfl, hB1⟩; rw [HV.out]; have HG := Lib.hid (HG.out.below hB1); have g0 := HG.out.c0; have g1 := HG.out.c1; have gf0 := HG.out.f 0; have gf1 := HG.out.f 1; have HW : Hid (Below w.heap.size w _) := Lib.hid (below_step HW.out hB1); clear hB1)
    | fail)
  exact bodyPost_ret (v := .tuple #[.agg #[.int .i64 0, .int .i64 0], .int .i64 50]) (by simp [results, Try.results42, go_sem, g0, g1]) rfl ⟨HE.out, by
    repeat (first | with_reducible exact HW.out | refine Below.setCell ?_ (Nat.le_refl w.heap.size) _)⟩
set_option maxRecDepth 100000 in
set_option maxHeartbeats 2000000 in
theorem tellsT_no (ms : List (Int × Int)) (A : Option Addr) (c : Nat) (l : List Int) (B : Option Addr) (cb : Nat) (w : World) (h : Clk w A c ms) (hB : Ints w B l) (hl : l.length ≤ 1000) (hv : viP ms = true) (hw : wiB ms l = false) :
    Calls Try.prog 42 #[.slice A ms.length c, .slice B l.length cb] w fun e w' => e = .returned (.tuple #[.agg #[.int .i64 (teV ms l).1, .int .i64 (teV ms l).2], .int .i64 (teE ms l)]) ∧ Below w.heap.size w w' := by
  have HE := Lib.hid (te_ret (ms := ms) (l := l) (a := 0) (b := 0) (e := 2) (by rw [teV, hv, hw]; rfl) (by rw [teE, hv, hw]; rfl))
  have HWI := Lib.hid hw
  clear hw
  have H := Lib.hid h
  have HB := Lib.hid hB
  have HV := Lib.hid hv
  clear h hB hv
  obtain ⟨W0, hW0, HW, HG⟩ : ∃ W0, W0 = w.alloc (.cells #[.int .i64 0, .int .i64 0] 34) ∧ Hid (Below w.heap.size w W0) ∧ Hid (Rt W0 w.heap.size (.int .i64 0) (.int .i64 0)) :=
    ⟨_, rfl, Lib.hid ((Below.refl _ _).alloc (Nat.le_refl _) _), Lib.hid (Rt.new _ _ _)⟩
  go_enter Try.func42, Try.ntmps42
  go_upto_region 1 with (fail)
  rw [← hW0]
  clear hW0
  go_wp2_with (first
    | (go_at_call 19; refine (valid_any ms A c _ (H.out.below HW.out).marks H.out.len).mono ?_; rintro e w1 ⟨rfl, hB1⟩; rw [HV.out]; have HG := Lib.hid (HG.out.below hB1); have g0 := HG.out.c0; have g1 := HG.out.c1; have gf0 := HG.out.f 0; have gf1 := HG.out.f 1; have HW : Hid (Below w.heap.size w _) := Lib.hid (below_step HW.out hB1); clear hB1)
    | (go_at_call 78; refine (isWitness_any ms A c l B cb _ (H.out.below HW.out) (HB.out.below HW.out) hl).mono ?_; rintro e w2 ⟨rfl, hB1⟩; rw [HWI.out]; have HG := Lib.hid (HG.out.below hB1); have g0 := HG.out.c0; have g1 := HG.out.c1; have gf0 := HG.out.f 0; have gf1 := HG.out.f 1; have HW : Hid (Below w.heap.size w _) := Lib.hid (below_step HW.out hB1); clear hB1)
    | fail)
  exact bodyPost_ret (v := .tuple #[.agg #[.int .i64 0, .int .i64 0], .int .i64 2]) (by simp [results, Try.results42, go_sem, g0, g1]) rfl ⟨HE.out, by
    repeat (first | with_reducible exact HW.out | refine Below.setCell ?_ (Nat.le_refl w.heap.size) _)⟩
set_option maxRecDepth 100000 in
set_option maxHeartbeats 2000000 in
theorem tellsT_yes (ms : List (Int × Int)) (A : Option Addr) (c : Nat) (l : List Int) (B : Option Addr) (cb : Nat) (w : World) (h : Clk w A c ms) (hB : Ints w B l) (hl : l.length ≤ 1000) (hv : viP ms = true) (hw : wiB ms l = true) :
    Calls Try.prog 42 #[.slice A ms.length c, .slice B l.length cb] w fun e w' => e = .returned (.tuple #[.agg #[.int .i64 (teV ms l).1, .int .i64 (teV ms l).2], .int .i64 (teE ms l)]) ∧ Below w.heap.size w w' := by
  obtain ⟨⟨rn, rd⟩, hr⟩ : ∃ z, tlV ms l = z := ⟨_, rfl⟩
  have HT := Lib.hid hr
  have HE := Lib.hid (te_ret (ms := ms) (l := l) (a := rn) (b := rd) (e := 0) (by rw [teV, hv, hw, ← hr]; rfl) (by rw [teE, hv, hw]; rfl))
  have HPT := Lib.hid (vi_parts hv).2.1
  have HWI := Lib.hid hw
  clear hw hr
  have H := Lib.hid h
  have HB := Lib.hid hB
  have HV := Lib.hid hv
  clear h hB hv
  obtain ⟨W0, hW0, HW, HG⟩ : ∃ W0, W0 = w.alloc (.cells #[.int .i64 0, .int .i64 0] 34) ∧ Hid (Below w.heap.size w W0) ∧ Hid (Rt W0 w.heap.size (.int .i64 0) (.int .i64 0)) :=
    ⟨_, rfl, Lib.hid ((Below.refl _ _).alloc (Nat.le_refl _) _), Lib.hid (Rt.new _ _ _)⟩
  go_enter Try.func42, Try.ntmps42
  go_upto_region 1 with (fail)
  rw [← hW0]
  clear hW0
  go_wp2_with (first
    | (go_at_call 19; refine (valid_any ms A c _ (H.out.below HW.out).marks H.out.len).mono ?_; rintro e w1 ⟨rfl, hB1⟩; rw [HV.out]; have HG := Lib.hid (HG.out.below hB1); have g0 := HG.out.c0; have g1 := HG.out.c1; have gf0 := HG.out.f 0; have gf1 := HG.out.f 1; have HW : Hid (Below w.heap.size w _) := Lib.hid (below_step HW.out hB1); clear hB1)
    | (go_at_call 78; refine (isWitness_any ms A c l B cb _ (H.out.below HW.out) (HB.out.below HW.out) hl).mono ?_; rintro e w2 ⟨rfl, hB1⟩; rw [HWI.out]; have HG := Lib.hid (HG.out.below hB1); have g0 := HG.out.c0; have g1 := HG.out.c1; have gf0 := HG.out.f 0; have gf1 := HG.out.f 1; have HW : Hid (Below w.heap.size w _) := Lib.hid (below_step HW.out hB1); clear hB1)
    | (go_at_call 75; refine (tells_any ms A c l B cb _ (H.out.below HW.out) (HB.out.below HW.out) HPT.out HWI.out).mono ?_; rintro e w3 ⟨rfl, hB1⟩; rw [HT.out]; have HG := Lib.hid (HG.out.below hB1); have g0 := HG.out.c0; have g1 := HG.out.c1; have gf0 := HG.out.f 0; have gf1 := HG.out.f 1; have HW : Hid (Below w.heap.size w _) := Lib.hid (below_step HW.out hB1); clear hB1)
    | fail)
  exact bodyPost_ret (v := .tuple #[.agg #[.int .i64 rn, .int .i64 rd], .int .i64 0]) (by simp [results, Try.results42, go_sem, g0, g1]) rfl ⟨HE.out, by
    repeat (first | with_reducible exact HW.out | refine Below.setCell ?_ (Nat.le_refl w.heap.size) _)⟩
theorem tellsT_any (ms : List (Int × Int)) (A : Option Addr) (c : Nat) (l : List Int) (B : Option Addr) (cb : Nat) (w : World) (h : Clk w A c ms) (hB : Ints w B l) (hl : l.length ≤ 1000) :
    Calls Try.prog 42 #[.slice A ms.length c, .slice B l.length cb] w fun e w' => e = .returned (.tuple #[.agg #[.int .i64 (teV ms l).1, .int .i64 (teV ms l).2], .int .i64 (teE ms l)]) ∧ Below w.heap.size w w' := by
  cases hv : viP ms with
  | false => exact tellsT_inv ms A c l B cb w h hB hl hv
  | true =>
    cases hw : wiB ms l with
    | false => exact tellsT_no ms A c l B cb w h hB hl hv hw
    | true => exact tellsT_yes ms A c l B cb w h hB hl hv hw
end Go.Proofs.Ytoilbgngefleiaa
