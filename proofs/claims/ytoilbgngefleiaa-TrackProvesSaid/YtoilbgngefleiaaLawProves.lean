/-
  The walk of TrackProves: it returns true, whatever it is given.
-/
import Derived.Test.YtoilbgngefleiaaRefLeast
import Derived.Test.YtoilbgngefleiaaPrv
import Derived.Test.YtoilbgngefleiaaRefPrv
import Derived.Test.YtoilbgngefleiaaSameI
import Derived.Deep.CutRange
namespace Go.Proofs.Ytoilbgngefleiaa
open Go.RowKit Go.Shelf
set_option linter.unusedVariables false
set_option linter.unusedSimpArgs false

set_option maxRecDepth 100000 in
set_option maxHeartbeats 4000000 in
theorem provesL_long (ms : List (Int × Int)) (A : Option Addr) (cap : Nat) (vs : List Int) (B : Option Addr) (cb : Nat) (m n q : Int) (w : World) (hLo : ∀ W : World, Calls Try.prog 15 #[.slice A ms.length cap] W fun e w' => e = .returned (.bool true) ∧ W = w')  :
    Calls Try.prog 6 #[.slice A ms.length cap, .slice B vs.length cb, .int .i64 m, .agg #[.int .i64 n, .int .i64 q]] w fun e w' => e = .returned (.bool true) ∧ Below w.heap.size w w' := by
  have HLo := Lib.hid hLo
  clear hLo
  obtain ⟨W0, hW0, HW, HY⟩ : ∃ W0, W0 = w.alloc (.cells #[.int .i64 n, .int .i64 q] 34) ∧ Hid (Below w.heap.size w W0) ∧ Hid (Rt W0 w.heap.size (.int .i64 n) (.int .i64 q)) :=
    ⟨_, rfl, Lib.hid ((Below.refl _ _).alloc (Nat.le_refl _) _), Lib.hid (Rt.new _ _ _)⟩
  have y0 := HY.out.c0
  have y1 := HY.out.c1
  go_enter Try.func6, Try.ntmps6
  go_upto_region 1 with (fail)
  rw [← hW0]
  clear hW0
  go_wp2_with (first
    | (go_at_call 15; with_reducible refine (HLo.out _).mono ?_; rintro e w' ⟨rfl, rfl⟩)
    | (go_at_call 16; refine (awake_any _).mono ?_; rintro e wz ⟨rfl, hBz⟩; have HW : Hid (Below w.heap.size w _) := Lib.hid (below_step HW.out hBz); clear hBz)
    | fail)
  go_ret
  exact ⟨rfl, HW.out⟩

set_option maxRecDepth 100000 in
set_option maxHeartbeats 4000000 in
theorem provesL_wide (ms : List (Int × Int)) (A : Option Addr) (cap : Nat) (vs : List Int) (B : Option Addr) (cb : Nat) (m n q : Int) (w : World) (hLo : ∀ W : World, Calls Try.prog 15 #[.slice A ms.length cap] W fun e w' => e = .returned (.bool false) ∧ W = w') (hw : decide (60 < (vs.length : Int)) = true) :
    Calls Try.prog 6 #[.slice A ms.length cap, .slice B vs.length cb, .int .i64 m, .agg #[.int .i64 n, .int .i64 q]] w fun e w' => e = .returned (.bool true) ∧ Below w.heap.size w w' := by
  have HLo := Lib.hid hLo
  clear hLo
  have t1 := hw
  obtain ⟨W0, hW0, HW, HY⟩ : ∃ W0, W0 = w.alloc (.cells #[.int .i64 n, .int .i64 q] 34) ∧ Hid (Below w.heap.size w W0) ∧ Hid (Rt W0 w.heap.size (.int .i64 n) (.int .i64 q)) :=
    ⟨_, rfl, Lib.hid ((Below.refl _ _).alloc (Nat.le_refl _) _), Lib.hid (Rt.new _ _ _)⟩
  have y0 := HY.out.c0
  have y1 := HY.out.c1
  go_enter Try.func6, Try.ntmps6
  go_upto_region 1 with (fail)
  rw [← hW0]
  clear hW0
  go_wp2_with (first
    | (go_at_call 15; with_reducible refine (HLo.out _).mono ?_; rintro e w' ⟨rfl, rfl⟩)
    | (go_at_call 16; refine (awake_any _).mono ?_; rintro e wz ⟨rfl, hBz⟩; have HW : Hid (Below w.heap.size w _) := Lib.hid (below_step HW.out hBz); clear hBz)
    | fail)
  go_ret
  exact ⟨rfl, HW.out⟩

set_option maxRecDepth 100000 in
set_option maxHeartbeats 16000000 in
theorem provesL_yes (ms : List (Int × Int)) (A : Option Addr) (cap : Nat) (vs : List Int) (B : Option Addr) (cb : Nat) (m n q : Int) (w : World) (pb : Bool) (pe ln lm : Int)
    (hLo : ∀ W : World, Calls Try.prog 15 #[.slice A ms.length cap] W fun e w' => e = .returned (.bool false) ∧ W = w')
    (hw : decide (60 < (vs.length : Int)) = false)
    (hP1 : ∀ W, Below w.heap.size w W → Calls Try.prog 39 #[.slice A ms.length cap, .slice B vs.length cb, .int .i64 m, .agg #[.int .i64 n, .int .i64 q]] W fun e w' => e = .returned (.tuple #[.bool pb, .int .i64 pe]) ∧ Below W.heap.size W w')
    (hP2 : ∀ W, Below w.heap.size w W → Calls Try.prog 40 #[.slice A ms.length cap, .slice B vs.length cb, .int .i64 m, .agg #[.int .i64 n, .int .i64 q]] W fun e w' => e = .returned (.tuple #[.bool pb, .int .i64 pe]) ∧ Below W.heap.size W w')
    (hV : ∀ W, Below w.heap.size w W → Calls Try.prog 20 #[.slice A ms.length cap] W fun e w' => e = .returned (.bool true) ∧ Below W.heap.size W w')
    (hL3 : ∀ W, Below w.heap.size w W → Calls Try.prog 41 #[.slice A ms.length cap] W fun e w' => ∃ (A' : Option Addr) (c' : Nat) (ws : List Int) (k : Int), e = .returned (.tuple #[.slice A' ws.length c', .int .i64 k, .int .i64 0]) ∧ Out w' A' c' ws ∧ Below W.heap.size W w' ∧ Hid (ws.length ≤ 1000 ∧ prB ms ws k ln lm = true ∧ prE ms ws k ln lm = 0))
    (hL1 : ∀ W, Below w.heap.size w W → Calls Try.prog 32 #[.slice A ms.length cap] W fun e w' => e = .returned (.tuple #[.agg #[.int .i64 ln, .int .i64 lm], .int .i64 0]) ∧ Below W.heap.size W w')
    (hP3 : ∀ W A' c' (ws : List Int) (k : Int), Below w.heap.size w W → Ints W A' ws → ws.length ≤ 1000 → Calls Try.prog 40 #[.slice A ms.length cap, .slice A' ws.length c', .int .i64 k, .agg #[.int .i64 ln, .int .i64 lm]] W fun e w' => e = .returned (.tuple #[.bool (prB ms ws k ln lm), .int .i64 (prE ms ws k ln lm)]) ∧ Below W.heap.size W w') :
    Calls Try.prog 6 #[.slice A ms.length cap, .slice B vs.length cb, .int .i64 m, .agg #[.int .i64 n, .int .i64 q]] w fun e w' => e = .returned (.bool true) ∧ Below w.heap.size w w' := by
  have HLo := Lib.hid hLo
  have HP1 := Lib.hid hP1
  have HP2 := Lib.hid hP2
  have HV := Lib.hid hV
  have HL3 := Lib.hid hL3
  have HL1 := Lib.hid hL1
  have HP3 := Lib.hid hP3
  have t1 := hw
  clear hLo hP1 hP2 hV hL3 hL1 hP3
  obtain ⟨W0, hW0, HW, HY⟩ : ∃ W0, W0 = w.alloc (.cells #[.int .i64 n, .int .i64 q] 34) ∧ Hid (Below w.heap.size w W0) ∧ Hid (Rt W0 w.heap.size (.int .i64 n) (.int .i64 q)) :=
    ⟨_, rfl, Lib.hid ((Below.refl _ _).alloc (Nat.le_refl _) _), Lib.hid (Rt.new _ _ _)⟩
  have y0 := HY.out.c0
  have y1 := HY.out.c1
  go_enter Try.func6, Try.ntmps6
  go_upto_region 1 with (fail)
  rw [← hW0]
  clear hW0
  go_upto_region 3 with (go_at_call 15; with_reducible refine (HLo.out _).mono ?_; rintro e w' ⟨rfl, rfl⟩)
  go_upto_region 4 with (go_at_call 39; with_reducible refine (HP1.out _ HW.out).mono ?_; rintro e v1 ⟨rfl, hB1⟩; have HY := Lib.hid (Rt.below HY.out hB1); have y0 := HY.out.c0; have y1 := HY.out.c1; have HW : Hid (Below w.heap.size w _) := Lib.hid (below_step HW.out hB1); clear hB1)
  go_upto_region 5 with (go_at_call 40; with_reducible refine (HP2.out _ HW.out).mono ?_; rintro e v2 ⟨rfl, hB2⟩; have HY := Lib.hid (Rt.below HY.out hB2); have y0 := HY.out.c0; have y1 := HY.out.c1; have HW : Hid (Below w.heap.size w _) := Lib.hid (below_step HW.out hB2); clear hB2)
  cases pb
  all_goals
    go_upto_region 7 with (fail)
    go_upto_region 8 with (go_at_call 41; with_reducible refine (HL3.out _ HW.out).mono ?_; rintro e v3 ⟨A4, c4, ws, kk, rfl, ho, hB3, hpp⟩; have HY := Lib.hid (Rt.below HY.out hB3); have y0 := HY.out.c0; have y1 := HY.out.c1; have HW : Hid (Below w.heap.size w _) := Lib.hid (below_step HW.out hB3); have HO := Lib.hid ho; clear ho; clear hB3)
    go_upto_region 10 with (go_at_call 20; with_reducible refine (HV.out _ HW.out).mono ?_; rintro e v4 ⟨rfl, hB4⟩; have HY := Lib.hid (Rt.below HY.out hB4); have y0 := HY.out.c0; have y1 := HY.out.c1; have HO := Lib.hid (Out.below HO.out hB4); have HW : Hid (Below w.heap.size w _) := Lib.hid (below_step HW.out hB4); clear hB4)
    go_upto_region 11 with (go_at_call 32; with_reducible refine (HL1.out _ HW.out).mono ?_; rintro e v5 ⟨rfl, hB5⟩; have HY := Lib.hid (Rt.below HY.out hB5); have y0 := HY.out.c0; have y1 := HY.out.c1; have HO := Lib.hid (Out.below HO.out hB5); have HW : Hid (Below w.heap.size w _) := Lib.hid (below_step HW.out hB5); clear hB5)
    have qyga : w.heap.size < v5.heap.size := HY.out.lt
    have qHWga : w.heap.size ≤ v5.heap.size := HW.out.size
    obtain ⟨X5, hX5, HW, HG, HY, HO⟩ : ∃ X, (v5.alloc (.cells #[.int .i64 ln, .int .i64 lm] 34)) = X ∧ Hid (Below w.heap.size w X) ∧ Hid (Rt X v5.heap.size (.int .i64 ln) (.int .i64 lm)) ∧ Hid (Rt X w.heap.size (.int .i64 n) (.int .i64 q)) ∧ Hid (Out X A4 c4 ws) :=
      ⟨_, rfl, Lib.hid (Below.alloc HW.out HW.out.size _), Lib.hid (Rt.new _ _ _), Lib.hid (HY.out.alloc _), Lib.hid (HO.out.below (Below.alloc (Below.refl _ _) (Nat.le_refl _) _))⟩
    rw [hX5]
    clear hX5
    obtain ⟨ga, hga⟩ : ∃ g, v5.heap.size = g := ⟨_, rfl⟩
    rw [hga] at HG qyga qHWga
    try rw [hga]
    clear hga
    have y0 := HY.out.c0
    have y1 := HY.out.c1
    have g0 := HG.out.c0
    have g1 := HG.out.c1
    go_upto_region 12 with (go_at_call 40; with_reducible refine (HP3.out _ A4 c4 ws kk HW.out HO.out.ints hpp.out.1).mono ?_; rintro e v6 ⟨rfl, hB6⟩; have HY := Lib.hid (Rt.below HY.out hB6); have y0 := HY.out.c0; have y1 := HY.out.c1; have HO := Lib.hid (Out.below HO.out hB6); have HG := Lib.hid (Rt.below HG.out hB6); have g0 := HG.out.c0; have g1 := HG.out.c1; have HW : Hid (Below w.heap.size w _) := Lib.hid (below_step HW.out hB6); rw [hpp.out.2.1, hpp.out.2.2]; clear hB6)
    go_wp2_with (first
      | (go_at_call 16; refine (awake_any _).mono ?_; rintro e wz ⟨rfl, hBz⟩; have HW : Hid (Below w.heap.size w _) := Lib.hid (below_step HW.out hBz); clear hBz)
      | fail)
    go_ret
    exact ⟨rfl, HW.out⟩

set_option maxRecDepth 100000 in
set_option maxHeartbeats 16000000 in
theorem provesL_no (ms : List (Int × Int)) (A : Option Addr) (cap : Nat) (vs : List Int) (B : Option Addr) (cb : Nat) (m n q : Int) (w : World) (pb : Bool) (pe : Int)
    (hLo : ∀ W : World, Calls Try.prog 15 #[.slice A ms.length cap] W fun e w' => e = .returned (.bool false) ∧ W = w')
    (hw : decide (60 < (vs.length : Int)) = false)
    (hP1 : ∀ W, Below w.heap.size w W → Calls Try.prog 39 #[.slice A ms.length cap, .slice B vs.length cb, .int .i64 m, .agg #[.int .i64 n, .int .i64 q]] W fun e w' => e = .returned (.tuple #[.bool pb, .int .i64 pe]) ∧ Below W.heap.size W w')
    (hP2 : ∀ W, Below w.heap.size w W → Calls Try.prog 40 #[.slice A ms.length cap, .slice B vs.length cb, .int .i64 m, .agg #[.int .i64 n, .int .i64 q]] W fun e w' => e = .returned (.tuple #[.bool pb, .int .i64 pe]) ∧ Below W.heap.size W w')
    (hV : ∀ W, Below w.heap.size w W → Calls Try.prog 20 #[.slice A ms.length cap] W fun e w' => e = .returned (.bool false) ∧ Below W.heap.size W w')
    (hL3 : ∀ W, Below w.heap.size w W → Calls Try.prog 41 #[.slice A ms.length cap] W fun e w' => e = .returned (.tuple #[.slice none 0 0, .int .i64 0, .int .i64 50]) ∧ Below W.heap.size W w') :
    Calls Try.prog 6 #[.slice A ms.length cap, .slice B vs.length cb, .int .i64 m, .agg #[.int .i64 n, .int .i64 q]] w fun e w' => e = .returned (.bool true) ∧ Below w.heap.size w w' := by
  have HLo := Lib.hid hLo
  have HP1 := Lib.hid hP1
  have HP2 := Lib.hid hP2
  have HV := Lib.hid hV
  have HL3 := Lib.hid hL3
  have t1 := hw
  clear hLo hP1 hP2 hV hL3
  obtain ⟨W0, hW0, HW, HY⟩ : ∃ W0, W0 = w.alloc (.cells #[.int .i64 n, .int .i64 q] 34) ∧ Hid (Below w.heap.size w W0) ∧ Hid (Rt W0 w.heap.size (.int .i64 n) (.int .i64 q)) :=
    ⟨_, rfl, Lib.hid ((Below.refl _ _).alloc (Nat.le_refl _) _), Lib.hid (Rt.new _ _ _)⟩
  have y0 := HY.out.c0
  have y1 := HY.out.c1
  go_enter Try.func6, Try.ntmps6
  go_upto_region 1 with (fail)
  rw [← hW0]
  clear hW0
  go_upto_region 3 with (go_at_call 15; with_reducible refine (HLo.out _).mono ?_; rintro e w' ⟨rfl, rfl⟩)
  go_upto_region 4 with (go_at_call 39; with_reducible refine (HP1.out _ HW.out).mono ?_; rintro e v1 ⟨rfl, hB1⟩; have HY := Lib.hid (Rt.below HY.out hB1); have y0 := HY.out.c0; have y1 := HY.out.c1; have HW : Hid (Below w.heap.size w _) := Lib.hid (below_step HW.out hB1); clear hB1)
  go_upto_region 5 with (go_at_call 40; with_reducible refine (HP2.out _ HW.out).mono ?_; rintro e v2 ⟨rfl, hB2⟩; have HY := Lib.hid (Rt.below HY.out hB2); have y0 := HY.out.c0; have y1 := HY.out.c1; have HW : Hid (Below w.heap.size w _) := Lib.hid (below_step HW.out hB2); clear hB2)
  cases pb
  all_goals
    go_upto_region 7 with (fail)
    go_upto_region 8 with (go_at_call 41; with_reducible refine (HL3.out _ HW.out).mono ?_; rintro e v3 ⟨rfl, hB3⟩; have HY := Lib.hid (Rt.below HY.out hB3); have y0 := HY.out.c0; have y1 := HY.out.c1; have HW : Hid (Below w.heap.size w _) := Lib.hid (below_step HW.out hB3); clear hB3)
    go_upto_region 9 with (go_at_call 20; with_reducible refine (HV.out _ HW.out).mono ?_; rintro e v4 ⟨rfl, hB4⟩; have HY := Lib.hid (Rt.below HY.out hB4); have y0 := HY.out.c0; have y1 := HY.out.c1; have HW : Hid (Below w.heap.size w _) := Lib.hid (below_step HW.out hB4); clear hB4)
    go_wp2_with (first
      | (go_at_call 16; refine (awake_any _).mono ?_; rintro e wz ⟨rfl, hBz⟩; have HW : Hid (Below w.heap.size w _) := Lib.hid (below_step HW.out hBz); clear hBz)
      | fail)
    go_ret
    exact ⟨rfl, HW.out⟩

theorem trackProves_walk (ms : List (Int × Int)) (A : Option Addr) (cap : Nat) (vs : List Int) (B : Option Addr) (cb : Nat) (m n q : Int) (w : World) (hA : Marks w A ms) (hc : ms.length ≤ cap) (hc0 : cap ≤ maxLen) (hB : Ints w B vs) (hd : vs.length ≤ cb) (hd0 : cb ≤ maxLen) (_ : (Lit.int .i64 m).wf = true) (_ : (Lit.int .i64 n).wf = true) (_ : (Lit.int .i64 q).wf = true) :
    Calls Try.prog 6 #[.slice A ms.length cap, .slice B vs.length cb, .int .i64 m, .agg #[.int .i64 n, .int .i64 q]] w fun e w' => e = .returned (.bool true) ∧ Below w.heap.size w w' := by
  have H : Clk w A cap ms := ⟨hA, hc, hc0⟩
  have hlo := fun W => lawLong_any ms A cap W
  cases hm : decide (60 < ms.length) with
  | true => exact provesL_long ms A cap vs B cb m n q w (fun W => by have := hlo W; rwa [hm] at this)
  | false =>
    have hlo' : ∀ W : World, Calls Try.prog 15 #[.slice A ms.length cap] W fun e w' => e = .returned (.bool false) ∧ W = w' := fun W => by have := hlo W; rwa [hm] at this
    cases hw : decide (60 < (vs.length : Int)) with
    | true => exact provesL_wide ms A cap vs B cb m n q w hlo' hw
    | false =>
      have hvl : vs.length ≤ 60 := by have := of_decide_eq_false hw; omega
      have hval : ∀ W, Below w.heap.size w W → Calls Try.prog 20 #[.slice A ms.length cap] W fun e w' => e = .returned (.bool (viP ms)) ∧ Below W.heap.size W w' := fun W hW => refValid_any ms A cap W (H.below hW).marks H.len
      have hPr1 : ∀ W, Below w.heap.size w W → Calls Try.prog 39 #[.slice A ms.length cap, .slice B vs.length cb, .int .i64 m, .agg #[.int .i64 n, .int .i64 q]] W fun e w' => e = .returned (.tuple #[.bool (prB ms vs m n q), .int .i64 (prE ms vs m n q)]) ∧ Below W.heap.size W w' := fun W hW => proves_any ms vs A B cap cb m n q W (H.below hW) (hB.below hW) (by omega)
      have hPr2 : ∀ W, Below w.heap.size w W → Calls Try.prog 40 #[.slice A ms.length cap, .slice B vs.length cb, .int .i64 m, .agg #[.int .i64 n, .int .i64 q]] W fun e w' => e = .returned (.tuple #[.bool (prB ms vs m n q), .int .i64 (prE ms vs m n q)]) ∧ Below W.heap.size W w' := fun W hW => refProves_any ms vs A B cap cb m n q W (H.below hW) (hB.below hW) (by omega)
      cases hv : viP ms with
      | false => exact provesL_no ms A cap vs B cb m n q w _ _ hlo' hw hPr1 hPr2 (fun W hW => by have := hval W hW; rwa [hv] at this) (fun W hW => weights_no ms A cap W (H.below hW) hv)
      | true =>
        have hsm := lea_small hv
        have hdp := (che_small hv).2.1.1
        have hCert : ∀ ws k, Cert ms ws k (cheL ms).1 (cheL ms).2.1 (cheL ms).2.2 → prB ms ws k (cosT ms (cheL ms)).1 (cosT ms (cheL ms)).2 = true ∧ prE ms ws k (cosT ms (cheL ms)).1 (cosT ms (cheL ms)).2 = 0 := fun ws k hC => cert_prove hv hC (by omega) (by have := hsm.2.2; exact (show (cosT ms (cheL ms)).2 ≤ 10000 by omega)) (show 0 ≤ (cosT ms (cheL ms)).1 ∧ (cosT ms (cheL ms)).1 ≤ 1000000000 by omega)
        exact provesL_yes ms A cap vs B cb m n q w _ _ _ _ hlo' hw hPr1 hPr2 (fun W hW => by have := hval W hW; rwa [hv] at this)
          (fun W hW => (weights_yes ms A cap W (H.below hW) hv).mono fun e w' ⟨A', c', ws, k, h1, h2, h3, h4⟩ => ⟨A', c', ws, k, h1, h2, h3, Lib.hid ⟨by rw [h4.out.len]; have := (vi_parts hv).1.2; omega, hCert ws k h4.out⟩⟩)
          (fun W hW => refLeast_yes ms A cap W (H.below hW) hv)
          (fun W A' c' ws k hW hI hl => refProves_any ms ws A A' cap c' k _ _ W (H.below hW) hI hl)
end Go.Proofs.Ytoilbgngefleiaa
