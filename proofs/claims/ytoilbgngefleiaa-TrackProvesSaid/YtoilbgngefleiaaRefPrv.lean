/-
  Contract: Proves (firnref05).
-/
import Derived.Test.YtoilbgngefleiaaPrvM
import Derived.Test.YtoilbgngefleiaaRefV
import Derived.Deep.CutRange
namespace Go.Proofs.Ytoilbgngefleiaa
open Go.RowKit Go.Shelf
set_option linter.unusedVariables false
set_option linter.unusedSimpArgs false

set_option maxRecDepth 100000 in
set_option maxHeartbeats 4000000 in
theorem refProves_inv (ms : List (Int × Int)) (ws : List Int) (A B : Option Addr) (c e1 : Nat) (m n d : Int) (w : World) (h : Clk w A c ms) (hw : Ints w B ws) (hwl : ws.length ≤ 1000) (hv : viP ms = false) :
    Calls Try.prog 40 #[.slice A ms.length c, .slice B ws.length e1, .int .i64 m, .agg #[.int .i64 n, .int .i64 d]] w fun e w' => e = .returned (.tuple #[.bool (prB ms ws m n d), .int .i64 (prE ms ws m n d)]) ∧ Below w.heap.size w w' := by
  have H := Lib.hid h
  have HWS := Lib.hid hw
  obtain ⟨W0, hW0, HW, HG⟩ : ∃ W0, W0 = w.alloc (.cells #[.int .i64 n, .int .i64 d] 34) ∧ Hid (Below w.heap.size w W0) ∧ Hid (Rt W0 w.heap.size (.int .i64 n) (.int .i64 d)) :=
    ⟨_, rfl, Lib.hid ((Below.refl _ _).alloc (Nat.le_refl _) _), Lib.hid (Rt.new _ _ _)⟩
  have g0 := HG.out.c0
  have g1 := HG.out.c1
  clear h hw
  have HV := Lib.hid hv
  have HP := Lib.hid (pr_inv (ws := ws) (m := m) (n := n) (d := d) hv)
  clear hv
  go_enter Try.func40, Try.ntmps40
  go_upto_region 1 with (fail)
  rw [← hW0]
  clear hW0
  go_wp2_with (first
    | (go_at_call 20; refine (refValid_any ms A c _ (H.out.below HW.out).marks H.out.len).mono ?_; rintro e w1 ⟨rfl, hB1⟩; rw [HV.out]; have HG := Lib.hid (HG.out.below hB1); have g0 := HG.out.c0; have g1 := HG.out.c1; have HW : Hid (Below w.heap.size w _) := Lib.hid (below_step HW.out hB1); clear hB1)
    | fail)
  go_ret2
  exact ⟨ret_be HP.out, HW.out⟩

set_option maxRecDepth 100000 in
set_option maxHeartbeats 4000000 in
theorem refProves_no0 (ms : List (Int × Int)) (ws : List Int) (A B : Option Addr) (c e1 : Nat) (m n d : Int) (w : World) (h : Clk w A c ms) (hw : Ints w B ws) (hwl : ws.length ≤ 1000) (hv : viP ms = true) (h0 : m < 1) :
    Calls Try.prog 40 #[.slice A ms.length c, .slice B ws.length e1, .int .i64 m, .agg #[.int .i64 n, .int .i64 d]] w fun e w' => e = .returned (.tuple #[.bool (prB ms ws m n d), .int .i64 (prE ms ws m n d)]) ∧ Below w.heap.size w w' := by
  have H := Lib.hid h
  have HWS := Lib.hid hw
  obtain ⟨W0, hW0, HW, HG⟩ : ∃ W0, W0 = w.alloc (.cells #[.int .i64 n, .int .i64 d] 34) ∧ Hid (Below w.heap.size w W0) ∧ Hid (Rt W0 w.heap.size (.int .i64 n) (.int .i64 d)) :=
    ⟨_, rfl, Lib.hid ((Below.refl _ _).alloc (Nat.le_refl _) _), Lib.hid (Rt.new _ _ _)⟩
  have g0 := HG.out.c0
  have g1 := HG.out.c1
  clear h hw
  have HV := Lib.hid hv
  have HP := Lib.hid (pr_no (ws := ws) (m := m) (n := n) (d := d) hv (by have : decide (1 ≤ m) = false := decide_eq_false (by omega); simp [prA, this]))
  clear hv
  have t0 : decide (m < 1) = true := decide_eq_true h0
  go_enter Try.func40, Try.ntmps40
  go_upto_region 1 with (fail)
  rw [← hW0]
  clear hW0
  go_wp2_with (first
    | (go_at_call 20; refine (refValid_any ms A c _ (H.out.below HW.out).marks H.out.len).mono ?_; rintro e w1 ⟨rfl, hB1⟩; rw [HV.out]; have HG := Lib.hid (HG.out.below hB1); have g0 := HG.out.c0; have g1 := HG.out.c1; have HW : Hid (Below w.heap.size w _) := Lib.hid (below_step HW.out hB1); clear hB1)
    | fail)
  go_ret2
  exact ⟨ret_be HP.out, HW.out⟩

set_option maxRecDepth 100000 in
set_option maxHeartbeats 4000000 in
theorem refProves_no1 (ms : List (Int × Int)) (ws : List Int) (A B : Option Addr) (c e1 : Nat) (m n d : Int) (w : World) (h : Clk w A c ms) (hw : Ints w B ws) (hwl : ws.length ≤ 1000) (hv : viP ms = true) (h0 : ¬ m < 1) (h1 : 10000 < m) :
    Calls Try.prog 40 #[.slice A ms.length c, .slice B ws.length e1, .int .i64 m, .agg #[.int .i64 n, .int .i64 d]] w fun e w' => e = .returned (.tuple #[.bool (prB ms ws m n d), .int .i64 (prE ms ws m n d)]) ∧ Below w.heap.size w w' := by
  have H := Lib.hid h
  have HWS := Lib.hid hw
  obtain ⟨W0, hW0, HW, HG⟩ : ∃ W0, W0 = w.alloc (.cells #[.int .i64 n, .int .i64 d] 34) ∧ Hid (Below w.heap.size w W0) ∧ Hid (Rt W0 w.heap.size (.int .i64 n) (.int .i64 d)) :=
    ⟨_, rfl, Lib.hid ((Below.refl _ _).alloc (Nat.le_refl _) _), Lib.hid (Rt.new _ _ _)⟩
  have g0 := HG.out.c0
  have g1 := HG.out.c1
  clear h hw
  have HV := Lib.hid hv
  have HP := Lib.hid (pr_no (ws := ws) (m := m) (n := n) (d := d) hv (by have : decide (m ≤ 10000) = false := decide_eq_false (by omega); simp [prA, this]))
  clear hv
  have t0 : decide (m < 1) = false := decide_eq_false h0
  have t1 : decide (10000 < m) = true := decide_eq_true h1
  go_enter Try.func40, Try.ntmps40
  go_upto_region 1 with (fail)
  rw [← hW0]
  clear hW0
  go_wp2_with (first
    | (go_at_call 20; refine (refValid_any ms A c _ (H.out.below HW.out).marks H.out.len).mono ?_; rintro e w1 ⟨rfl, hB1⟩; rw [HV.out]; have HG := Lib.hid (HG.out.below hB1); have g0 := HG.out.c0; have g1 := HG.out.c1; have HW : Hid (Below w.heap.size w _) := Lib.hid (below_step HW.out hB1); clear hB1)
    | fail)
  go_ret2
  exact ⟨ret_be HP.out, HW.out⟩

set_option maxRecDepth 100000 in
set_option maxHeartbeats 4000000 in
theorem refProves_no2 (ms : List (Int × Int)) (ws : List Int) (A B : Option Addr) (c e1 : Nat) (m n d : Int) (w : World) (h : Clk w A c ms) (hw : Ints w B ws) (hwl : ws.length ≤ 1000) (hv : viP ms = true) (h0 : ¬ m < 1) (h1 : ¬ 10000 < m) (h2 : ¬ ws.length = ms.length) :
    Calls Try.prog 40 #[.slice A ms.length c, .slice B ws.length e1, .int .i64 m, .agg #[.int .i64 n, .int .i64 d]] w fun e w' => e = .returned (.tuple #[.bool (prB ms ws m n d), .int .i64 (prE ms ws m n d)]) ∧ Below w.heap.size w w' := by
  have H := Lib.hid h
  have HWS := Lib.hid hw
  obtain ⟨W0, hW0, HW, HG⟩ : ∃ W0, W0 = w.alloc (.cells #[.int .i64 n, .int .i64 d] 34) ∧ Hid (Below w.heap.size w W0) ∧ Hid (Rt W0 w.heap.size (.int .i64 n) (.int .i64 d)) :=
    ⟨_, rfl, Lib.hid ((Below.refl _ _).alloc (Nat.le_refl _) _), Lib.hid (Rt.new _ _ _)⟩
  have g0 := HG.out.c0
  have g1 := HG.out.c1
  clear h hw
  have HV := Lib.hid hv
  have HP := Lib.hid (pr_no (ws := ws) (m := m) (n := n) (d := d) hv (by have : decide (ws.length = ms.length) = false := decide_eq_false (by omega); simp [prA, this]))
  clear hv
  have t0 : decide (m < 1) = false := decide_eq_false h0
  have t1 : decide (10000 < m) = false := decide_eq_false h1
  have t2 : ((ws.length : Int) != (ms.length : Int)) = true := by simp <;> omega
  clear h2
  go_enter Try.func40, Try.ntmps40
  go_upto_region 1 with (fail)
  rw [← hW0]
  clear hW0
  go_wp2_with (first
    | (go_at_call 20; refine (refValid_any ms A c _ (H.out.below HW.out).marks H.out.len).mono ?_; rintro e w1 ⟨rfl, hB1⟩; rw [HV.out]; have HG := Lib.hid (HG.out.below hB1); have g0 := HG.out.c0; have g1 := HG.out.c1; have HW : Hid (Below w.heap.size w _) := Lib.hid (below_step HW.out hB1); clear hB1)
    | fail)
  go_ret2
  exact ⟨ret_be HP.out, HW.out⟩

set_option maxRecDepth 100000 in
set_option maxHeartbeats 4000000 in
theorem refProves_no3 (ms : List (Int × Int)) (ws : List Int) (A B : Option Addr) (c e1 : Nat) (m n d : Int) (w : World) (h : Clk w A c ms) (hw : Ints w B ws) (hwl : ws.length ≤ 1000) (hv : viP ms = true) (h0 : ¬ m < 1) (h1 : ¬ 10000 < m) (h2 : ws.length = ms.length) (h3 : d < 1) :
    Calls Try.prog 40 #[.slice A ms.length c, .slice B ws.length e1, .int .i64 m, .agg #[.int .i64 n, .int .i64 d]] w fun e w' => e = .returned (.tuple #[.bool (prB ms ws m n d), .int .i64 (prE ms ws m n d)]) ∧ Below w.heap.size w w' := by
  have H := Lib.hid h
  have HWS := Lib.hid hw
  obtain ⟨W0, hW0, HW, HG⟩ : ∃ W0, W0 = w.alloc (.cells #[.int .i64 n, .int .i64 d] 34) ∧ Hid (Below w.heap.size w W0) ∧ Hid (Rt W0 w.heap.size (.int .i64 n) (.int .i64 d)) :=
    ⟨_, rfl, Lib.hid ((Below.refl _ _).alloc (Nat.le_refl _) _), Lib.hid (Rt.new _ _ _)⟩
  have g0 := HG.out.c0
  have g1 := HG.out.c1
  clear h hw
  have HV := Lib.hid hv
  have HP := Lib.hid (pr_no (ws := ws) (m := m) (n := n) (d := d) hv (by have : decide (1 ≤ d) = false := decide_eq_false (by omega); simp [prA, this]))
  clear hv
  have t0 : decide (m < 1) = false := decide_eq_false h0
  have t1 : decide (10000 < m) = false := decide_eq_false h1
  have t2 : ((ws.length : Int) != (ms.length : Int)) = false := by simp <;> omega
  have t3 : decide (d < 1) = true := decide_eq_true h3
  clear h2
  go_enter Try.func40, Try.ntmps40
  go_upto_region 1 with (fail)
  rw [← hW0]
  clear hW0
  go_wp2_with (first
    | (go_at_call 20; refine (refValid_any ms A c _ (H.out.below HW.out).marks H.out.len).mono ?_; rintro e w1 ⟨rfl, hB1⟩; rw [HV.out]; have HG := Lib.hid (HG.out.below hB1); have g0 := HG.out.c0; have g1 := HG.out.c1; have HW : Hid (Below w.heap.size w _) := Lib.hid (below_step HW.out hB1); clear hB1)
    | fail)
  go_ret2
  exact ⟨ret_be HP.out, HW.out⟩

set_option maxRecDepth 100000 in
set_option maxHeartbeats 4000000 in
theorem refProves_no4 (ms : List (Int × Int)) (ws : List Int) (A B : Option Addr) (c e1 : Nat) (m n d : Int) (w : World) (h : Clk w A c ms) (hw : Ints w B ws) (hwl : ws.length ≤ 1000) (hv : viP ms = true) (h0 : ¬ m < 1) (h1 : ¬ 10000 < m) (h2 : ws.length = ms.length) (h3 : ¬ d < 1) (h4 : 10000 < d) :
    Calls Try.prog 40 #[.slice A ms.length c, .slice B ws.length e1, .int .i64 m, .agg #[.int .i64 n, .int .i64 d]] w fun e w' => e = .returned (.tuple #[.bool (prB ms ws m n d), .int .i64 (prE ms ws m n d)]) ∧ Below w.heap.size w w' := by
  have H := Lib.hid h
  have HWS := Lib.hid hw
  obtain ⟨W0, hW0, HW, HG⟩ : ∃ W0, W0 = w.alloc (.cells #[.int .i64 n, .int .i64 d] 34) ∧ Hid (Below w.heap.size w W0) ∧ Hid (Rt W0 w.heap.size (.int .i64 n) (.int .i64 d)) :=
    ⟨_, rfl, Lib.hid ((Below.refl _ _).alloc (Nat.le_refl _) _), Lib.hid (Rt.new _ _ _)⟩
  have g0 := HG.out.c0
  have g1 := HG.out.c1
  clear h hw
  have HV := Lib.hid hv
  have HP := Lib.hid (pr_no (ws := ws) (m := m) (n := n) (d := d) hv (by have : decide (d ≤ 10000) = false := decide_eq_false (by omega); simp [prA, this]))
  clear hv
  have t0 : decide (m < 1) = false := decide_eq_false h0
  have t1 : decide (10000 < m) = false := decide_eq_false h1
  have t2 : ((ws.length : Int) != (ms.length : Int)) = false := by simp <;> omega
  have t3 : decide (d < 1) = false := decide_eq_false h3
  have t4 : decide (10000 < d) = true := decide_eq_true h4
  clear h2
  go_enter Try.func40, Try.ntmps40
  go_upto_region 1 with (fail)
  rw [← hW0]
  clear hW0
  go_wp2_with (first
    | (go_at_call 20; refine (refValid_any ms A c _ (H.out.below HW.out).marks H.out.len).mono ?_; rintro e w1 ⟨rfl, hB1⟩; rw [HV.out]; have HG := Lib.hid (HG.out.below hB1); have g0 := HG.out.c0; have g1 := HG.out.c1; have HW : Hid (Below w.heap.size w _) := Lib.hid (below_step HW.out hB1); clear hB1)
    | fail)
  go_ret2
  exact ⟨ret_be HP.out, HW.out⟩

set_option maxRecDepth 100000 in
set_option maxHeartbeats 4000000 in
theorem refProves_no5 (ms : List (Int × Int)) (ws : List Int) (A B : Option Addr) (c e1 : Nat) (m n d : Int) (w : World) (h : Clk w A c ms) (hw : Ints w B ws) (hwl : ws.length ≤ 1000) (hv : viP ms = true) (h0 : ¬ m < 1) (h1 : ¬ 10000 < m) (h2 : ws.length = ms.length) (h3 : ¬ d < 1) (h4 : ¬ 10000 < d) (h5 : n < 0) :
    Calls Try.prog 40 #[.slice A ms.length c, .slice B ws.length e1, .int .i64 m, .agg #[.int .i64 n, .int .i64 d]] w fun e w' => e = .returned (.tuple #[.bool (prB ms ws m n d), .int .i64 (prE ms ws m n d)]) ∧ Below w.heap.size w w' := by
  have H := Lib.hid h
  have HWS := Lib.hid hw
  obtain ⟨W0, hW0, HW, HG⟩ : ∃ W0, W0 = w.alloc (.cells #[.int .i64 n, .int .i64 d] 34) ∧ Hid (Below w.heap.size w W0) ∧ Hid (Rt W0 w.heap.size (.int .i64 n) (.int .i64 d)) :=
    ⟨_, rfl, Lib.hid ((Below.refl _ _).alloc (Nat.le_refl _) _), Lib.hid (Rt.new _ _ _)⟩
  have g0 := HG.out.c0
  have g1 := HG.out.c1
  clear h hw
  have HV := Lib.hid hv
  have HP := Lib.hid (pr_no (ws := ws) (m := m) (n := n) (d := d) hv (by have : decide (0 ≤ n) = false := decide_eq_false (by omega); simp [prA, this]))
  clear hv
  have t0 : decide (m < 1) = false := decide_eq_false h0
  have t1 : decide (10000 < m) = false := decide_eq_false h1
  have t2 : ((ws.length : Int) != (ms.length : Int)) = false := by simp <;> omega
  have t3 : decide (d < 1) = false := decide_eq_false h3
  have t4 : decide (10000 < d) = false := decide_eq_false h4
  have t5 : decide (n < 0) = true := decide_eq_true h5
  clear h2
  go_enter Try.func40, Try.ntmps40
  go_upto_region 1 with (fail)
  rw [← hW0]
  clear hW0
  go_wp2_with (first
    | (go_at_call 20; refine (refValid_any ms A c _ (H.out.below HW.out).marks H.out.len).mono ?_; rintro e w1 ⟨rfl, hB1⟩; rw [HV.out]; have HG := Lib.hid (HG.out.below hB1); have g0 := HG.out.c0; have g1 := HG.out.c1; have HW : Hid (Below w.heap.size w _) := Lib.hid (below_step HW.out hB1); clear hB1)
    | fail)
  go_ret2
  exact ⟨ret_be HP.out, HW.out⟩

set_option maxRecDepth 100000 in
set_option maxHeartbeats 4000000 in
theorem refProves_no6 (ms : List (Int × Int)) (ws : List Int) (A B : Option Addr) (c e1 : Nat) (m n d : Int) (w : World) (h : Clk w A c ms) (hw : Ints w B ws) (hwl : ws.length ≤ 1000) (hv : viP ms = true) (h0 : ¬ m < 1) (h1 : ¬ 10000 < m) (h2 : ws.length = ms.length) (h3 : ¬ d < 1) (h4 : ¬ 10000 < d) (h5 : ¬ n < 0) (h6 : 1000000000 < n) :
    Calls Try.prog 40 #[.slice A ms.length c, .slice B ws.length e1, .int .i64 m, .agg #[.int .i64 n, .int .i64 d]] w fun e w' => e = .returned (.tuple #[.bool (prB ms ws m n d), .int .i64 (prE ms ws m n d)]) ∧ Below w.heap.size w w' := by
  have H := Lib.hid h
  have HWS := Lib.hid hw
  obtain ⟨W0, hW0, HW, HG⟩ : ∃ W0, W0 = w.alloc (.cells #[.int .i64 n, .int .i64 d] 34) ∧ Hid (Below w.heap.size w W0) ∧ Hid (Rt W0 w.heap.size (.int .i64 n) (.int .i64 d)) :=
    ⟨_, rfl, Lib.hid ((Below.refl _ _).alloc (Nat.le_refl _) _), Lib.hid (Rt.new _ _ _)⟩
  have g0 := HG.out.c0
  have g1 := HG.out.c1
  clear h hw
  have HV := Lib.hid hv
  have HP := Lib.hid (pr_no (ws := ws) (m := m) (n := n) (d := d) hv (by have : decide (n ≤ 1000000000) = false := decide_eq_false (by omega); simp [prA, this]))
  clear hv
  have t0 : decide (m < 1) = false := decide_eq_false h0
  have t1 : decide (10000 < m) = false := decide_eq_false h1
  have t2 : ((ws.length : Int) != (ms.length : Int)) = false := by simp <;> omega
  have t3 : decide (d < 1) = false := decide_eq_false h3
  have t4 : decide (10000 < d) = false := decide_eq_false h4
  have t5 : decide (n < 0) = false := decide_eq_false h5
  have t6 : decide (1000000000 < n) = true := decide_eq_true h6
  clear h2
  go_enter Try.func40, Try.ntmps40
  go_upto_region 1 with (fail)
  rw [← hW0]
  clear hW0
  go_wp2_with (first
    | (go_at_call 20; refine (refValid_any ms A c _ (H.out.below HW.out).marks H.out.len).mono ?_; rintro e w1 ⟨rfl, hB1⟩; rw [HV.out]; have HG := Lib.hid (HG.out.below hB1); have g0 := HG.out.c0; have g1 := HG.out.c1; have HW : Hid (Below w.heap.size w _) := Lib.hid (below_step HW.out hB1); clear hB1)
    | fail)
  go_ret2
  exact ⟨ret_be HP.out, HW.out⟩

set_option maxRecDepth 100000 in
set_option maxHeartbeats 4000000 in
theorem refProves_yes (ms : List (Int × Int)) (ws : List Int) (A B : Option Addr) (c e1 : Nat) (m n d : Int) (w : World) (h : Clk w A c ms) (hw : Ints w B ws) (hwl : ws.length ≤ 1000) (hv : viP ms = true) (h0 : 1 ≤ m ∧ m ≤ 10000) (h1 : ws.length = ms.length) (h2 : 1 ≤ d ∧ d ≤ 10000) (h3 : 0 ≤ n ∧ n ≤ 1000000000) :
    Calls Try.prog 40 #[.slice A ms.length c, .slice B ws.length e1, .int .i64 m, .agg #[.int .i64 n, .int .i64 d]] w fun e w' => e = .returned (.tuple #[.bool (prB ms ws m n d), .int .i64 (prE ms ws m n d)]) ∧ Below w.heap.size w w' := by
  have H := Lib.hid h
  have HWS := Lib.hid hw
  obtain ⟨W0, hW0, HW, HG⟩ : ∃ W0, W0 = w.alloc (.cells #[.int .i64 n, .int .i64 d] 34) ∧ Hid (Below w.heap.size w W0) ∧ Hid (Rt W0 w.heap.size (.int .i64 n) (.int .i64 d)) :=
    ⟨_, rfl, Lib.hid ((Below.refl _ _).alloc (Nat.le_refl _) _), Lib.hid (Rt.new _ _ _)⟩
  have g0 := HG.out.c0
  have g1 := HG.out.c1
  clear h hw
  have t0 : decide (m < 1) = false := decide_eq_false (by omega)
  have t1 : decide (10000 < m) = false := decide_eq_false (by omega)
  have t2 : ((ws.length : Int) != (ms.length : Int)) = false := by simp <;> omega
  have t3 : decide (d < 1) = false := decide_eq_false (by omega)
  have t4 : decide (10000 < d) = false := decide_eq_false (by omega)
  have t5 : decide (n < 0) = false := decide_eq_false (by omega)
  have t6 : decide (1000000000 < n) = false := decide_eq_false (by omega)
  obtain ⟨⟨hn1, hn2⟩, hpt, _⟩ := vi_parts hv
  have HV := Lib.hid hv
  have HPT := Lib.hid hpt
  have HLW := Lib.hid h1
  have hl12 : ws.length ≤ 12 := by omega
  have hlm : ws.length ≤ ms.length := by omega
  obtain ⟨x, hx⟩ : ∃ x, n * m = x := ⟨_, rfl⟩
  have hxb := mulBox (X := 1000000000) (Y := 10000) (show -1000000000 ≤ n by omega) h3.2 (show -10000 ≤ m by omega) h0.2
  rw [hx] at hxb
  have wx : IntKind.i64.wrap (n * m) = x := by rw [hx]; exact IntWalk.i64_in _ (by omega)
  have HXX := Lib.hid hx
  have wneg : IntKind.i64.wrap (-m) = -m := IntWalk.i64_in _ (by omega)
  have HPN : Hid (ws.all (inB m) = false → false = prB ms ws m n d ∧ 2 = prE ms ws m n d) := Lib.hid (fun q => pr_no hv (by rw [prA, q, Bool.and_false]))
  have HPY : Hid (ws.all (inB m) = true → decide (ws.sum = 0 ∧ turL ms ws = 0 ∧ n * m ≤ upL ms ws * d) = prB ms ws m n d ∧ 0 = prE ms ws m n d) := Lib.hid (fun q => pr_yes hv (prA_mk h0 h1 h2 h3 q))
  clear hv hpt h1 hx
  go_enter Try.func40, Try.ntmps40
  go_upto_region 1 with (fail)
  rw [← hW0]
  clear hW0
  go_wp2_with (first
    | (go_at_call 20; refine (refValid_any ms A c _ (H.out.below HW.out).marks H.out.len).mono ?_; rintro e w1 ⟨rfl, hB1⟩; rw [HV.out]; have HG := Lib.hid (HG.out.below hB1); have g0 := HG.out.c0; have g1 := HG.out.c1; have HW : Hid (Below w.heap.size w _) := Lib.hid (below_step HW.out hB1); clear hB1)
    | fail)
  go_loopw [10, 11, 12, 53] (fun s t v i wr => ∃ (k : Nat) (x y z : Int), k ≤ ws.length ∧ i = .int .i64 k ∧ s = .int .i64 x ∧ t = .int .i64 y ∧ v = .int .i64 z ∧ (-10000 * (k : Int) ≤ x ∧ x ≤ 10000 * k) ∧ (-1000000 * (k : Int) ≤ y ∧ y ≤ 1000000 * k) ∧ (-10000000 * (k : Int) ≤ z ∧ z ≤ 10000000 * k) ∧ Hid (x = (ws.take k).sum ∧ y = turK ms ws k ∧ z = upK ms ws k ∧ ∀ j u, j < k → ws[j]? = some u → inB m u = true) ∧ wr = w1) (fun _ _ _ i _ => ws.length - (intOf i).toNat)
  case atStart => exact ⟨0, 0, 0, 0, Nat.zero_le _, rfl, rfl, rfl, rfl, by omega, by omega, by omega, Lib.hid ⟨rfl, rfl, rfl, fun j u hj => absurd hj (by omega)⟩, rfl⟩
  case round =>
    obtain ⟨k, x', y, z', hk, rfl, rfl, rfl, rfl, hxk, hyk, hzk, hs, rfl⟩ := hrel
    by_cases hlt : k < ws.length
    · obtain ⟨ad, z, rfl, hbk, hz, hc⟩ := (HWS.out.below HW.out).get hlt
      obtain ⟨bl, off, rfl, hbl, hcells⟩ := (H.out.below HW.out).marks.open_ (show 0 < ms.length by omega)
      obtain ⟨px, py, hxy⟩ := getM_of_lt (show k < ms.length by omega)
      have c0 := (hcells k _ hxy).1
      have c1 := (hcells k _ hxy).2
      have hkm : k < ms.length := by omega
      have HXY := Lib.hid hxy
      clear hcells hxy
      by_cases hin : -m ≤ z ∧ z ≤ m
      · have v1 : decide (z < -m) = false := decide_eq_false (by omega)
        have v2 : decide (m < z) = false := decide_eq_false (by omega)
        have HINZ : Hid (inB m z = true) := Lib.hid (by simp [inB, hin])
        have pb := pt_parts (HPT.out _ (List.mem_of_getElem? HXY.out))
        have mb := mulBox (X := 10000) (Y := 100) (show -10000 ≤ z by omega) (by omega) pb.1.1 pb.1.2
        have mb2 := mulBox (X := 10000) (Y := 1000) (show -10000 ≤ z by omega) (by omega) pb.2.1 pb.2.2
        obtain ⟨q, hq⟩ : ∃ q, z * px = q := ⟨_, rfl⟩
        obtain ⟨r, hr⟩ : ∃ q, z * py = q := ⟨_, rfl⟩
        have HN := Lib.hid (And.intro (int_take hz.out) (And.intro (tur_next hz.out HXY.out) (up_next hz.out HXY.out)))
        dsimp only at mb mb2
        rw [hq] at mb
        rw [hr] at mb2
        have HQ := Lib.hid hq
        have HR := Lib.hid hr
        have wq : IntKind.i64.wrap (z * px) = q := by rw [hq]; exact IntWalk.i64_in _ (by omega)
        have wr' : IntKind.i64.wrap (z * py) = r := by rw [hr]; exact IntWalk.i64_in _ (by omega)
        clear pb hq hr
        go_wp2
        go_roundw
        case rel => exact ⟨k + 1, x' + z, y + q, z' + r, by omega, by go_num, rfl, rfl, rfl, by omega, by omega, by omega, Lib.hid ⟨by rw [HN.out.1, hs.out.1], by rw [HN.out.2.1, hs.out.2.1, HQ.out], by rw [HN.out.2.2, hs.out.2.2.1, HR.out], fun j u hj hu => by
          rcases Nat.lt_or_eq_of_le (Nat.le_of_lt_succ hj) with h | h
          · exact hs.out.2.2.2 j u h hu
          · subst h
            rw [hz.out] at hu
            cases hu
            exact HINZ.out⟩, (by first | trivial | rfl)⟩
        case measure => simp [intOf]; omega
      · have HBAD : Hid (ws.all (inB m) = false) := Lib.hid (by
          rw [List.all_eq_false]
          exact ⟨z, List.mem_of_getElem? hz.out, by simp [inB]; omega⟩)
        by_cases hl1 : z < -m
        · have v1 : decide (z < -m) = true := decide_eq_true hl1
          clear hin
          go_wp2
          go_ret2
          exact ⟨ret_be (HPN.out HBAD.out), HW.out⟩
        · have v1 : decide (z < -m) = false := decide_eq_false hl1
          have v2 : decide (m < z) = true := decide_eq_true (by omega)
          clear hin
          go_wp2
          go_ret2
          exact ⟨ret_be (HPN.out HBAD.out), HW.out⟩
    · obtain rfl : k = ws.length := by omega
      have HALL : Hid (ws.all (inB m) = true) := Lib.hid (List.all_eq_true.2 fun u hu => by
        obtain ⟨j, hj⟩ := List.mem_iff_getElem?.1 hu
        exact hs.out.2.2.2 j u (List.getElem?_eq_some_iff.1 hj).1 hj)
      have HT : Hid (ws.sum = x') := Lib.hid (by rw [hs.out.1, List.take_length])
      have HU : Hid (turL ms ws = y) := Lib.hid hs.out.2.1.symm
      have hyb := mulBox (X := 120000000) (Y := 10000) (show -120000000 ≤ z' by omega) (show z' ≤ 120000000 by omega) (show -10000 ≤ d by omega) h2.2
      obtain ⟨u, hu⟩ : ∃ u, z' * d = u := ⟨_, rfl⟩
      rw [hu] at hyb
      have wu : IntKind.i64.wrap (z' * d) = u := by rw [hu]; exact IntWalk.i64_in _ (by omega)
      have HUU := Lib.hid hu
      have HF2 := Lib.hid (HPY.out HALL.out).2
      clear hu
      by_cases hT0 : x' = 0
      · by_cases hU0 : y = 0
        · have HF := Lib.hid ((pr_val HT.out HU.out hs.out.2.2.1.symm HXX.out HUU.out hT0 hU0).trans (HPY.out HALL.out).1)
          subst hT0
          subst hU0
          go_wp2
          go_ret2
          exact ⟨ret_be ⟨HF.out, HF2.out⟩, HW.out⟩
        · have HF := Lib.hid ((pr_tur (n := n) (m := m) (d := d) HU.out hU0).trans (HPY.out HALL.out).1)
          have u2 : (y == 0) = false := by simpa using hU0
          subst hT0
          clear hU0
          go_wp2
          go_ret2
          exact ⟨ret_be ⟨HF.out, HF2.out⟩, HW.out⟩
      · have HF := Lib.hid ((pr_sum (ms := ms) (n := n) (m := m) (d := d) HT.out hT0).trans (HPY.out HALL.out).1)
        have u1 : (x' == 0) = false := by simpa using hT0
        clear hT0
        go_wp2
        go_ret2
        exact ⟨ret_be ⟨HF.out, HF2.out⟩, HW.out⟩

theorem refProves_any (ms : List (Int × Int)) (ws : List Int) (A B : Option Addr) (c e1 : Nat) (m n d : Int) (w : World) (h : Clk w A c ms) (hw : Ints w B ws) (hwl : ws.length ≤ 1000) :
    Calls Try.prog 40 #[.slice A ms.length c, .slice B ws.length e1, .int .i64 m, .agg #[.int .i64 n, .int .i64 d]] w fun e w' => e = .returned (.tuple #[.bool (prB ms ws m n d), .int .i64 (prE ms ws m n d)]) ∧ Below w.heap.size w w' := by
  cases hv : viP ms with
  | false => exact refProves_inv ms ws A B c e1 m n d w h hw hwl hv
  | true =>
    by_cases c0 : m < 1
    case pos => exact refProves_no0 ms ws A B c e1 m n d w h hw hwl hv c0
    by_cases c1 : 10000 < m
    case pos => exact refProves_no1 ms ws A B c e1 m n d w h hw hwl hv c0 c1
    by_cases c2 : ws.length = ms.length
    case neg => exact refProves_no2 ms ws A B c e1 m n d w h hw hwl hv c0 c1 c2
    by_cases c3 : d < 1
    case pos => exact refProves_no3 ms ws A B c e1 m n d w h hw hwl hv c0 c1 c2 c3
    by_cases c4 : 10000 < d
    case pos => exact refProves_no4 ms ws A B c e1 m n d w h hw hwl hv c0 c1 c2 c3 c4
    by_cases c5 : n < 0
    case pos => exact refProves_no5 ms ws A B c e1 m n d w h hw hwl hv c0 c1 c2 c3 c4 c5
    by_cases c6 : 1000000000 < n
    case pos => exact refProves_no6 ms ws A B c e1 m n d w h hw hwl hv c0 c1 c2 c3 c4 c5 c6
    exact refProves_yes ms ws A B c e1 m n d w h hw hwl hv ⟨by omega, by omega⟩ c2 ⟨by omega, by omega⟩ ⟨by omega, by omega⟩
end Go.Proofs.Ytoilbgngefleiaa
