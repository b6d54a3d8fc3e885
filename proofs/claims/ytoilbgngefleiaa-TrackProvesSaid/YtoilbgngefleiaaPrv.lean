/-
  Contract: Proves (track).
-/
import Derived.Test.YtoilbgngefleiaaPrvM
import Derived.Test.YtoilbgngefleiaaRefV
import Derived.Deep.CutRange
namespace Go.Proofs.Ytoilbgngefleiaa
open Go.RowKit Go.Shelf
set_option linter.unusedVariables false
set_option linter.unusedSimpArgs false

set_option maxRecDepth 100000 in
set_option maxHeartbeats 4000000 in
theorem proves_inv (ms : List (Int × Int)) (ws : List Int) (A B : Option Addr) (c e1 : Nat) (m n d : Int) (w : World) (h : Clk w A c ms) (hw : Ints w B ws) (hwl : ws.length ≤ 1000) (hv : viP ms = false) :
    Calls Try.prog 39 #[.slice A ms.length c, .slice B ws.length e1, .int .i64 m, .agg #[.int .i64 n, .int .i64 d]] w fun e w' => e = .returned (.tuple #[.bool (prB ms ws m n d), .int .i64 (prE ms ws m n d)]) ∧ Below w.heap.size w w' := by
  have H := Lib.hid h
  have HWS := Lib.hid hw
  obtain ⟨W0, hW0, HW, HG⟩ : ∃ W0, W0 = w.alloc (.cells #[.int .i64 n, .int .i64 d] 34) ∧ Hid (Below w.heap.size w W0) ∧ Hid (Rt W0 w.heap.size (.int .i64 n) (.int .i64 d)) :=
    ⟨_, rfl, Lib.hid ((Below.refl _ _).alloc (Nat.le_refl _) _), Lib.hid (Rt.new _ _ _)⟩
  have g0 := HG.out.c0
  have g1 := HG.out.c1
  clear h hw
  have HV := Lib.hid hv
  have HP := Lib.hid (pr_inv (ws := ws) (m := m) (n := n) (d := d) hv)
  clear hv
  go_enter Try.func39, Try.ntmps39
  go_upto_region 1 with (fail)
  rw [← hW0]
  clear hW0
  go_wp2_with (first
    | (go_at_call 19; refine (valid_any ms A c _ (H.out.below HW.out).marks H.out.len).mono ?_; rintro e w1 ⟨rfl, hB1⟩; rw [HV.out]; have HG := Lib.hid (HG.out.below hB1); have g0 := HG.out.c0; have g1 := HG.out.c1; have HW : Hid (Below w.heap.size w _) := Lib.hid (below_step HW.out hB1); clear hB1)
    | fail)
  go_ret2
  exact ⟨ret_be HP.out, HW.out⟩

set_option maxRecDepth 100000 in
set_option maxHeartbeats 4000000 in
theorem proves_no0 (ms : List (Int × Int)) (ws : List Int) (A B : Option Addr) (c e1 : Nat) (m n d : Int) (w : World) (h : Clk w A c ms) (hw : Ints w B ws) (hwl : ws.length ≤ 1000) (hv : viP ms = true) (h0 : m < 1) :
    Calls Try.prog 39 #[.slice A ms.length c, .slice B ws.length e1, .int .i64 m, .agg #[.int .i64 n, .int .i64 d]] w fun e w' => e = .returned (.tuple #[.bool (prB ms ws m n d), .int .i64 (prE ms ws m n d)]) ∧ Below w.heap.size w w' := by
  have H := Lib.hid h
  have HWS := Lib.hid hw
  obtain ⟨W0, hW0, HW, HG⟩ : ∃ W0, W0 = w.alloc (.cells #[.int .i64 n, .int .i64 d] 34) ∧ Hid (Below w.heap.size w W0) ∧ Hid (Rt W0 w.heap.size (.int .i64 n) (.int .i64 d)) :=
    ⟨_, rfl, Lib.hid ((Below.refl _ _).alloc (Nat.le_refl _) _), Lib.hid (Rt.new _ _ _)⟩
  have g0 := HG.out.c0
  have g1 := HG.out.c1
  clear h hw
  have HV := Lib.hid hv
  have HP := Lib.hid (pr_no (ws := ws) (m := m) (n := n) (d := d) hv (by have : decide (1 ≤ m) = false := decide_eq_false (by omega); simp [prA, this]))
  clear hv
  have t0 : decide (m < 1) = true := decide_eq_true h0
  go_enter Try.func39, Try.ntmps39
  go_upto_region 1 with (fail)
  rw [← hW0]
  clear hW0
  go_wp2_with (first
    | (go_at_call 19; refine (valid_any ms A c _ (H.out.below HW.out).marks H.out.len).mono ?_; rintro e w1 ⟨rfl, hB1⟩; rw [HV.out]; have HG := Lib.hid (HG.out.below hB1); have g0 := HG.out.c0; have g1 := HG.out.c1; have HW : Hid (Below w.heap.size w _) := Lib.hid (below_step HW.out hB1); clear hB1)
    | fail)
  go_ret2
  exact ⟨ret_be HP.out, HW.out⟩

set_option maxRecDepth 100000 in
set_option maxHeartbeats 4000000 in
theorem proves_no1 (ms : List (Int × Int)) (ws : List Int) (A B : Option Addr) (c e1 : Nat) (m n d : Int) (w : World) (h : Clk w A c ms) (hw : Ints w B ws) (hwl : ws.length ≤ 1000) (hv : viP ms = true) (h0 : ¬ m < 1) (h1 : 10000 < m) :
    Calls Try.prog 39 #[.slice A ms.length c, .slice B ws.length e1, .int .i64 m, .agg #[.int .i64 n, .int .i64 d]] w fun e w' => e = .returned (.tuple #[.bool (prB ms ws m n d), .int .i64 (prE ms ws m n d)]) ∧ Below w.heap.size w w' := by
  have H := Lib.hid h
  have HWS := Lib.hid hw
  obtain ⟨W0, hW0, HW, HG⟩ : ∃ W0, W0 = w.alloc (.cells #[.int .i64 n, .int .i64 d] 34) ∧ Hid (Below w.heap.size w W0) ∧ Hid (Rt W0 w.heap.size (.int .i64 n) (.int .i64 d)) :=
    ⟨_, rfl, Lib.hid ((Below.refl _ _).alloc (Nat.le_refl _) _), Lib.hid (Rt.new _ _ _)⟩
  have g0 := HG.out.c0
  have g1 := HG.out.c1
  clear h hw
  have HV := Lib.hid hv
  have HP := Lib.hid (pr_no (ws := ws) (m := m) (n := n) (d := d) hv (by have : decide (m ≤ 10000) = false := decide_eq_false (by omega); simp [prA, this]))
  clear hv
  have t0 : decide (m < 1) = false := decide_eq_false h0
  have t1 : decide (10000 < m) = true := decide_eq_true h1
  go_enter Try.func39, Try.ntmps39
  go_upto_region 1 with (fail)
  rw [← hW0]
  clear hW0
  go_wp2_with (first
    | (go_at_call 19; refine (valid_any ms A c _ (H.out.below HW.out).marks H.out.len).mono ?_; rintro e w1 ⟨rfl, hB1⟩; rw [HV.out]; have HG := Lib.hid (HG.out.below hB1); have g0 := HG.out.c0; have g1 := HG.out.c1; have HW : Hid (Below w.heap.size w _) := Lib.hid (below_step HW.out hB1); clear hB1)
    | fail)
  go_ret2
  exact ⟨ret_be HP.out, HW.out⟩

set_option maxRecDepth 100000 in
set_option maxHeartbeats 4000000 in
theorem proves_no2 (ms : List (Int × Int)) (ws : List Int) (A B : Option Addr) (c e1 : Nat) (m n d : Int) (w : World) (h : Clk w A c ms) (hw : Ints w B ws) (hwl : ws.length ≤ 1000) (hv : viP ms = true) (h0 : ¬ m < 1) (h1 : ¬ 10000 < m) (h2 : ¬ ws.length = ms.length) :
    Calls Try.prog 39 #[.slice A ms.length c, .slice B ws.length e1, .int .i64 m, .agg #[.int .i64 n, .int .i64 d]] w fun e w' => e = .returned (.tuple #[.bool (prB ms ws m n d), .int .i64 (prE ms ws m n d)]) ∧ Below w.heap.size w w' := by
  have H := Lib.hid h
  have HWS := Lib.hid hw
  obtain ⟨W0, hW0, HW, HG⟩ : ∃ W0, W0 = w.alloc (.cells #[.int .i64 n, .int .i64 d] 34) ∧ Hid (Below w.heap.size w W0) ∧ Hid (Rt W0 w.heap.size (.int .i64 n) (.int .i64 d)) :=
    ⟨_, rfl, Lib.hid ((Below.refl _ _).alloc (Nat.le_refl _) _), Lib.hid (Rt.new _ _ _)⟩
  have g0 := HG.out.c0
  have g1 := HG.out.c1
  clear h hw
  have HV := Lib.hid hv
  have HP := Lib.hid (pr_no (ws := ws) (m := m) (n := n) (d := d) hv (by have : decide (ws.length = ms.length) = false := decide_eq_false (by omega); simp [prA, this]))
  clear hv
  have t0 : decide (m < 1) = false := decide_eq_false h0
  have t1 : decide (10000 < m) = false := decide_eq_false h1
  have t2 : ((ws.length : Int) != (ms.length : Int)) = true := by simp <;> omega
  clear h2
  go_enter Try.func39, Try.ntmps39
  go_upto_region 1 with (fail)
  rw [← hW0]
  clear hW0
  go_wp2_with (first
    | (go_at_call 19; refine (valid_any ms A c _ (H.out.below HW.out).marks H.out.len).mono ?_; rintro e w1 ⟨rfl, hB1⟩; rw [HV.out]; have HG := Lib.hid (HG.out.below hB1); have g0 := HG.out.c0; have g1 := HG.out.c1; have HW : Hid (Below w.heap.size w _) := Lib.hid (below_step HW.out hB1); clear hB1)
    | fail)
  go_ret2
  exact ⟨ret_be HP.out, HW.out⟩

set_option maxRecDepth 100000 in
set_option maxHeartbeats 4000000 in
theorem proves_no3 (ms : List (Int × Int)) (ws : List Int) (A B : Option Addr) (c e1 : Nat) (m n d : Int) (w : World) (h : Clk w A c ms) (hw : Ints w B ws) (hwl : ws.length ≤ 1000) (hv : viP ms = true) (h0 : ¬ m < 1) (h1 : ¬ 10000 < m) (h2 : ws.length = ms.length) (h3 : ws.all (inB m) = false) :
    Calls Try.prog 39 #[.slice A ms.length c, .slice B ws.length e1, .int .i64 m, .agg #[.int .i64 n, .int .i64 d]] w fun e w' => e = .returned (.tuple #[.bool (prB ms ws m n d), .int .i64 (prE ms ws m n d)]) ∧ Below w.heap.size w w' := by
  have H := Lib.hid h
  have HWS := Lib.hid hw
  obtain ⟨W0, hW0, HW, HG⟩ : ∃ W0, W0 = w.alloc (.cells #[.int .i64 n, .int .i64 d] 34) ∧ Hid (Below w.heap.size w W0) ∧ Hid (Rt W0 w.heap.size (.int .i64 n) (.int .i64 d)) :=
    ⟨_, rfl, Lib.hid ((Below.refl _ _).alloc (Nat.le_refl _) _), Lib.hid (Rt.new _ _ _)⟩
  have g0 := HG.out.c0
  have g1 := HG.out.c1
  clear h hw
  have HV := Lib.hid hv
  have HP := Lib.hid (pr_no (ws := ws) (m := m) (n := n) (d := d) hv (by rw [prA, h3, Bool.and_false]))
  clear hv
  have t0 : decide (m < 1) = false := decide_eq_false h0
  have t1 : decide (10000 < m) = false := decide_eq_false h1
  have t2 : ((ws.length : Int) != (ms.length : Int)) = false := by simp <;> omega
  have HIN := Lib.hid h3
  clear h2 h3
  go_enter Try.func39, Try.ntmps39
  go_upto_region 1 with (fail)
  rw [← hW0]
  clear hW0
  go_wp2_with (first
    | (go_at_call 19; refine (valid_any ms A c _ (H.out.below HW.out).marks H.out.len).mono ?_; rintro e w1 ⟨rfl, hB1⟩; rw [HV.out]; have HG := Lib.hid (HG.out.below hB1); have g0 := HG.out.c0; have g1 := HG.out.c1; have HW : Hid (Below w.heap.size w _) := Lib.hid (below_step HW.out hB1); clear hB1)
    | (go_at_call 65; refine (within_any m ws B e1 _ (by omega) (by omega) (HWS.out.below HW.out) (by unfold maxLen; omega)).mono ?_; rintro e w2 ⟨rfl, nq, rfl⟩; rw [HIN.out]; have HG := Lib.hid (HG.out.below (below_drewN (Below.refl _ _) nq)); have g0 := HG.out.c0; have g1 := HG.out.c1; have HW : Hid (Below w.heap.size w _) := Lib.hid (below_drewN HW.out nq))
    | fail)
  go_ret2
  exact ⟨ret_be HP.out, HW.out⟩

set_option maxRecDepth 100000 in
set_option maxHeartbeats 4000000 in
theorem proves_no4 (ms : List (Int × Int)) (ws : List Int) (A B : Option Addr) (c e1 : Nat) (m n d : Int) (w : World) (h : Clk w A c ms) (hw : Ints w B ws) (hwl : ws.length ≤ 1000) (hv : viP ms = true) (h0 : ¬ m < 1) (h1 : ¬ 10000 < m) (h2 : ws.length = ms.length) (h3 : ws.all (inB m) = true) (h4 : d < 1) :
    Calls Try.prog 39 #[.slice A ms.length c, .slice B ws.length e1, .int .i64 m, .agg #[.int .i64 n, .int .i64 d]] w fun e w' => e = .returned (.tuple #[.bool (prB ms ws m n d), .int .i64 (prE ms ws m n d)]) ∧ Below w.heap.size w w' := by
  have H := Lib.hid h
  have HWS := Lib.hid hw
  obtain ⟨W0, hW0, HW, HG⟩ : ∃ W0, W0 = w.alloc (.cells #[.int .i64 n, .int .i64 d] 34) ∧ Hid (Below w.heap.size w W0) ∧ Hid (Rt W0 w.heap.size (.int .i64 n) (.int .i64 d)) :=
    ⟨_, rfl, Lib.hid ((Below.refl _ _).alloc (Nat.le_refl _) _), Lib.hid (Rt.new _ _ _)⟩
  have g0 := HG.out.c0
  have g1 := HG.out.c1
  clear h hw
  have HV := Lib.hid hv
  have HP := Lib.hid (pr_no (ws := ws) (m := m) (n := n) (d := d) hv (by have : decide (1 ≤ d) = false := decide_eq_false (by omega); simp [prA, this]))
  clear hv
  have t0 : decide (m < 1) = false := decide_eq_false h0
  have t1 : decide (10000 < m) = false := decide_eq_false h1
  have t2 : ((ws.length : Int) != (ms.length : Int)) = false := by simp <;> omega
  have HIN := Lib.hid h3
  have t4 : decide (d < 1) = true := decide_eq_true h4
  clear h2 h3
  go_enter Try.func39, Try.ntmps39
  go_upto_region 1 with (fail)
  rw [← hW0]
  clear hW0
  go_wp2_with (first
    | (go_at_call 19; refine (valid_any ms A c _ (H.out.below HW.out).marks H.out.len).mono ?_; rintro e w1 ⟨rfl, hB1⟩; rw [HV.out]; have HG := Lib.hid (HG.out.below hB1); have g0 := HG.out.c0; have g1 := HG.out.c1; have HW : Hid (Below w.heap.size w _) := Lib.hid (below_step HW.out hB1); clear hB1)
    | (go_at_call 65; refine (within_any m ws B e1 _ (by omega) (by omega) (HWS.out.below HW.out) (by unfold maxLen; omega)).mono ?_; rintro e w2 ⟨rfl, nq, rfl⟩; rw [HIN.out]; have HG := Lib.hid (HG.out.below (below_drewN (Below.refl _ _) nq)); have g0 := HG.out.c0; have g1 := HG.out.c1; have HW : Hid (Below w.heap.size w _) := Lib.hid (below_drewN HW.out nq))
    | fail)
  go_ret2
  exact ⟨ret_be HP.out, HW.out⟩

set_option maxRecDepth 100000 in
set_option maxHeartbeats 4000000 in
theorem proves_no5 (ms : List (Int × Int)) (ws : List Int) (A B : Option Addr) (c e1 : Nat) (m n d : Int) (w : World) (h : Clk w A c ms) (hw : Ints w B ws) (hwl : ws.length ≤ 1000) (hv : viP ms = true) (h0 : ¬ m < 1) (h1 : ¬ 10000 < m) (h2 : ws.length = ms.length) (h3 : ws.all (inB m) = true) (h4 : ¬ d < 1) (h5 : 10000 < d) :
    Calls Try.prog 39 #[.slice A ms.length c, .slice B ws.length e1, .int .i64 m, .agg #[.int .i64 n, .int .i64 d]] w fun e w' => e = .returned (.tuple #[.bool (prB ms ws m n d), .int .i64 (prE ms ws m n d)]) ∧ Below w.heap.size w w' := by
  have H := Lib.hid h
  have HWS := Lib.hid hw
  obtain ⟨W0, hW0, HW, HG⟩ : ∃ W0, W0 = w.alloc (.cells #[.int .i64 n, .int .i64 d] 34) ∧ Hid (Below w.heap.size w W0) ∧ Hid (Rt W0 w.heap.size (.int .i64 n) (.int .i64 d)) :=
    ⟨_, rfl, Lib.hid ((Below.refl _ _).alloc (Nat.le_refl _) _), Lib.hid (Rt.new _ _ _)⟩
  have g0 := HG.out.c0
  have g1 := HG.out.c1
  clear h hw
  have HV := Lib.hid hv
  have HP := Lib.hid (pr_no (ws := ws) (m := m) (n := n) (d := d) hv (by have : decide (d ≤ 10000) = false := decide_eq_false (by omega); simp [prA, this]))
  clear hv
  have t0 : decide (m < 1) = false := decide_eq_false h0
  have t1 : decide (10000 < m) = false := decide_eq_false h1
  have t2 : ((ws.length : Int) != (ms.length : Int)) = false := by simp <;> omega
  have HIN := Lib.hid h3
  have t4 : decide (d < 1) = false := decide_eq_false h4
  have t5 : decide (10000 < d) = true := decide_eq_true h5
  clear h2 h3
  go_enter Try.func39, Try.ntmps39
  go_upto_region 1 with (fail)
  rw [← hW0]
  clear hW0
  go_wp2_with (first
    | (go_at_call 19; refine (valid_any ms A c _ (H.out.below HW.out).marks H.out.len).mono ?_; rintro e w1 ⟨rfl, hB1⟩; rw [HV.out]; have HG := Lib.hid (HG.out.below hB1); have g0 := HG.out.c0; have g1 := HG.out.c1; have HW : Hid (Below w.heap.size w _) := Lib.hid (below_step HW.out hB1); clear hB1)
    | (go_at_call 65; refine (within_any m ws B e1 _ (by omega) (by omega) (HWS.out.below HW.out) (by unfold maxLen; omega)).mono ?_; rintro e w2 ⟨rfl, nq, rfl⟩; rw [HIN.out]; have HG := Lib.hid (HG.out.below (below_drewN (Below.refl _ _) nq)); have g0 := HG.out.c0; have g1 := HG.out.c1; have HW : Hid (Below w.heap.size w _) := Lib.hid (below_drewN HW.out nq))
    | fail)
  go_ret2
  exact ⟨ret_be HP.out, HW.out⟩

set_option maxRecDepth 100000 in
set_option maxHeartbeats 4000000 in
theorem proves_no6 (ms : List (Int × Int)) (ws : List Int) (A B : Option Addr) (c e1 : Nat) (m n d : Int) (w : World) (h : Clk w A c ms) (hw : Ints w B ws) (hwl : ws.length ≤ 1000) (hv : viP ms = true) (h0 : ¬ m < 1) (h1 : ¬ 10000 < m) (h2 : ws.length = ms.length) (h3 : ws.all (inB m) = true) (h4 : ¬ d < 1) (h5 : ¬ 10000 < d) (h6 : n < 0) :
    Calls Try.prog 39 #[.slice A ms.length c, .slice B ws.length e1, .int .i64 m, .agg #[.int .i64 n, .int .i64 d]] w fun e w' => e = .returned (.tuple #[.bool (prB ms ws m n d), .int .i64 (prE ms ws m n d)]) ∧ Below w.heap.size w w' := by
  have H := Lib.hid h
  have HWS := Lib.hid hw
  obtain ⟨W0, hW0, HW, HG⟩ : ∃ W0, W0 = w.alloc (.cells #[.int .i64 n, .int .i64 d] 34) ∧ Hid (Below w.heap.size w W0) ∧ Hid (Rt W0 w.heap.size (.int .i64 n) (.int .i64 d)) :=
    ⟨_, rfl, Lib.hid ((Below.refl _ _).alloc (Nat.le_refl _) _), Lib.hid (Rt.new _ _ _)⟩
  have g0 := HG.out.c0
  have g1 := HG.out.c1
  clear h hw
  have HV := Lib.hid hv
  have HP := Lib.hid (pr_no (ws := ws) (m := m) (n := n) (d := d) hv (by have : decide (0 ≤ n) = false := decide_eq_false (by omega); simp [prA, this]))
  clear hv
  have t0 : decide (m < 1) = false := decide_eq_false h0
  have t1 : decide (10000 < m) = false := decide_eq_false h1
  have t2 : ((ws.length : Int) != (ms.length : Int)) = false := by simp <;> omega
  have HIN := Lib.hid h3
  have t4 : decide (d < 1) = false := decide_eq_false h4
  have t5 : decide (10000 < d) = false := decide_eq_false h5
  have t6 : decide (n < 0) = true := decide_eq_true h6
  clear h2 h3
  go_enter Try.func39, Try.ntmps39
  go_upto_region 1 with (fail)
  rw [← hW0]
  clear hW0
  go_wp2_with (first
    | (go_at_call 19; refine (valid_any ms A c _ (H.out.below HW.out).marks H.out.len).mono ?_; rintro e w1 ⟨rfl, hB1⟩; rw [HV.out]; have HG := Lib.hid (HG.out.below hB1); have g0 := HG.out.c0; have g1 := HG.out.c1; have HW : Hid (Below w.heap.size w _) := Lib.hid (below_step HW.out hB1); clear hB1)
    | (go_at_call 65; refine (within_any m ws B e1 _ (by omega) (by omega) (HWS.out.below HW.out) (by unfold maxLen; omega)).mono ?_; rintro e w2 ⟨rfl, nq, rfl⟩; rw [HIN.out]; have HG := Lib.hid (HG.out.below (below_drewN (Below.refl _ _) nq)); have g0 := HG.out.c0; have g1 := HG.out.c1; have HW : Hid (Below w.heap.size w _) := Lib.hid (below_drewN HW.out nq))
    | fail)
  go_ret2
  exact ⟨ret_be HP.out, HW.out⟩

set_option maxRecDepth 100000 in
set_option maxHeartbeats 4000000 in
theorem proves_no7 (ms : List (Int × Int)) (ws : List Int) (A B : Option Addr) (c e1 : Nat) (m n d : Int) (w : World) (h : Clk w A c ms) (hw : Ints w B ws) (hwl : ws.length ≤ 1000) (hv : viP ms = true) (h0 : ¬ m < 1) (h1 : ¬ 10000 < m) (h2 : ws.length = ms.length) (h3 : ws.all (inB m) = true) (h4 : ¬ d < 1) (h5 : ¬ 10000 < d) (h6 : ¬ n < 0) (h7 : 1000000000 < n) :
    Calls Try.prog 39 #[.slice A ms.length c, .slice B ws.length e1, .int .i64 m, .agg #[.int .i64 n, .int .i64 d]] w fun e w' => e = .returned (.tuple #[.bool (prB ms ws m n d), .int .i64 (prE ms ws m n d)]) ∧ Below w.heap.size w w' := by
  have H := Lib.hid h
  have HWS := Lib.hid hw
  obtain ⟨W0, hW0, HW, HG⟩ : ∃ W0, W0 = w.alloc (.cells #[.int .i64 n, .int .i64 d] 34) ∧ Hid (Below w.heap.size w W0) ∧ Hid (Rt W0 w.heap.size (.int .i64 n) (.int .i64 d)) :=
    ⟨_, rfl, Lib.hid ((Below.refl _ _).alloc (Nat.le_refl _) _), Lib.hid (Rt.new _ _ _)⟩
  have g0 := HG.out.c0
  have g1 := HG.out.c1
  clear h hw
  have HV := Lib.hid hv
  have HP := Lib.hid (pr_no (ws := ws) (m := m) (n := n) (d := d) hv (by have : decide (n ≤ 1000000000) = false := decide_eq_false (by omega); simp [prA, this]))
  clear hv
  have t0 : decide (m < 1) = false := decide_eq_false h0
  have t1 : decide (10000 < m) = false := decide_eq_false h1
  have t2 : ((ws.length : Int) != (ms.length : Int)) = false := by simp <;> omega
  have HIN := Lib.hid h3
  have t4 : decide (d < 1) = false := decide_eq_false h4
  have t5 : decide (10000 < d) = false := decide_eq_false h5
  have t6 : decide (n < 0) = false := decide_eq_false h6
  have t7 : decide (1000000000 < n) = true := decide_eq_true h7
  clear h2 h3
  go_enter Try.func39, Try.ntmps39
  go_upto_region 1 with (fail)
  rw [← hW0]
  clear hW0
  go_wp2_with (first
    | (go_at_call 19; refine (valid_any ms A c _ (H.out.below HW.out).marks H.out.len).mono ?_; rintro e w1 ⟨rfl, hB1⟩; rw [HV.out]; have HG := Lib.hid (HG.out.below hB1); have g0 := HG.out.c0; have g1 := HG.out.c1; have HW : Hid (Below w.heap.size w _) := Lib.hid (below_step HW.out hB1); clear hB1)
    | (go_at_call 65; refine (within_any m ws B e1 _ (by omega) (by omega) (HWS.out.below HW.out) (by unfold maxLen; omega)).mono ?_; rintro e w2 ⟨rfl, nq, rfl⟩; rw [HIN.out]; have HG := Lib.hid (HG.out.below (below_drewN (Below.refl _ _) nq)); have g0 := HG.out.c0; have g1 := HG.out.c1; have HW : Hid (Below w.heap.size w _) := Lib.hid (below_drewN HW.out nq))
    | fail)
  go_ret2
  exact ⟨ret_be HP.out, HW.out⟩

set_option maxRecDepth 100000 in
set_option maxHeartbeats 4000000 in
theorem proves_yes (ms : List (Int × Int)) (ws : List Int) (A B : Option Addr) (c e1 : Nat) (m n d : Int) (w : World) (h : Clk w A c ms) (hw : Ints w B ws) (hwl : ws.length ≤ 1000) (hv : viP ms = true) (h0 : 1 ≤ m ∧ m ≤ 10000) (h1 : ws.length = ms.length) (h2 : 1 ≤ d ∧ d ≤ 10000) (h3 : 0 ≤ n ∧ n ≤ 1000000000) (h4 : ws.all (inB m) = true) :
    Calls Try.prog 39 #[.slice A ms.length c, .slice B ws.length e1, .int .i64 m, .agg #[.int .i64 n, .int .i64 d]] w fun e w' => e = .returned (.tuple #[.bool (prB ms ws m n d), .int .i64 (prE ms ws m n d)]) ∧ Below w.heap.size w w' := by
  have H := Lib.hid h
  have HWS := Lib.hid hw
  obtain ⟨W0, hW0, HW, HG⟩ : ∃ W0, W0 = w.alloc (.cells #[.int .i64 n, .int .i64 d] 34) ∧ Hid (Below w.heap.size w W0) ∧ Hid (Rt W0 w.heap.size (.int .i64 n) (.int .i64 d)) :=
    ⟨_, rfl, Lib.hid ((Below.refl _ _).alloc (Nat.le_refl _) _), Lib.hid (Rt.new _ _ _)⟩
  have g0 := HG.out.c0
  have g1 := HG.out.c1
  clear h hw
  have t0 : decide (m < 1) = false := decide_eq_false (by omega)
  have t1 : decide (10000 < m) = false := decide_eq_false (by omega)
  have t2 : ((ws.length : Int) != (ms.length : Int)) = false := by simp <;> omega
  have t3 : decide (d < 1) = false := decide_eq_false (by omega)
  have t4 : decide (10000 < d) = false := decide_eq_false (by omega)
  have t5 : decide (n < 0) = false := decide_eq_false (by omega)
  have t6 : decide (1000000000 < n) = false := decide_eq_false (by omega)
  obtain ⟨⟨hn1, hn2⟩, hpt, _⟩ := vi_parts hv
  have HV := Lib.hid hv
  have HPT := Lib.hid hpt
  have HLW := Lib.hid h1
  have hl12 : ws.length ≤ 12 := by omega
  have hlm : ws.length ≤ ms.length := by omega
  obtain ⟨x, hx⟩ : ∃ x, n * m = x := ⟨_, rfl⟩
  have hxb := mulBox (X := 1000000000) (Y := 10000) (show -1000000000 ≤ n by omega) h3.2 (show -10000 ≤ m by omega) h0.2
  rw [hx] at hxb
  have wx : IntKind.i64.wrap (n * m) = x := by rw [hx]; exact IntWalk.i64_in _ (by omega)
  have HXX := Lib.hid hx
  have HIN := Lib.hid h4
  have HP := Lib.hid (pr_yes hv (prA_mk (m := m) (n := n) (d := d) h0 h1 h2 h3 h4))
  have HWB : Hid (∀ z ∈ ws, -10000 ≤ z ∧ z ≤ 10000) := Lib.hid (fun z hz => by
    have := List.all_eq_true.1 h4 z hz
    simp [inB] at this
    omega)
  clear hv hpt h1 h4 hx
  obtain ⟨T, hT⟩ : ∃ T, ws.sum = T := ⟨_, rfl⟩
  obtain ⟨U, hU⟩ : ∃ T, turL ms ws = T := ⟨_, rfl⟩
  have HT := Lib.hid hT
  have HU := Lib.hid hU
  clear hT hU
  by_cases hT0 : T = 0
  · have u1 : (T != 0) = false := by simp [hT0]
    by_cases hU0 : U = 0
    · have u2 : (U != 0) = false := by simp [hU0]
      have HT0 := Lib.hid hT0
      have HU0 := Lib.hid hU0
      clear hT0 hU0
      go_enter Try.func39, Try.ntmps39
      go_upto_region 1 with (fail)
      rw [← hW0]
      clear hW0
      go_wp2_with (first
    | (go_at_call 19; refine (valid_any ms A c _ (H.out.below HW.out).marks H.out.len).mono ?_; rintro e w1 ⟨rfl, hB1⟩; rw [HV.out]; have HG := Lib.hid (HG.out.below hB1); have g0 := HG.out.c0; have g1 := HG.out.c1; have HW : Hid (Below w.heap.size w _) := Lib.hid (below_step HW.out hB1); clear hB1)
    | (go_at_call 65; refine (within_any m ws B e1 _ (by omega) (by omega) (HWS.out.below HW.out) (by unfold maxLen; omega)).mono ?_; rintro e w2 ⟨rfl, nq, rfl⟩; rw [HIN.out]; have HG := Lib.hid (HG.out.below (below_drewN (Below.refl _ _) nq)); have g0 := HG.out.c0; have g1 := HG.out.c1; have HW : Hid (Below w.heap.size w _) := Lib.hid (below_drewN HW.out nq))
    | (go_at_call 76; refine (sums_any ms ws A B c e1 _ (H.out.below HW.out).marks (HWS.out.below HW.out) hlm (by omega) (fun q hq => (pt_parts (HPT.out q hq)).1) HWB.out).mono ?_; rintro e w3 ⟨rfl, rfl⟩; rw [HT.out, HU.out])
    | fail)
      have HWQ := Lib.hid HW.out
      generalize hVG : (w1.drewN nq) = vg at *
      go_loopw [12, 69] (fun s i wr => ∃ (k : Nat) (y : Int), k ≤ ws.length ∧ i = .int .i64 k ∧ s = .int .i64 y ∧ (-10000000 * (k : Int) ≤ y ∧ y ≤ 10000000 * k) ∧ Hid (y = upK ms ws k) ∧ wr = vg) (fun _ i _ => ws.length - (intOf i).toNat)
      case atStart => exact ⟨0, 0, Nat.zero_le _, rfl, rfl, by omega, Lib.hid rfl, rfl⟩
      case round =>
        obtain ⟨k, y, hk, rfl, rfl, hy, hs, rfl⟩ := hrel
        by_cases hlt : k < ws.length
        · obtain ⟨ad, z, rfl, hbk, hz, hc⟩ := (HWS.out.below HWQ.out).get hlt
          obtain ⟨bl, off, rfl, hbl, hcells⟩ := (H.out.below HWQ.out).marks.open_ (show 0 < ms.length by omega)
          obtain ⟨px, py, hxy⟩ := getM_of_lt (show k < ms.length by omega)
          have c0 := (hcells k _ hxy).2
          have hkm : k < ms.length := by omega
          have pb := pt_parts (HPT.out _ (List.mem_of_getElem? hxy))
          have zb := HWB.out _ (List.mem_of_getElem? hz.out)
          have mb := mulBox (X := 10000) (Y := 1000) zb.1 zb.2 pb.2.1 pb.2.2
          obtain ⟨q, hq⟩ : ∃ q, z * py = q := ⟨_, rfl⟩
          have HN := Lib.hid (up_next hz.out hxy)
          dsimp only at mb
          rw [hq] at mb
          have HQ := Lib.hid hq
          have w1' : IntKind.i64.wrap (z * py) = q := by rw [hq]; exact IntWalk.i64_in _ (by omega)
          clear hcells pb hq hxy
          go_wp2
          go_roundw
          case rel => exact ⟨k + 1, y + q, by omega, by go_num, rfl, by omega, Lib.hid (by rw [HN.out, hs.out, HQ.out]), (by first | trivial | rfl)⟩
          case measure => simp [intOf]; omega
        · obtain rfl : k = ws.length := by omega
          have hyb := mulBox (X := 120000000) (Y := 10000) (show -120000000 ≤ y by omega) (show y ≤ 120000000 by omega) (show -10000 ≤ d by omega) h2.2
          obtain ⟨u, hu⟩ : ∃ u, y * d = u := ⟨_, rfl⟩
          rw [hu] at hyb
          have wu : IntKind.i64.wrap (y * d) = u := by rw [hu]; exact IntWalk.i64_in _ (by omega)
          have HF := Lib.hid ((pr_val HT.out HU.out hs.out.symm HXX.out hu HT0.out HU0.out).trans HP.out.1)
          have HF2 := Lib.hid HP.out.2
          clear hu
          go_wp2
          go_ret2
          exact ⟨ret_be ⟨HF.out, HF2.out⟩, HWQ.out⟩
    · have u2 : (U != 0) = true := by simpa using hU0
      have HF := Lib.hid ((pr_tur (n := n) (m := m) (d := d) HU.out hU0).trans HP.out.1)
      have HF2 := Lib.hid HP.out.2
      clear hT0 hU0
      go_enter Try.func39, Try.ntmps39
      go_upto_region 1 with (fail)
      rw [← hW0]
      clear hW0
      go_wp2_with (first
    | (go_at_call 19; refine (valid_any ms A c _ (H.out.below HW.out).marks H.out.len).mono ?_; rintro e w1 ⟨rfl, hB1⟩; rw [HV.out]; have HG := Lib.hid (HG.out.below hB1); have g0 := HG.out.c0; have g1 := HG.out.c1; have HW : Hid (Below w.heap.size w _) := Lib.hid (below_step HW.out hB1); clear hB1)
    | (go_at_call 65; refine (within_any m ws B e1 _ (by omega) (by omega) (HWS.out.below HW.out) (by unfold maxLen; omega)).mono ?_; rintro e w2 ⟨rfl, nq, rfl⟩; rw [HIN.out]; have HG := Lib.hid (HG.out.below (below_drewN (Below.refl _ _) nq)); have g0 := HG.out.c0; have g1 := HG.out.c1; have HW : Hid (Below w.heap.size w _) := Lib.hid (below_drewN HW.out nq))
    | (go_at_call 76; refine (sums_any ms ws A B c e1 _ (H.out.below HW.out).marks (HWS.out.below HW.out) hlm (by omega) (fun q hq => (pt_parts (HPT.out q hq)).1) HWB.out).mono ?_; rintro e w3 ⟨rfl, rfl⟩; rw [HT.out, HU.out])
    | fail)
      go_ret2
      exact ⟨ret_be ⟨HF.out, HF2.out⟩, HW.out⟩
  · have u1 : (T != 0) = true := by simpa using hT0
    have HF := Lib.hid ((pr_sum (ms := ms) (n := n) (m := m) (d := d) HT.out hT0).trans HP.out.1)
    have HF2 := Lib.hid HP.out.2
    clear hT0
    go_enter Try.func39, Try.ntmps39
    go_upto_region 1 with (fail)
    rw [← hW0]
    clear hW0
    go_wp2_with (first
    | (go_at_call 19; refine (valid_any ms A c _ (H.out.below HW.out).marks H.out.len).mono ?_; rintro e w1 ⟨rfl, hB1⟩; rw [HV.out]; have HG := Lib.hid (HG.out.below hB1); have g0 := HG.out.c0; have g1 := HG.out.c1; have HW : Hid (Below w.heap.size w _) := Lib.hid (below_step HW.out hB1); clear hB1)
    | (go_at_call 65; refine (within_any m ws B e1 _ (by omega) (by omega) (HWS.out.below HW.out) (by unfold maxLen; omega)).mono ?_; rintro e w2 ⟨rfl, nq, rfl⟩; rw [HIN.out]; have HG := Lib.hid (HG.out.below (below_drewN (Below.refl _ _) nq)); have g0 := HG.out.c0; have g1 := HG.out.c1; have HW : Hid (Below w.heap.size w _) := Lib.hid (below_drewN HW.out nq))
    | (go_at_call 76; refine (sums_any ms ws A B c e1 _ (H.out.below HW.out).marks (HWS.out.below HW.out) hlm (by omega) (fun q hq => (pt_parts (HPT.out q hq)).1) HWB.out).mono ?_; rintro e w3 ⟨rfl, rfl⟩; rw [HT.out, HU.out])
    | fail)
    go_ret2
    exact ⟨ret_be ⟨HF.out, HF2.out⟩, HW.out⟩

theorem proves_any (ms : List (Int × Int)) (ws : List Int) (A B : Option Addr) (c e1 : Nat) (m n d : Int) (w : World) (h : Clk w A c ms) (hw : Ints w B ws) (hwl : ws.length ≤ 1000) :
    Calls Try.prog 39 #[.slice A ms.length c, .slice B ws.length e1, .int .i64 m, .agg #[.int .i64 n, .int .i64 d]] w fun e w' => e = .returned (.tuple #[.bool (prB ms ws m n d), .int .i64 (prE ms ws m n d)]) ∧ Below w.heap.size w w' := by
  cases hv : viP ms with
  | false => exact proves_inv ms ws A B c e1 m n d w h hw hwl hv
  | true =>
    by_cases c0 : m < 1
    case pos => exact proves_no0 ms ws A B c e1 m n d w h hw hwl hv c0
    by_cases c1 : 10000 < m
    case pos => exact proves_no1 ms ws A B c e1 m n d w h hw hwl hv c0 c1
    by_cases c2 : ws.length = ms.length
    case neg => exact proves_no2 ms ws A B c e1 m n d w h hw hwl hv c0 c1 c2
    cases c3 : ws.all (inB m)
    case false => exact proves_no3 ms ws A B c e1 m n d w h hw hwl hv c0 c1 c2 c3
    by_cases c4 : d < 1
    case pos => exact proves_no4 ms ws A B c e1 m n d w h hw hwl hv c0 c1 c2 c3 c4
    by_cases c5 : 10000 < d
    case pos => exact proves_no5 ms ws A B c e1 m n d w h hw hwl hv c0 c1 c2 c3 c4 c5
    by_cases c6 : n < 0
    case pos => exact proves_no6 ms ws A B c e1 m n d w h hw hwl hv c0 c1 c2 c3 c4 c5 c6
    by_cases c7 : 1000000000 < n
    case pos => exact proves_no7 ms ws A B c e1 m n d w h hw hwl hv c0 c1 c2 c3 c4 c5 c6 c7
    exact proves_yes ms ws A B c e1 m n d w h hw hwl hv ⟨by omega, by omega⟩ c2 ⟨by omega, by omega⟩ ⟨by omega, by omega⟩ c3
end Go.Proofs.Ytoilbgngefleiaa
