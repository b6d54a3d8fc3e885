/-
  The walk of WeighMerges: it returns true, whatever it is given.
-/
import Derived.Test.YtolpbbabmcpdkaaOverB
import Derived.Test.YtolpbbabmcpdkaaMergeM
import Derived.Test.YtolpbbabmcpdkaaMergedX
import Derived.Test.YtolpbbabmcpdkaaSane
import Derived.Deep.CutRange
set_option linter.unusedVariables false
set_option linter.unusedSimpArgs false
namespace Go.Proofs.Ytolpbbabmcpdkaa
open Go.RowKit Go.Shelf

abbrev SaysV (f : FuncId) (args : Array Value) (w : World) (x : Bool) : Prop := ∀ W, Below w.heap.size w W → Calls Try.prog f args W fun e w' => e = .returned (.bool x) ∧ Below W.heap.size W w'

set_option maxRecDepth 100000 in
set_option maxHeartbeats 8000000 in
theorem merges_long (ns ss : List Int) (A B : Option Addr) (c d : Nat) (ka kb p q : Int) (w : World)
    (hL : SaysV 15 #[(.agg #[.slice A ns.length c, .slice B ss.length d])] w true)
     :
    Calls Try.prog 12 #[(.agg #[.slice A ns.length c, .slice B ss.length d]), .int .u8 ka, .int .u8 kb, (.agg #[.int .i64 p, .int .i64 q])] w fun e w' => e = .returned (.bool true) ∧ Below w.heap.size w w' := by
  have HL := Lib.hid hL
  clear hL
  obtain ⟨W0, hW0, HW, HO, HR, z0, z1⟩ := two_new w #[.slice A ns.length c, .slice B ss.length d] #[.int .i64 p, .int .i64 q] 24 28
  have HO : Hid (Ov W0 w.heap.size (.slice A ns.length c) (.slice B ss.length d)) := HO
  have HR : Hid (Rv W0 (w.heap.size + 1) (.int .i64 p) (.int .i64 q)) := HR
  clear z0 z1
  have b0 := HO.out.c0
  have b1 := HO.out.c1
  have r0 := HR.out.c0
  have r1 := HR.out.c1
  go_enter Try.func12, Try.ntmps12
  go_wp2_with (first
    | (go_at_call 15; with_reducible refine (HL.out _ (by repeat (first | with_reducible exact Below.refl _ _ | with_reducible assumption | refine below_drewN ?_ _ | with_reducible refine Below.drew ?_ | (refine Below.setCell ?_ (by first | (simp; done) | (simp; omega) | omega) _) | (refine Below.alloc ?_ (by first | (simp; done) | (simp; omega) | omega) _)))).mono ?_; rintro e v1 ⟨rfl, hB1⟩; rw [← hW0] at hB1; have HO := Lib.hid (Ov.below HO.out hB1); have b0 := HO.out.c0; have b1 := HO.out.c1; have HR := Lib.hid (Rv.below HR.out hB1); have r0 := HR.out.c0; have r1 := HR.out.c1; have HW : Hid (Below w.heap.size w _) := Lib.hid (below_step HW.out hB1); clear hB1)
    | (go_at_call 16; refine (awake_any _).mono ?_; rintro e v13 ⟨rfl, hB13⟩; have HW : Hid (Below w.heap.size w _) := Lib.hid (below_step HW.out hB13); clear hB13)
    | fail)
  go_ret
  exact ⟨rfl, HW.out⟩

set_option maxRecDepth 100000 in
set_option maxHeartbeats 8000000 in
theorem merges_bad (ns ss : List Int) (A B : Option Addr) (c d : Nat) (ka kb p q : Int) (w : World)
    (hL : SaysV 15 #[(.agg #[.slice A ns.length c, .slice B ss.length d])] w false)
    (hV : SaysV 22 #[(.agg #[.slice A ns.length c, .slice B ss.length d])] w false)
     :
    Calls Try.prog 12 #[(.agg #[.slice A ns.length c, .slice B ss.length d]), .int .u8 ka, .int .u8 kb, (.agg #[.int .i64 p, .int .i64 q])] w fun e w' => e = .returned (.bool true) ∧ Below w.heap.size w w' := by
  have HL := Lib.hid hL
  have HV := Lib.hid hV
  clear hL hV
  obtain ⟨W0, hW0, HW, HO, HR, z0, z1⟩ := two_new w #[.slice A ns.length c, .slice B ss.length d] #[.int .i64 p, .int .i64 q] 24 28
  have HO : Hid (Ov W0 w.heap.size (.slice A ns.length c) (.slice B ss.length d)) := HO
  have HR : Hid (Rv W0 (w.heap.size + 1) (.int .i64 p) (.int .i64 q)) := HR
  clear z0 z1
  have b0 := HO.out.c0
  have b1 := HO.out.c1
  have r0 := HR.out.c0
  have r1 := HR.out.c1
  go_enter Try.func12, Try.ntmps12
  go_wp2_with (first
    | (go_at_call 15; with_reducible refine (HL.out _ (by repeat (first | with_reducible exact Below.refl _ _ | with_reducible assumption | refine below_drewN ?_ _ | with_reducible refine Below.drew ?_ | (refine Below.setCell ?_ (by first | (simp; done) | (simp; omega) | omega) _) | (refine Below.alloc ?_ (by first | (simp; done) | (simp; omega) | omega) _)))).mono ?_; rintro e v1 ⟨rfl, hB1⟩; rw [← hW0] at hB1; have HO := Lib.hid (Ov.below HO.out hB1); have b0 := HO.out.c0; have b1 := HO.out.c1; have HR := Lib.hid (Rv.below HR.out hB1); have r0 := HR.out.c0; have r1 := HR.out.c1; have HW : Hid (Below w.heap.size w _) := Lib.hid (below_step HW.out hB1); clear hB1)
    | (go_at_call 22; with_reducible refine (HV.out _ HW.out).mono ?_; rintro e v2 ⟨rfl, hB2⟩; have HO := Lib.hid (Ov.below HO.out hB2); have b0 := HO.out.c0; have b1 := HO.out.c1; have HR := Lib.hid (Rv.below HR.out hB2); have r0 := HR.out.c0; have r1 := HR.out.c1; have HW : Hid (Below w.heap.size w _) := Lib.hid (below_step HW.out hB2); clear hB2)
    | (go_at_call 16; refine (awake_any _).mono ?_; rintro e v13 ⟨rfl, hB13⟩; have HW : Hid (Below w.heap.size w _) := Lib.hid (below_step HW.out hB13); clear hB13)
    | fail)
  go_ret
  exact ⟨rfl, HW.out⟩

set_option maxRecDepth 100000 in
set_option maxHeartbeats 8000000 in
theorem merges_short (ns ss : List Int) (A B : Option Addr) (c d : Nat) (ka kb p q : Int) (w : World)
    (hL : SaysV 15 #[(.agg #[.slice A ns.length c, .slice B ss.length d])] w false)
    (hV : SaysV 22 #[(.agg #[.slice A ns.length c, .slice B ss.length d])] w true)
    (hs : decide ((ns.length : Int) < 2) = true) :
    Calls Try.prog 12 #[(.agg #[.slice A ns.length c, .slice B ss.length d]), .int .u8 ka, .int .u8 kb, (.agg #[.int .i64 p, .int .i64 q])] w fun e w' => e = .returned (.bool true) ∧ Below w.heap.size w w' := by
  have HL := Lib.hid hL
  have HV := Lib.hid hV
  clear hL hV
  obtain ⟨W0, hW0, HW, HO, HR, z0, z1⟩ := two_new w #[.slice A ns.length c, .slice B ss.length d] #[.int .i64 p, .int .i64 q] 24 28
  have HO : Hid (Ov W0 w.heap.size (.slice A ns.length c) (.slice B ss.length d)) := HO
  have HR : Hid (Rv W0 (w.heap.size + 1) (.int .i64 p) (.int .i64 q)) := HR
  clear z0 z1
  have b0 := HO.out.c0
  have b1 := HO.out.c1
  have r0 := HR.out.c0
  have r1 := HR.out.c1
  go_enter Try.func12, Try.ntmps12
  go_wp2_with (first
    | (go_at_call 15; with_reducible refine (HL.out _ (by repeat (first | with_reducible exact Below.refl _ _ | with_reducible assumption | refine below_drewN ?_ _ | with_reducible refine Below.drew ?_ | (refine Below.setCell ?_ (by first | (simp; done) | (simp; omega) | omega) _) | (refine Below.alloc ?_ (by first | (simp; done) | (simp; omega) | omega) _)))).mono ?_; rintro e v1 ⟨rfl, hB1⟩; rw [← hW0] at hB1; have HO := Lib.hid (Ov.below HO.out hB1); have b0 := HO.out.c0; have b1 := HO.out.c1; have HR := Lib.hid (Rv.below HR.out hB1); have r0 := HR.out.c0; have r1 := HR.out.c1; have HW : Hid (Below w.heap.size w _) := Lib.hid (below_step HW.out hB1); clear hB1)
    | (go_at_call 22; with_reducible refine (HV.out _ HW.out).mono ?_; rintro e v2 ⟨rfl, hB2⟩; have HO := Lib.hid (Ov.below HO.out hB2); have b0 := HO.out.c0; have b1 := HO.out.c1; have HR := Lib.hid (Rv.below HR.out hB2); have r0 := HR.out.c0; have r1 := HR.out.c1; have HW : Hid (Below w.heap.size w _) := Lib.hid (below_step HW.out hB2); clear hB2)
    | (go_at_call 16; refine (awake_any _).mono ?_; rintro e v13 ⟨rfl, hB13⟩; have HW : Hid (Below w.heap.size w _) := Lib.hid (below_step HW.out hB13); clear hB13)
    | fail)
  go_ret
  exact ⟨rfl, HW.out⟩

set_option maxRecDepth 100000 in
set_option maxHeartbeats 8000000 in
theorem merges_noise (ns ss : List Int) (A B : Option Addr) (c d : Nat) (ka kb p q : Int) (w : World)
    (hL : SaysV 15 #[(.agg #[.slice A ns.length c, .slice B ss.length d])] w false)
    (hV : SaysV 22 #[(.agg #[.slice A ns.length c, .slice B ss.length d])] w true)
    (hI : SaysV 60 #[(.agg #[.int .i64 p, .int .i64 q])] w false)
    (hs : decide ((ns.length : Int) < 2) = false) :
    Calls Try.prog 12 #[(.agg #[.slice A ns.length c, .slice B ss.length d]), .int .u8 ka, .int .u8 kb, (.agg #[.int .i64 p, .int .i64 q])] w fun e w' => e = .returned (.bool true) ∧ Below w.heap.size w w' := by
  have HL := Lib.hid hL
  have HV := Lib.hid hV
  have HI := Lib.hid hI
  clear hL hV hI
  obtain ⟨W0, hW0, HW, HO, HR, z0, z1⟩ := two_new w #[.slice A ns.length c, .slice B ss.length d] #[.int .i64 p, .int .i64 q] 24 28
  have HO : Hid (Ov W0 w.heap.size (.slice A ns.length c) (.slice B ss.length d)) := HO
  have HR : Hid (Rv W0 (w.heap.size + 1) (.int .i64 p) (.int .i64 q)) := HR
  clear z0 z1
  have b0 := HO.out.c0
  have b1 := HO.out.c1
  have r0 := HR.out.c0
  have r1 := HR.out.c1
  go_enter Try.func12, Try.ntmps12
  go_wp2_with (first
    | (go_at_call 15; with_reducible refine (HL.out _ (by repeat (first | with_reducible exact Below.refl _ _ | with_reducible assumption | refine below_drewN ?_ _ | with_reducible refine Below.drew ?_ | (refine Below.setCell ?_ (by first | (simp; done) | (simp; omega) | omega) _) | (refine Below.alloc ?_ (by first | (simp; done) | (simp; omega) | omega) _)))).mono ?_; rintro e v1 ⟨rfl, hB1⟩; rw [← hW0] at hB1; have HO := Lib.hid (Ov.below HO.out hB1); have b0 := HO.out.c0; have b1 := HO.out.c1; have HR := Lib.hid (Rv.below HR.out hB1); have r0 := HR.out.c0; have r1 := HR.out.c1; have HW : Hid (Below w.heap.size w _) := Lib.hid (below_step HW.out hB1); clear hB1)
    | (go_at_call 22; with_reducible refine (HV.out _ HW.out).mono ?_; rintro e v2 ⟨rfl, hB2⟩; have HO := Lib.hid (Ov.below HO.out hB2); have b0 := HO.out.c0; have b1 := HO.out.c1; have HR := Lib.hid (Rv.below HR.out hB2); have r0 := HR.out.c0; have r1 := HR.out.c1; have HW : Hid (Below w.heap.size w _) := Lib.hid (below_step HW.out hB2); clear hB2)
    | (go_at_call 60; with_reducible refine (HI.out _ HW.out).mono ?_; rintro e v3 ⟨rfl, hB3⟩; have HO := Lib.hid (Ov.below HO.out hB3); have b0 := HO.out.c0; have b1 := HO.out.c1; have HR := Lib.hid (Rv.below HR.out hB3); have r0 := HR.out.c0; have r1 := HR.out.c1; have HW : Hid (Below w.heap.size w _) := Lib.hid (below_step HW.out hB3); clear hB3)
    | (go_at_call 16; refine (awake_any _).mono ?_; rintro e v13 ⟨rfl, hB13⟩; have HW : Hid (Below w.heap.size w _) := Lib.hid (below_step HW.out hB13); clear hB13)
    | fail)
  go_ret
  exact ⟨rfl, HW.out⟩

set_option maxRecDepth 100000 in
set_option maxHeartbeats 8000000 in
theorem merges_over (ns ss ms ts : List Int) (A B : Option Addr) (c d a b : Nat) (ka kb p q : Int) (w : World)
    (hL : SaysV 15 #[(.agg #[.slice A ns.length c, .slice B ss.length d])] w false)
    (hV : SaysV 22 #[(.agg #[.slice A ns.length c, .slice B ss.length d])] w true)
    (hI : SaysV 60 #[(.agg #[.int .i64 p, .int .i64 q])] w true)
    (hM : ∀ W, Below w.heap.size w W → Calls Try.prog 46 #[(.agg #[.slice A ns.length c, .slice B ss.length d]), .int .i64 a, .int .i64 b] W fun e w' => ∃ N' n' S' s', e = .returned (.tuple #[.agg #[.slice N' ms.length n', .slice S' ts.length s'], .int .i64 0]) ∧ Out w' N' n' ms ∧ Out w' S' s' ts ∧ Below W.heap.size W w')
    (hVm : ∀ W N' n' S' s', Out W N' n' ms → Out W S' s' ts → Calls Try.prog 22 #[.agg #[.slice N' ms.length n', .slice S' ts.length s']] W fun e w' => e = .returned (.bool false) ∧ Below W.heap.size W w')
    (hO : ∀ W N' n' S' s', Out W N' n' ms → Out W S' s' ts → Calls Try.prog 61 #[.agg #[.slice N' ms.length n', .slice S' ts.length s']] W fun e w' => e = .returned (.bool true) ∧ Below W.heap.size W w')
    (hs : decide ((ns.length : Int) < 2) = false) (hn2 : 2 ≤ ns.length) (hn10 : ns.length ≤ 10) (ha0 : 0 ≤ ka ∧ ka ≤ 255) (hb0 : 0 ≤ kb ∧ kb ≤ 255) (ha1 : ka % ((ns.length : Int) - 1) = (a : Int)) (hb1 : (a : Int) + 1 + kb % ((ns.length : Int) - 1 - a) = (b : Int)) (hal : a + 1 < ns.length) (hbl : b < ns.length) (hml : ms.length = ns.length - 1) :
    Calls Try.prog 12 #[(.agg #[.slice A ns.length c, .slice B ss.length d]), .int .u8 ka, .int .u8 kb, (.agg #[.int .i64 p, .int .i64 q])] w fun e w' => e = .returned (.bool true) ∧ Below w.heap.size w w' := by
  have HL := Lib.hid hL
  have HV := Lib.hid hV
  have HI := Lib.hid hI
  have HM := Lib.hid hM
  have HVm := Lib.hid hVm
  have HOv := Lib.hid hO
  have e1 : IntKind.i64.wrap ((ns.length : Int) - 1) = (ns.length : Int) - 1 := IntWalk.i64_in _ (by omega)
  have e2 : decide ((ns.length : Int) - 1 = 0) = false := decide_eq_false (by omega)
  have e3 : IntKind.i64.wrap ((a : Int) + 1) = (a : Int) + 1 := IntWalk.i64_in _ (by omega)
  have e4 : IntKind.i64.wrap ((ns.length : Int) - 1 - a) = (ns.length : Int) - 1 - a := IntWalk.i64_in _ (by omega)
  have e5 : decide ((ns.length : Int) - 1 - a = 0) = false := decide_eq_false (by omega)
  have e6 : IntKind.i64.wrap ((a : Int) + 1 + kb % ((ns.length : Int) - 1 - a)) = (b : Int) := by rw [IntWalk.i64_in _ (by omega)]; exact hb1
  have hml2 : (ms.length : Int) = (ns.length : Int) - 1 := by omega
  have g1 : 0 ≤ (ns.length : Int) - 1 := by omega
  have g2 : 0 ≤ (ns.length : Int) - 1 - a := by omega
  have HML := Lib.hid hml2
  clear hml hml2
  clear hL hV hI hM hVm hO
  obtain ⟨W0, hW0, HW, HO, HR, z0, z1⟩ := two_new w #[.slice A ns.length c, .slice B ss.length d] #[.int .i64 p, .int .i64 q] 24 28
  have HO : Hid (Ov W0 w.heap.size (.slice A ns.length c) (.slice B ss.length d)) := HO
  have HR : Hid (Rv W0 (w.heap.size + 1) (.int .i64 p) (.int .i64 q)) := HR
  clear z0 z1
  have b0 := HO.out.c0
  have b1 := HO.out.c1
  have r0 := HR.out.c0
  have r1 := HR.out.c1
  go_enter Try.func12, Try.ntmps12
  go_upto_region 5 with (first
    | (go_at_call 15; with_reducible refine (HL.out _ (by repeat (first | with_reducible exact Below.refl _ _ | with_reducible assumption | refine below_drewN ?_ _ | with_reducible refine Below.drew ?_ | (refine Below.setCell ?_ (by first | (simp; done) | (simp; omega) | omega) _) | (refine Below.alloc ?_ (by first | (simp; done) | (simp; omega) | omega) _)))).mono ?_; rintro e v1 ⟨rfl, hB1⟩; rw [← hW0] at hB1; have HO := Lib.hid (Ov.below HO.out hB1); have b0 := HO.out.c0; have b1 := HO.out.c1; have HR := Lib.hid (Rv.below HR.out hB1); have r0 := HR.out.c0; have r1 := HR.out.c1; have HW : Hid (Below w.heap.size w _) := Lib.hid (below_step HW.out hB1); clear hB1)
    | (go_at_call 22; with_reducible refine (HV.out _ HW.out).mono ?_; rintro e v2 ⟨rfl, hB2⟩; have HO := Lib.hid (Ov.below HO.out hB2); have b0 := HO.out.c0; have b1 := HO.out.c1; have HR := Lib.hid (Rv.below HR.out hB2); have r0 := HR.out.c0; have r1 := HR.out.c1; have HW : Hid (Below w.heap.size w _) := Lib.hid (below_step HW.out hB2); clear hB2)
    | (go_at_call 60; with_reducible refine (HI.out _ HW.out).mono ?_; rintro e v3 ⟨rfl, hB3⟩; have HO := Lib.hid (Ov.below HO.out hB3); have b0 := HO.out.c0; have b1 := HO.out.c1; have HR := Lib.hid (Rv.below HR.out hB3); have r0 := HR.out.c0; have r1 := HR.out.c1; have HW : Hid (Below w.heap.size w _) := Lib.hid (below_step HW.out hB3); clear hB3)
    | fail)
  go_upto_region 6 with (go_at_call 46; with_reducible refine (HM.out _ HW.out).mono ?_; rintro e v5 ⟨N5, n5, S5, s5, rfl, ho1, ho2, hB5⟩; have HO := Lib.hid (Ov.below HO.out hB5); have b0 := HO.out.c0; have b1 := HO.out.c1; have HR := Lib.hid (Rv.below HR.out hB5); have r0 := HR.out.c0; have r1 := HR.out.c1; have HW : Hid (Below w.heap.size w _) := Lib.hid (below_step HW.out hB5); have HO1 := Lib.hid ho1; have HO2 := Lib.hid ho2; clear ho1 ho2; clear hB5)
  have HLT := HR.out.lt
  obtain ⟨X5, hX5, HW, HX, HO, HR, HO1, HO2⟩ : ∃ X, (v5.alloc (.cells #[.slice N5 ms.length n5, .slice S5 ts.length s5] 24)) = X ∧ Hid (Below w.heap.size w X) ∧ Hid (Ov X v5.heap.size (.slice N5 ms.length n5) (.slice S5 ts.length s5)) ∧ Hid (Ov X w.heap.size (.slice A ns.length c) (.slice B ss.length d)) ∧ Hid (Rv X (w.heap.size + 1) (.int .i64 p) (.int .i64 q)) ∧ Hid (Out X N5 n5 ms) ∧ Hid (Out X S5 s5 ts) :=
    ⟨_, rfl, Lib.hid (Below.alloc HW.out HW.out.size _), Lib.hid (Ov.new _ _ _), Lib.hid (HO.out.alloc _), Lib.hid (HR.out.alloc _), Lib.hid (HO1.out.below (Below.alloc (Below.refl _ _) (Nat.le_refl _) _)), Lib.hid (HO2.out.below (Below.alloc (Below.refl _ _) (Nat.le_refl _) _))⟩
  rw [hX5]
  clear hX5 HLT
  obtain ⟨gx, hgx⟩ : ∃ g, v5.heap.size = g := ⟨_, rfl⟩
  try rw [hgx] at HX ⊢
  clear hgx
  have b0 := HO.out.c0
  have b1 := HO.out.c1
  have r0 := HR.out.c0
  have r1 := HR.out.c1
  have x0 := HX.out.c0
  have x1 := HX.out.c1
  have hml := HML.out
  go_wp2_with (first
    | (go_at_call 22; with_reducible refine (HVm.out _ N5 n5 S5 s5 HO1.out HO2.out).mono ?_; rintro e v6 ⟨rfl, hB6⟩; have HO := Lib.hid (Ov.below HO.out hB6); have b0 := HO.out.c0; have b1 := HO.out.c1; have HR := Lib.hid (Rv.below HR.out hB6); have r0 := HR.out.c0; have r1 := HR.out.c1; have HO1 := Lib.hid (Out.below HO1.out hB6); have HO2 := Lib.hid (Out.below HO2.out hB6); have HX := Lib.hid (Ov.below HX.out hB6); have x0 := HX.out.c0; have x1 := HX.out.c1; have HW : Hid (Below w.heap.size w _) := Lib.hid (below_step HW.out hB6); clear hB6)
    | (go_at_call 61; with_reducible refine (HOv.out _ N5 n5 S5 s5 HO1.out HO2.out).mono ?_; rintro e v7 ⟨rfl, hB7⟩; have HO := Lib.hid (Ov.below HO.out hB7); have b0 := HO.out.c0; have b1 := HO.out.c1; have HR := Lib.hid (Rv.below HR.out hB7); have r0 := HR.out.c0; have r1 := HR.out.c1; have HO1 := Lib.hid (Out.below HO1.out hB7); have HO2 := Lib.hid (Out.below HO2.out hB7); have HX := Lib.hid (Ov.below HX.out hB7); have x0 := HX.out.c0; have x1 := HX.out.c1; have HW : Hid (Below w.heap.size w _) := Lib.hid (below_step HW.out hB7); clear hB7)
    | (go_at_call 16; refine (awake_any _).mono ?_; rintro e v13 ⟨rfl, hB13⟩; have HW : Hid (Below w.heap.size w _) := Lib.hid (below_step HW.out hB13); clear hB13)
    | fail)
  go_ret
  exact ⟨rfl, HW.out⟩

set_option maxRecDepth 100000 in
set_option maxHeartbeats 8000000 in
theorem merges_ok (ns ss ms ts : List Int) (A B : Option Addr) (c d a b : Nat) (ka kb p q : Int) (w : World)
    (hL : SaysV 15 #[(.agg #[.slice A ns.length c, .slice B ss.length d])] w false)
    (hV : SaysV 22 #[(.agg #[.slice A ns.length c, .slice B ss.length d])] w true)
    (hI : SaysV 60 #[(.agg #[.int .i64 p, .int .i64 q])] w true)
    (hM : ∀ W, Below w.heap.size w W → Calls Try.prog 46 #[(.agg #[.slice A ns.length c, .slice B ss.length d]), .int .i64 a, .int .i64 b] W fun e w' => ∃ N' n' S' s', e = .returned (.tuple #[.agg #[.slice N' ms.length n', .slice S' ts.length s'], .int .i64 0]) ∧ Out w' N' n' ms ∧ Out w' S' s' ts ∧ Below W.heap.size W w')
    (hVm : ∀ W N' n' S' s', Out W N' n' ms → Out W S' s' ts → Calls Try.prog 22 #[.agg #[.slice N' ms.length n', .slice S' ts.length s']] W fun e w' => e = .returned (.bool true) ∧ Below W.heap.size W w')
    (hNM : ∀ W N' n' S' s', Below w.heap.size w W → Out W N' n' ms → Out W S' s' ts → Calls Try.prog 62 #[.agg #[.slice N' ms.length n', .slice S' ts.length s'], (.agg #[.slice A ns.length c, .slice B ss.length d])] W fun e w' => e = .returned (.bool true) ∧ Below W.heap.size W w')
    (hNB : ∀ W N' n' S' s', Below w.heap.size w W → Out W N' n' ms → Out W S' s' ts → Calls Try.prog 63 #[.agg #[.slice N' ms.length n', .slice S' ts.length s'], (.agg #[.slice A ns.length c, .slice B ss.length d]), (.agg #[.int .i64 p, .int .i64 q])] W fun e w' => e = .returned (.bool true) ∧ Below W.heap.size W w')
    (hs : decide ((ns.length : Int) < 2) = false) (hn2 : 2 ≤ ns.length) (hn10 : ns.length ≤ 10) (ha0 : 0 ≤ ka ∧ ka ≤ 255) (hb0 : 0 ≤ kb ∧ kb ≤ 255) (ha1 : ka % ((ns.length : Int) - 1) = (a : Int)) (hb1 : (a : Int) + 1 + kb % ((ns.length : Int) - 1 - a) = (b : Int)) (hal : a + 1 < ns.length) (hbl : b < ns.length) (hml : ms.length = ns.length - 1) :
    Calls Try.prog 12 #[(.agg #[.slice A ns.length c, .slice B ss.length d]), .int .u8 ka, .int .u8 kb, (.agg #[.int .i64 p, .int .i64 q])] w fun e w' => e = .returned (.bool true) ∧ Below w.heap.size w w' := by
  have HL := Lib.hid hL
  have HV := Lib.hid hV
  have HI := Lib.hid hI
  have HM := Lib.hid hM
  have HVm := Lib.hid hVm
  have HNM := Lib.hid hNM
  have HNB := Lib.hid hNB
  have e1 : IntKind.i64.wrap ((ns.length : Int) - 1) = (ns.length : Int) - 1 := IntWalk.i64_in _ (by omega)
  have e2 : decide ((ns.length : Int) - 1 = 0) = false := decide_eq_false (by omega)
  have e3 : IntKind.i64.wrap ((a : Int) + 1) = (a : Int) + 1 := IntWalk.i64_in _ (by omega)
  have e4 : IntKind.i64.wrap ((ns.length : Int) - 1 - a) = (ns.length : Int) - 1 - a := IntWalk.i64_in _ (by omega)
  have e5 : decide ((ns.length : Int) - 1 - a = 0) = false := decide_eq_false (by omega)
  have e6 : IntKind.i64.wrap ((a : Int) + 1 + kb % ((ns.length : Int) - 1 - a)) = (b : Int) := by rw [IntWalk.i64_in _ (by omega)]; exact hb1
  have hml2 : (ms.length : Int) = (ns.length : Int) - 1 := by omega
  have g1 : 0 ≤ (ns.length : Int) - 1 := by omega
  have g2 : 0 ≤ (ns.length : Int) - 1 - a := by omega
  have HML := Lib.hid hml2
  clear hml hml2
  clear hL hV hI hM hVm hNM hNB
  obtain ⟨W0, hW0, HW, HO, HR, z0, z1⟩ := two_new w #[.slice A ns.length c, .slice B ss.length d] #[.int .i64 p, .int .i64 q] 24 28
  have HO : Hid (Ov W0 w.heap.size (.slice A ns.length c) (.slice B ss.length d)) := HO
  have HR : Hid (Rv W0 (w.heap.size + 1) (.int .i64 p) (.int .i64 q)) := HR
  clear z0 z1
  have b0 := HO.out.c0
  have b1 := HO.out.c1
  have r0 := HR.out.c0
  have r1 := HR.out.c1
  go_enter Try.func12, Try.ntmps12
  go_upto_region 5 with (first
    | (go_at_call 15; with_reducible refine (HL.out _ (by repeat (first | with_reducible exact Below.refl _ _ | with_reducible assumption | refine below_drewN ?_ _ | with_reducible refine Below.drew ?_ | (refine Below.setCell ?_ (by first | (simp; done) | (simp; omega) | omega) _) | (refine Below.alloc ?_ (by first | (simp; done) | (simp; omega) | omega) _)))).mono ?_; rintro e v1 ⟨rfl, hB1⟩; rw [← hW0] at hB1; have HO := Lib.hid (Ov.below HO.out hB1); have b0 := HO.out.c0; have b1 := HO.out.c1; have HR := Lib.hid (Rv.below HR.out hB1); have r0 := HR.out.c0; have r1 := HR.out.c1; have HW : Hid (Below w.heap.size w _) := Lib.hid (below_step HW.out hB1); clear hB1)
    | (go_at_call 22; with_reducible refine (HV.out _ HW.out).mono ?_; rintro e v2 ⟨rfl, hB2⟩; have HO := Lib.hid (Ov.below HO.out hB2); have b0 := HO.out.c0; have b1 := HO.out.c1; have HR := Lib.hid (Rv.below HR.out hB2); have r0 := HR.out.c0; have r1 := HR.out.c1; have HW : Hid (Below w.heap.size w _) := Lib.hid (below_step HW.out hB2); clear hB2)
    | (go_at_call 60; with_reducible refine (HI.out _ HW.out).mono ?_; rintro e v3 ⟨rfl, hB3⟩; have HO := Lib.hid (Ov.below HO.out hB3); have b0 := HO.out.c0; have b1 := HO.out.c1; have HR := Lib.hid (Rv.below HR.out hB3); have r0 := HR.out.c0; have r1 := HR.out.c1; have HW : Hid (Below w.heap.size w _) := Lib.hid (below_step HW.out hB3); clear hB3)
    | fail)
  go_upto_region 6 with (go_at_call 46; with_reducible refine (HM.out _ HW.out).mono ?_; rintro e v5 ⟨N5, n5, S5, s5, rfl, ho1, ho2, hB5⟩; have HO := Lib.hid (Ov.below HO.out hB5); have b0 := HO.out.c0; have b1 := HO.out.c1; have HR := Lib.hid (Rv.below HR.out hB5); have r0 := HR.out.c0; have r1 := HR.out.c1; have HW : Hid (Below w.heap.size w _) := Lib.hid (below_step HW.out hB5); have HO1 := Lib.hid ho1; have HO2 := Lib.hid ho2; clear ho1 ho2; clear hB5)
  have HLT := HR.out.lt
  obtain ⟨X5, hX5, HW, HX, HO, HR, HO1, HO2⟩ : ∃ X, (v5.alloc (.cells #[.slice N5 ms.length n5, .slice S5 ts.length s5] 24)) = X ∧ Hid (Below w.heap.size w X) ∧ Hid (Ov X v5.heap.size (.slice N5 ms.length n5) (.slice S5 ts.length s5)) ∧ Hid (Ov X w.heap.size (.slice A ns.length c) (.slice B ss.length d)) ∧ Hid (Rv X (w.heap.size + 1) (.int .i64 p) (.int .i64 q)) ∧ Hid (Out X N5 n5 ms) ∧ Hid (Out X S5 s5 ts) :=
    ⟨_, rfl, Lib.hid (Below.alloc HW.out HW.out.size _), Lib.hid (Ov.new _ _ _), Lib.hid (HO.out.alloc _), Lib.hid (HR.out.alloc _), Lib.hid (HO1.out.below (Below.alloc (Below.refl _ _) (Nat.le_refl _) _)), Lib.hid (HO2.out.below (Below.alloc (Below.refl _ _) (Nat.le_refl _) _))⟩
  rw [hX5]
  clear hX5 HLT
  obtain ⟨gx, hgx⟩ : ∃ g, v5.heap.size = g := ⟨_, rfl⟩
  try rw [hgx] at HX ⊢
  clear hgx
  have b0 := HO.out.c0
  have b1 := HO.out.c1
  have r0 := HR.out.c0
  have r1 := HR.out.c1
  have x0 := HX.out.c0
  have x1 := HX.out.c1
  have hml := HML.out
  go_upto_region 8 with (go_at_call 22; with_reducible refine (HVm.out _ N5 n5 S5 s5 HO1.out HO2.out).mono ?_; rintro e v6 ⟨rfl, hB6⟩; have HO := Lib.hid (Ov.below HO.out hB6); have b0 := HO.out.c0; have b1 := HO.out.c1; have HR := Lib.hid (Rv.below HR.out hB6); have r0 := HR.out.c0; have r1 := HR.out.c1; have HO1 := Lib.hid (Out.below HO1.out hB6); have HO2 := Lib.hid (Out.below HO2.out hB6); have HX := Lib.hid (Ov.below HX.out hB6); have x0 := HX.out.c0; have x1 := HX.out.c1; have HW : Hid (Below w.heap.size w _) := Lib.hid (below_step HW.out hB6); clear hB6)
  go_wp2_with (first
    | (go_at_call 62; with_reducible refine (HNM.out _ N5 n5 S5 s5 HW.out HO1.out HO2.out).mono ?_; rintro e v7 ⟨rfl, hB7⟩; have HO := Lib.hid (Ov.below HO.out hB7); have b0 := HO.out.c0; have b1 := HO.out.c1; have HR := Lib.hid (Rv.below HR.out hB7); have r0 := HR.out.c0; have r1 := HR.out.c1; have HO1 := Lib.hid (Out.below HO1.out hB7); have HO2 := Lib.hid (Out.below HO2.out hB7); have HX := Lib.hid (Ov.below HX.out hB7); have x0 := HX.out.c0; have x1 := HX.out.c1; have HW : Hid (Below w.heap.size w _) := Lib.hid (below_step HW.out hB7); clear hB7)
    | (go_at_call 63; with_reducible refine (HNB.out _ N5 n5 S5 s5 HW.out HO1.out HO2.out).mono ?_; rintro e v8 ⟨rfl, hB8⟩; have HO := Lib.hid (Ov.below HO.out hB8); have b0 := HO.out.c0; have b1 := HO.out.c1; have HR := Lib.hid (Rv.below HR.out hB8); have r0 := HR.out.c0; have r1 := HR.out.c1; have HO1 := Lib.hid (Out.below HO1.out hB8); have HO2 := Lib.hid (Out.below HO2.out hB8); have HX := Lib.hid (Ov.below HX.out hB8); have x0 := HX.out.c0; have x1 := HX.out.c1; have HW : Hid (Below w.heap.size w _) := Lib.hid (below_step HW.out hB8); clear hB8)
    | (go_at_call 16; refine (awake_any _).mono ?_; rintro e v13 ⟨rfl, hB13⟩; have HW : Hid (Below w.heap.size w _) := Lib.hid (below_step HW.out hB13); clear hB13)
    | fail)
  go_ret
  exact ⟨rfl, HW.out⟩

theorem weighMerges_walk (A : Option Addr) (c : Nat) (ns : List Int) (B : Option Addr) (d : Nat) (ss : List Int) (ka kb p q : Int) (w : World)
    (hA : Ints w A ns) (_ : ns.length ≤ c) (_ : c ≤ maxLen) (hB : Ints w B ss) (_ : ss.length ≤ d) (_ : d ≤ maxLen) (ha : (Lit.int .u8 ka).wf = true) (hb : (Lit.int .u8 kb).wf = true) (_ : (Lit.int .i64 p).wf = true) (_ : (Lit.int .i64 q).wf = true) :
    Calls Try.prog 12 #[(.agg #[.slice A ns.length c, .slice B ss.length d]), .int .u8 ka, .int .u8 kb, (.agg #[.int .i64 p, .int .i64 q])] w fun e w' => e = .returned (.bool true) ∧ Below w.heap.size w w' := by
  have ha2 : 0 ≤ ka ∧ ka ≤ 255 := by
    have h2 : (decide (0 ≤ ka) && decide (ka ≤ 255)) = true := ha
    simpa using h2
  have hb2 : 0 ≤ kb ∧ kb ≤ 255 := by
    have h2 : (decide (0 ≤ kb) && decide (kb ≤ 255)) = true := hb
    simpa using h2
  have L1 : SaysV 15 #[(.agg #[.slice A ns.length c, .slice B ss.length d])] w (decide (60 < ns.length) || decide (60 < ss.length)) := fun W _ => long_any ns ss A B c d W
  cases hl : (decide (60 < ns.length) || decide (60 < ss.length)) with
  | true => rw [hl] at L1; exact merges_long ns ss A B c d ka kb p q w L1
  | false =>
    rw [hl] at L1
    simp only [Bool.or_eq_false_iff, decide_eq_false_iff_not] at hl
    have h1 : ns.length ≤ 1000 := by omega
    have h2 : ss.length ≤ 1000 := by omega
    have V1 : SaysV 22 #[(.agg #[.slice A ns.length c, .slice B ss.length d])] w (odB ns ss) := fun W hW => refValid_any ns ss A B c d W (hA.below hW) (hB.below hW) h1 h2
    cases hv : odB ns ss with
    | false => rw [hv] at V1; exact merges_bad ns ss A B c d ka kb p q w L1 V1
    | true =>
      rw [hv] at V1
      have ho := od_of hv
      have hle := ho.le
      have hl2 := ho.len
      cases hs : decide ((ns.length : Int) < 2) with
      | true => exact merges_short ns ss A B c d ka kb p q w L1 V1 hs
      | false =>
        have hn2 : 2 ≤ ns.length := by have := of_decide_eq_false hs; omega
        have I1 : SaysV 60 #[(.agg #[.int .i64 p, .int .i64 q])] w (okN p q) := fun W _ => isNoise_any p q W
        cases hok : okN p q with
        | false => rw [hok] at I1; exact merges_noise ns ss A B c d ka kb p q w L1 V1 I1 hs
        | true =>
          rw [hok] at I1
          have hm0 := Int.emod_nonneg ka (show (ns.length : Int) - 1 ≠ 0 by omega)
          have hm1 := Int.emod_lt_of_pos ka (show 0 < (ns.length : Int) - 1 by omega)
          obtain ⟨a, ha1⟩ : ∃ a : Nat, ka % ((ns.length : Int) - 1) = a := ⟨(ka % ((ns.length : Int) - 1)).toNat, by omega⟩
          have hal : a + 1 < ns.length := by omega
          have hm2 := Int.emod_nonneg kb (show (ns.length : Int) - 1 - a ≠ 0 by omega)
          have hm3 := Int.emod_lt_of_pos kb (show 0 < (ns.length : Int) - 1 - a by omega)
          obtain ⟨b, hb1⟩ : ∃ b : Nat, (a : Int) + 1 + kb % ((ns.length : Int) - 1 - a) = b := ⟨((a : Int) + 1 + kb % ((ns.length : Int) - 1 - a)).toNat, by omega⟩
          have hbl : b < ns.length := by omega
          have hab : a < b := by omega
          have hbl2 : b < ss.length := by omega
          have M1 := fun W (hW : Below w.heap.size w W) => wMerged_yes ns ss A B c d a b W (hA.below hW) (hB.below hW) hv hab hbl
          have hml := mg_len (xs := ns) (a := a) hbl
          have hml2 := mg_len (xs := ss) (a := a) hbl2
          have Vm := fun W N' n' S' s' (x : Out W N' n' (mgL ns a b)) (y : Out W S' s' (mgL ss a b)) => refValid_any (mgL ns a b) (mgL ss a b) N' S' n' s' W x.ints y.ints (by omega) (by omega)
          cases hm : odB (mgL ns a b) (mgL ss a b) with
          | false =>
            rw [hm] at Vm
            have O1 := fun W N' n' S' s' (x : Out W N' n' (mgL ns a b)) (y : Out W S' s' (mgL ss a b)) => over_true (mgL ns a b) (mgL ss a b) N' S' n' s' W x.ints y.ints (by omega) (by omega) (mg_over ho hab hbl hm)
            exact merges_over ns ss _ _ A B c d a b ka kb p q w L1 V1 I1 M1 Vm O1 hs hn2 hle ha2 hb2 ha1 hb1 hal hbl hml
          | true =>
            rw [hm] at Vm
            have hmo := od_of hm
            obtain ⟨x1, x2⟩ := mg_more ho hab hbl
            have NM := fun W N' n' S' s' (hW : Below w.heap.size w W) (x : Out W N' n' (mgL ns a b)) (y : Out W S' s' (mgL ss a b)) => notMore_true (mgL ns a b) (mgL ss a b) ns ss N' S' A B n' s' c d W x.ints y.ints (hA.below hW) (hB.below hW) hm hv x1 x2
            have hbm : cutB (mgL ns a b).length (bsL (mgL ns a b) (mgL ss a b) p q) = true := bs_cut _ _ p q _
            have hbo : cutB ns.length (bsL ns ss p q) = true := bs_cut _ _ p q _
            have k1 := hmo.kb hbm
            have k2 := ho.kb hbo
            have sm1 := sm_low k1.2.1 k1.2.2 hmo.sp (by have := hmo.sm; omega)
            have sm2 := sm_low k2.2.1 k2.2.2 ho.sp (by have := ho.sm; omega)
            have hq := hok
            rw [okN_eq] at hq
            simp only [Bool.and_eq_true, decide_eq_true_eq] at hq
            have hle2 : keptL (mgL ss a b) (bsL (mgL ns a b) (mgL ss a b) p q) ≤ keptL ss (bsL ns ss p q) := by
              have hb := bs_ok (ns := mgL ns a b) (ss := mgL ss a b) (p := p) (q := q) (Int.mul_nonneg hq.1.2 (by have := hmo.np; omega)) (2 ^ (mgL ns a b).length)
              obtain ⟨os, ho1, ho2, ho3⟩ := mg_cut hl2 hab hbl hbm
              rw [← ho3]
              refine bs_max ho1 ?_
              rw [ho2, ← mg_sum hab hbl]
              exact hb
            have hless : decide (lowN (keptL ss (bsL ns ss p q)) ss.sum * lowD (keptL (mgL ss a b) (bsL (mgL ns a b) (mgL ss a b) p q)) (mgL ss a b).sum < lowN (keptL (mgL ss a b) (bsL (mgL ns a b) (mgL ss a b) p q)) (mgL ss a b).sum * lowD (keptL ss (bsL ns ss p q)) ss.sum) = false := by
              refine decide_eq_false fun hl => ?_
              have h2 := (low_cross ho.sp hmo.sp).1 hl
              rw [mg_sum hab hbl2] at h2
              have := Int.mul_le_mul_of_nonneg_right hle2 (Int.le_of_lt ho.sp)
              omega
            have NB := fun W N' n' S' s' (hW : Below w.heap.size w W) (x : Out W N' n' (mgL ns a b)) (y : Out W S' s' (mgL ss a b)) => notBetter_true (mgL ns a b) (mgL ss a b) ns ss _ _ N' S' A B n' s' c d p q _ _ _ _ _ _ _ _ W
              (fun V hV => wBest_yes (mgL ns a b) (mgL ss a b) N' S' n' s' p q V (x.ints.below hV) (y.ints.below hV) hm hok)
              (fun V hV => wBest_yes ns ss A B c d p q V ((hA.below hW).below hV) ((hB.below hW).below hV) hv hok)
              (fun V A' c' hV hO => keptLaw_any (mgL ns a b) (mgL ss a b) _ N' S' A' n' s' c' V (x.ints.below hV) (y.ints.below hV) hO.ints (by have := cutB_len hbm; have := hmo.le; omega) hm hbm)
              (fun V A' c' hV hO => keptLaw_any ns ss _ A B A' c d c' V ((hA.below hW).below hV) ((hB.below hW).below hV) hO.ints (by have := cutB_len hbo; omega) hv hbo)
              sm1 sm2 hless
            exact merges_ok ns ss _ _ A B c d a b ka kb p q w L1 V1 I1 M1 Vm NM NB hs hn2 hle ha2 hb2 ha1 hb1 hal hbl hml
end Go.Proofs.Ytolpbbabmcpdkaa
