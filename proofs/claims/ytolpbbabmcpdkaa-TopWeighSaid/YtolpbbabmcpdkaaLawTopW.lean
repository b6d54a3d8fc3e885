/-
  The walk of TopWeigh: it returns true, whatever it is given.
-/
import Derived.Test.YtolpbbabmcpdkaaToldW
import Derived.Test.YtolpbbabmcpdkaaCvM
import Derived.Test.YtolpbbabmcpdkaaMergeM
import Derived.Test.YtolpbbabmcpdkaaMergedX
import Derived.Test.YtolpbbabmcpdkaaSane
import Derived.Deep.CutRange
set_option linter.unusedVariables false
set_option linter.unusedSimpArgs false
namespace Go.Proofs.Ytolpbbabmcpdkaa
open Go.RowKit Go.Shelf

theorem ow_drew {W : World} {g : Nat} {u v : Value} (h : Ow W g u v) : Ow W.drew g u v := h
theorem rw_drew {W : World} {g : Nat} {u v : Value} (h : Rw W g u v) : Rw W.drew g u v := h
theorem ow_ints {W : World} {g : Nat} {A1 A2 : Option Addr} {l1 c1 l2 c2 : Nat} {a b : Value} (h : Ow W g (.slice A1 l1 c1) (.slice A2 l2 c2)) {A : Option Addr} {zs : List Int} (hz : Ints W A zs) : Ints ((W.setCell ⟨g, 0, none⟩ a).setCell ⟨g, 1, none⟩ b) A zs := by
  refine ⟨hz.1, fun hn => ?_⟩
  obtain ⟨b0, o, hA, hb, hc⟩ := hz.open_ hn
  obtain ⟨ad, e, hb2, hall⟩ := hz.2 hn
  rw [hA] at e
  obtain rfl := Option.some.inj e
  have hne : b0 ≠ g := by
    rintro rfl
    have h0 := hc 0 _ (List.getElem?_eq_getElem hn)
    rw [cell_of_row W b0 (o + 0) _ _ (0, 0) h] at h0
    rcases o with _ | _ | o
    · simp at h0
    · simp at h0
    · simp at h0
  refine ⟨_, hA, by simpa using hb2, fun j u hu => ?_⟩
  refine (cell_set1 _ ?_).trans ((cell_set1 _ ?_).trans (hall j u hu)) <;> rw [block_of_add] <;> exact hne
theorem ow_out {W : World} {g : Nat} {A1 A2 : Option Addr} {l1 c1 l2 c2 : Nat} {a b : Value} (h : Ow W g (.slice A1 l1 c1) (.slice A2 l2 c2)) {A : Option Addr} {c : Nat} {zs : List Int} (hz : Out W A c zs) : Out ((W.setCell ⟨g, 0, none⟩ a).setCell ⟨g, 1, none⟩ b) A c zs := ⟨ow_ints h hz.ints, hz.le, hz.cap⟩
abbrev SaysT (f : FuncId) (args : Array Value) (w : World) (x : Bool) : Prop := ∀ W, Below w.heap.size w W → Calls Try.prog f args W fun e w' => e = .returned (.bool x) ∧ Below W.heap.size W w'

set_option maxRecDepth 100000 in
set_option maxHeartbeats 8000000 in
theorem topw_long (ns ss cs : List Int) (A B C : Option Addr) (c d e1 : Nat) (ka kb : Int) (w : World)
    (hL : SaysT 15 #[(.agg #[.slice A ns.length c, .slice B ss.length d])] w true)
     :
    Calls Try.prog 14 #[(.agg #[.slice A ns.length c, .slice B ss.length d]), .slice C cs.length e1, .int .u8 ka, .int .u8 kb] w fun e w' => e = .returned (.bool true) ∧ Below w.heap.size w w' := by
  have HL := Lib.hid hL
  clear hL
  obtain ⟨W0, hW0, HW, HO, z0⟩ := one_new w #[.slice A ns.length c, .slice B ss.length d] 24
  have HO : Hid (Ow W0 w.heap.size (.slice A ns.length c) (.slice B ss.length d)) := HO
  clear z0
  have b0 := HO.out.c0
  have b1 := HO.out.c1
  go_enter Try.func14, Try.ntmps14
  go_wp2_with (first
    | (go_at_call 15; with_reducible refine (HL.out _ (by repeat (first | with_reducible exact Below.refl _ _ | with_reducible assumption | refine below_drewN ?_ _ | with_reducible refine Below.drew ?_ | (refine Below.setCell ?_ (by first | (simp; done) | (simp; omega) | omega) _) | (refine Below.alloc ?_ (by first | (simp; done) | (simp; omega) | omega) _)))).mono ?_; rintro e v1 ⟨rfl, hB1⟩; rw [← hW0] at hB1; have HO := Lib.hid (Ow.below HO.out hB1); have b0 := HO.out.c0; have b1 := HO.out.c1; have HW : Hid (Below w.heap.size w _) := Lib.hid (below_step HW.out hB1); clear hB1)
    | (go_at_call 16; refine (awake_any _).mono ?_; rintro e v13 ⟨rfl, hB13⟩; have HW : Hid (Below w.heap.size w _) := Lib.hid (below_step HW.out hB13); clear hB13)
    | fail)
  go_ret
  exact ⟨rfl, HW.out⟩

set_option maxRecDepth 100000 in
set_option maxHeartbeats 8000000 in
theorem topw_long2 (ns ss cs : List Int) (A B C : Option Addr) (c d e1 : Nat) (ka kb : Int) (w : World)
    (hL : SaysT 15 #[(.agg #[.slice A ns.length c, .slice B ss.length d])] w false)
    (hcl : decide (60 < (cs.length : Int)) = true) :
    Calls Try.prog 14 #[(.agg #[.slice A ns.length c, .slice B ss.length d]), .slice C cs.length e1, .int .u8 ka, .int .u8 kb] w fun e w' => e = .returned (.bool true) ∧ Below w.heap.size w w' := by
  have HL := Lib.hid hL
  clear hL
  obtain ⟨W0, hW0, HW, HO, z0⟩ := one_new w #[.slice A ns.length c, .slice B ss.length d] 24
  have HO : Hid (Ow W0 w.heap.size (.slice A ns.length c) (.slice B ss.length d)) := HO
  clear z0
  have b0 := HO.out.c0
  have b1 := HO.out.c1
  go_enter Try.func14, Try.ntmps14
  go_wp2_with (first
    | (go_at_call 15; with_reducible refine (HL.out _ (by repeat (first | with_reducible exact Below.refl _ _ | with_reducible assumption | refine below_drewN ?_ _ | with_reducible refine Below.drew ?_ | (refine Below.setCell ?_ (by first | (simp; done) | (simp; omega) | omega) _) | (refine Below.alloc ?_ (by first | (simp; done) | (simp; omega) | omega) _)))).mono ?_; rintro e v1 ⟨rfl, hB1⟩; rw [← hW0] at hB1; have HO := Lib.hid (Ow.below HO.out hB1); have b0 := HO.out.c0; have b1 := HO.out.c1; have HW : Hid (Below w.heap.size w _) := Lib.hid (below_step HW.out hB1); clear hB1)
    | (go_at_call 16; refine (awake_any _).mono ?_; rintro e v13 ⟨rfl, hB13⟩; have HW : Hid (Below w.heap.size w _) := Lib.hid (below_step HW.out hB13); clear hB13)
    | fail)
  go_ret
  exact ⟨rfl, HW.out⟩

set_option maxRecDepth 100000 in
set_option maxHeartbeats 8000000 in
theorem topw_bad (ns ss cs : List Int) (A B C : Option Addr) (c d e1 : Nat) (ka kb : Int) (w : World)
    (hL : SaysT 15 #[(.agg #[.slice A ns.length c, .slice B ss.length d])] w false)
    (hV : SaysT 22 #[(.agg #[.slice A ns.length c, .slice B ss.length d])] w false)
    (hcl : decide (60 < (cs.length : Int)) = false) :
    Calls Try.prog 14 #[(.agg #[.slice A ns.length c, .slice B ss.length d]), .slice C cs.length e1, .int .u8 ka, .int .u8 kb] w fun e w' => e = .returned (.bool true) ∧ Below w.heap.size w w' := by
  have HL := Lib.hid hL
  have HV := Lib.hid hV
  clear hL hV
  obtain ⟨W0, hW0, HW, HO, z0⟩ := one_new w #[.slice A ns.length c, .slice B ss.length d] 24
  have HO : Hid (Ow W0 w.heap.size (.slice A ns.length c) (.slice B ss.length d)) := HO
  clear z0
  have b0 := HO.out.c0
  have b1 := HO.out.c1
  go_enter Try.func14, Try.ntmps14
  go_wp2_with (first
    | (go_at_call 15; with_reducible refine (HL.out _ (by repeat (first | with_reducible exact Below.refl _ _ | with_reducible assumption | refine below_drewN ?_ _ | with_reducible refine Below.drew ?_ | (refine Below.setCell ?_ (by first | (simp; done) | (simp; omega) | omega) _) | (refine Below.alloc ?_ (by first | (simp; done) | (simp; omega) | omega) _)))).mono ?_; rintro e v1 ⟨rfl, hB1⟩; rw [← hW0] at hB1; have HO := Lib.hid (Ow.below HO.out hB1); have b0 := HO.out.c0; have b1 := HO.out.c1; have HW : Hid (Below w.heap.size w _) := Lib.hid (below_step HW.out hB1); clear hB1)
    | (go_at_call 22; with_reducible refine (HV.out _ HW.out).mono ?_; rintro e v2 ⟨rfl, hB2⟩; have HO := Lib.hid (Ow.below HO.out hB2); have b0 := HO.out.c0; have b1 := HO.out.c1; have HW : Hid (Below w.heap.size w _) := Lib.hid (below_step HW.out hB2); clear hB2)
    | (go_at_call 16; refine (awake_any _).mono ?_; rintro e v13 ⟨rfl, hB13⟩; have HW : Hid (Below w.heap.size w _) := Lib.hid (below_step HW.out hB13); clear hB13)
    | fail)
  go_ret
  exact ⟨rfl, HW.out⟩

set_option maxRecDepth 100000 in
set_option maxHeartbeats 8000000 in
theorem topw_short (ns ss cs : List Int) (A B C : Option Addr) (c d e1 : Nat) (ka kb N D PN PD : Int) (w : World)
    (hL : SaysT 15 #[(.agg #[.slice A ns.length c, .slice B ss.length d])] w false)
    (hV : SaysT 22 #[(.agg #[.slice A ns.length c, .slice B ss.length d])] w true)
    (hT1 : ∀ W, Below w.heap.size w W → Calls Try.prog 64 #[(.agg #[.slice A ns.length c, .slice B ss.length d]), .slice C cs.length e1] W fun e w' => e = .returned (.tuple #[.agg #[.int .i64 N, .int .i64 D], .agg #[.int .i64 PN, .int .i64 PD], .bool true]) ∧ Below W.heap.size W w')
    (hS : ∀ W, Below w.heap.size w W → Calls Try.prog 49 #[(.agg #[.slice A ns.length c, .slice B ss.length d])] W fun e w' => ∃ S' s' N' n', e = .returned (.tuple #[.agg #[.slice S' ss.length s', .slice N' ns.length n'], .int .i64 0]) ∧ Out w' S' s' ss ∧ Out w' N' n' ns ∧ Below W.heap.size W w')
    (hVs : ∀ W S' s' N' n', Out W S' s' ss → Out W N' n' ns → Calls Try.prog 22 #[.agg #[.slice S' ss.length s', .slice N' ns.length n']] W fun e w' => e = .returned (.bool true) ∧ Below W.heap.size W w')
    (hT2 : ∀ W S' s' N' n', Below w.heap.size w W → Out W S' s' ss → Out W N' n' ns → Calls Try.prog 64 #[.agg #[.slice S' ss.length s', .slice N' ns.length n'], .slice C cs.length e1] W fun e w' => e = .returned (.tuple #[.agg #[.int .i64 N, .int .i64 D], .agg #[.int .i64 PN, .int .i64 PD], .bool true]) ∧ Below W.heap.size W w')
    (hcl : decide (60 < (cs.length : Int)) = false) (hs : decide ((ns.length : Int) < 2) = true) :
    Calls Try.prog 14 #[(.agg #[.slice A ns.length c, .slice B ss.length d]), .slice C cs.length e1, .int .u8 ka, .int .u8 kb] w fun e w' => e = .returned (.bool true) ∧ Below w.heap.size w w' := by
  have HL := Lib.hid hL
  have HV := Lib.hid hV
  have HT1 := Lib.hid hT1
  have HS := Lib.hid hS
  have HVs := Lib.hid hVs
  have HT2 := Lib.hid hT2
  clear hL hV hT1 hS hVs hT2
  obtain ⟨W0, hW0, HW, HO, z0⟩ := one_new w #[.slice A ns.length c, .slice B ss.length d] 24
  have HO : Hid (Ow W0 w.heap.size (.slice A ns.length c) (.slice B ss.length d)) := HO
  clear z0
  have b0 := HO.out.c0
  have b1 := HO.out.c1
  go_enter Try.func14, Try.ntmps14
  go_upto_region 3 with (first
    | (go_at_call 15; with_reducible refine (HL.out _ (by repeat (first | with_reducible exact Below.refl _ _ | with_reducible assumption | refine below_drewN ?_ _ | with_reducible refine Below.drew ?_ | (refine Below.setCell ?_ (by first | (simp; done) | (simp; omega) | omega) _) | (refine Below.alloc ?_ (by first | (simp; done) | (simp; omega) | omega) _)))).mono ?_; rintro e v1 ⟨rfl, hB1⟩; rw [← hW0] at hB1; have HO := Lib.hid (Ow.below HO.out hB1); have b0 := HO.out.c0; have b1 := HO.out.c1; have HW : Hid (Below w.heap.size w _) := Lib.hid (below_step HW.out hB1); clear hB1)
    | (go_at_call 22; with_reducible refine (HV.out _ HW.out).mono ?_; rintro e v2 ⟨rfl, hB2⟩; have HO := Lib.hid (Ow.below HO.out hB2); have b0 := HO.out.c0; have b1 := HO.out.c1; have HW : Hid (Below w.heap.size w _) := Lib.hid (below_step HW.out hB2); clear hB2)
    | fail)
  go_upto_region 4 with (go_at_call 64; with_reducible refine (HT1.out _ HW.out).mono ?_; rintro e v3 ⟨rfl, hB3⟩; have HO := Lib.hid (Ow.below HO.out hB3); have b0 := HO.out.c0; have b1 := HO.out.c1; have HW : Hid (Below w.heap.size w _) := Lib.hid (below_step HW.out hB3); clear hB3)
  have HLT := HO.out.lt
  obtain ⟨X3, hX3, HW, HX, HY, HO⟩ : ∃ X, ((v3.alloc (.cells #[.int .i64 N, .int .i64 D] 28)).alloc (.cells #[.int .i64 PN, .int .i64 PD] 28)) = X ∧ Hid (Below w.heap.size w X) ∧ Hid (Rw X v3.heap.size (.int .i64 N) (.int .i64 D)) ∧ Hid (Rw X (v3.heap.size + 1) (.int .i64 PN) (.int .i64 PD)) ∧ Hid (Ow X w.heap.size (.slice A ns.length c) (.slice B ss.length d)) :=
    ⟨_, rfl, Lib.hid (Below.alloc (Below.alloc HW.out HW.out.size _) (by have := HW.out.size; simp; omega) _), Lib.hid ((Rw.new _ _ _).alloc _), Lib.hid (by have := Rw.new (v3.alloc (.cells #[.int .i64 N, .int .i64 D] 28)) (.int .i64 PN) (.int .i64 PD); simpa using this), Lib.hid ((HO.out.alloc _).alloc _)⟩
  rw [hX3]
  clear hX3 HLT
  obtain ⟨gx, hgx⟩ : ∃ g, v3.heap.size = g := ⟨_, rfl⟩
  try rw [hgx] at HX HY ⊢
  clear hgx
  have b0 := HO.out.c0
  have b1 := HO.out.c1
  have x0 := HX.out.c0
  have x1 := HX.out.c1
  have y0 := HY.out.c0
  have y1 := HY.out.c1
  go_upto_region 5 with (go_at_call 49; with_reducible refine (HS.out _ HW.out).mono ?_; rintro e v4 ⟨S4, s4, N4, n4, rfl, ho1, ho2, hB4⟩; have HO := Lib.hid (Ow.below HO.out hB4); have b0 := HO.out.c0; have b1 := HO.out.c1; have HX := Lib.hid (Rw.below HX.out hB4); have x0 := HX.out.c0; have x1 := HX.out.c1; have HY := Lib.hid (Rw.below HY.out hB4); have y0 := HY.out.c0; have y1 := HY.out.c1; have HW : Hid (Below w.heap.size w _) := Lib.hid (below_step HW.out hB4); have HO1 := Lib.hid ho1; have HO2 := Lib.hid ho2; clear ho1 ho2; clear hB4)
  have HLT := HY.out.lt
  obtain ⟨X4, hX4, HW, HZ, HO, HX, HY, HO1, HO2⟩ : ∃ X, (v4.alloc (.cells #[.slice S4 ss.length s4, .slice N4 ns.length n4] 24)) = X ∧ Hid (Below w.heap.size w X) ∧ Hid (Ow X v4.heap.size (.slice S4 ss.length s4) (.slice N4 ns.length n4)) ∧ Hid (Ow X w.heap.size (.slice A ns.length c) (.slice B ss.length d)) ∧ Hid (Rw X gx (.int .i64 N) (.int .i64 D)) ∧ Hid (Rw X (gx + 1) (.int .i64 PN) (.int .i64 PD)) ∧ Hid (Out X S4 s4 ss) ∧ Hid (Out X N4 n4 ns) :=
    ⟨_, rfl, Lib.hid (Below.alloc HW.out HW.out.size _), Lib.hid (Ow.new _ _ _), Lib.hid (HO.out.alloc _), Lib.hid (HX.out.alloc _), Lib.hid (HY.out.alloc _), Lib.hid (HO1.out.below (Below.alloc (Below.refl _ _) (Nat.le_refl _) _)), Lib.hid (HO2.out.below (Below.alloc (Below.refl _ _) (Nat.le_refl _) _))⟩
  rw [hX4]
  clear hX4 HLT
  obtain ⟨gz, hgz⟩ : ∃ g, v4.heap.size = g := ⟨_, rfl⟩
  try rw [hgz] at HZ ⊢
  clear hgz
  have b0 := HO.out.c0
  have b1 := HO.out.c1
  have x0 := HX.out.c0
  have x1 := HX.out.c1
  have y0 := HY.out.c0
  have y1 := HY.out.c1
  have z0 := HZ.out.c0
  have z1 := HZ.out.c1
  go_upto_region 7 with (go_at_call 22; with_reducible refine (HVs.out _ S4 s4 N4 n4 HO1.out HO2.out).mono ?_; rintro e v5 ⟨rfl, hB5⟩; have HO := Lib.hid (Ow.below HO.out hB5); have b0 := HO.out.c0; have b1 := HO.out.c1; have HX := Lib.hid (Rw.below HX.out hB5); have x0 := HX.out.c0; have x1 := HX.out.c1; have HY := Lib.hid (Rw.below HY.out hB5); have y0 := HY.out.c0; have y1 := HY.out.c1; have HO1 := Lib.hid (Out.below HO1.out hB5); have HO2 := Lib.hid (Out.below HO2.out hB5); have HZ := Lib.hid (Ow.below HZ.out hB5); have z0 := HZ.out.c0; have z1 := HZ.out.c1; have HW : Hid (Below w.heap.size w _) := Lib.hid (below_step HW.out hB5); clear hB5)
  go_upto_region 8 with (go_at_call 64; with_reducible refine (HT2.out _ S4 s4 N4 n4 HW.out HO1.out HO2.out).mono ?_; rintro e v6 ⟨rfl, hB6⟩; have HO := Lib.hid (Ow.below HO.out hB6); have b0 := HO.out.c0; have b1 := HO.out.c1; have HX := Lib.hid (Rw.below HX.out hB6); have x0 := HX.out.c0; have x1 := HX.out.c1; have HY := Lib.hid (Rw.below HY.out hB6); have y0 := HY.out.c0; have y1 := HY.out.c1; have HO1 := Lib.hid (Out.below HO1.out hB6); have HO2 := Lib.hid (Out.below HO2.out hB6); have HZ := Lib.hid (Ow.below HZ.out hB6); have z0 := HZ.out.c0; have z1 := HZ.out.c1; have HW : Hid (Below w.heap.size w _) := Lib.hid (below_step HW.out hB6); clear hB6)
  have HLT := HZ.out.lt
  obtain ⟨X6, hX6, HW, HP, HQ, HO, HX, HY, HO1, HO2, HZ⟩ : ∃ X, ((v6.alloc (.cells #[.int .i64 N, .int .i64 D] 28)).alloc (.cells #[.int .i64 PN, .int .i64 PD] 28)) = X ∧ Hid (Below w.heap.size w X) ∧ Hid (Rw X v6.heap.size (.int .i64 N) (.int .i64 D)) ∧ Hid (Rw X (v6.heap.size + 1) (.int .i64 PN) (.int .i64 PD)) ∧ Hid (Ow X w.heap.size (.slice A ns.length c) (.slice B ss.length d)) ∧ Hid (Rw X gx (.int .i64 N) (.int .i64 D)) ∧ Hid (Rw X (gx + 1) (.int .i64 PN) (.int .i64 PD)) ∧ Hid (Out X S4 s4 ss) ∧ Hid (Out X N4 n4 ns) ∧ Hid (Ow X gz (.slice S4 ss.length s4) (.slice N4 ns.length n4)) :=
    ⟨_, rfl, Lib.hid (Below.alloc (Below.alloc HW.out HW.out.size _) (by have := HW.out.size; simp; omega) _), Lib.hid ((Rw.new _ _ _).alloc _), Lib.hid (by have := Rw.new (v6.alloc (.cells #[.int .i64 N, .int .i64 D] 28)) (.int .i64 PN) (.int .i64 PD); simpa using this), Lib.hid ((HO.out.alloc _).alloc _), Lib.hid ((HX.out.alloc _).alloc _), Lib.hid ((HY.out.alloc _).alloc _), Lib.hid (HO1.out.below ((Below.alloc (Below.refl _ _) (Nat.le_refl _) _).alloc (by simp) _)), Lib.hid (HO2.out.below ((Below.alloc (Below.refl _ _) (Nat.le_refl _) _).alloc (by simp) _)), Lib.hid ((HZ.out.alloc _).alloc _)⟩
  rw [hX6]
  clear hX6 HLT
  obtain ⟨gp, hgp⟩ : ∃ g, v6.heap.size = g := ⟨_, rfl⟩
  try rw [hgp] at HP HQ ⊢
  clear hgp
  have b0 := HO.out.c0
  have b1 := HO.out.c1
  have x0 := HX.out.c0
  have x1 := HX.out.c1
  have y0 := HY.out.c0
  have y1 := HY.out.c1
  have z0 := HZ.out.c0
  have z1 := HZ.out.c1
  have p0 := HP.out.c0
  have p1 := HP.out.c1
  have q0 := HQ.out.c0
  have q1 := HQ.out.c1
  go_wp2_with (first
    | (go_at_call 16; refine (awake_any _).mono ?_; rintro e v13 ⟨rfl, hB13⟩; have HW : Hid (Below w.heap.size w _) := Lib.hid (below_step HW.out hB13); clear hB13)
    | fail)
  go_ret
  exact ⟨rfl, HW.out⟩

set_option maxRecDepth 100000 in
set_option maxHeartbeats 8000000 in
theorem topw_inv (ns ss cs ms ts : List Int) (A B C : Option Addr) (c d e1 a b : Nat) (ka kb N D PN PD : Int) (w : World)
    (hL : SaysT 15 #[(.agg #[.slice A ns.length c, .slice B ss.length d])] w false)
    (hV : SaysT 22 #[(.agg #[.slice A ns.length c, .slice B ss.length d])] w true)
    (hT1 : ∀ W, Below w.heap.size w W → Calls Try.prog 64 #[(.agg #[.slice A ns.length c, .slice B ss.length d]), .slice C cs.length e1] W fun e w' => e = .returned (.tuple #[.agg #[.int .i64 N, .int .i64 D], .agg #[.int .i64 PN, .int .i64 PD], .bool true]) ∧ Below W.heap.size W w')
    (hS : ∀ W, Below w.heap.size w W → Calls Try.prog 49 #[(.agg #[.slice A ns.length c, .slice B ss.length d])] W fun e w' => ∃ S' s' N' n', e = .returned (.tuple #[.agg #[.slice S' ss.length s', .slice N' ns.length n'], .int .i64 0]) ∧ Out w' S' s' ss ∧ Out w' N' n' ns ∧ Below W.heap.size W w')
    (hVs : ∀ W S' s' N' n', Out W S' s' ss → Out W N' n' ns → Calls Try.prog 22 #[.agg #[.slice S' ss.length s', .slice N' ns.length n']] W fun e w' => e = .returned (.bool true) ∧ Below W.heap.size W w')
    (hT2 : ∀ W S' s' N' n', Below w.heap.size w W → Out W S' s' ss → Out W N' n' ns → Calls Try.prog 64 #[.agg #[.slice S' ss.length s', .slice N' ns.length n'], .slice C cs.length e1] W fun e w' => e = .returned (.tuple #[.agg #[.int .i64 N, .int .i64 D], .agg #[.int .i64 PN, .int .i64 PD], .bool true]) ∧ Below W.heap.size W w')
    (hM : ∀ W, Below w.heap.size w W → Calls Try.prog 46 #[(.agg #[.slice A ns.length c, .slice B ss.length d]), .int .i64 a, .int .i64 b] W fun e w' => ∃ N' n' S' s', e = .returned (.tuple #[.agg #[.slice N' ms.length n', .slice S' ts.length s'], .int .i64 0]) ∧ Out w' N' n' ms ∧ Out w' S' s' ts ∧ Below W.heap.size W w')
    (hVm : ∀ W N' n' S' s', Out W N' n' ms → Out W S' s' ts → Calls Try.prog 22 #[.agg #[.slice N' ms.length n', .slice S' ts.length s']] W fun e w' => e = .returned (.bool false) ∧ Below W.heap.size W w')
    (hcl : decide (60 < (cs.length : Int)) = false) (hs : decide ((ns.length : Int) < 2) = false) (hn2 : 2 ≤ ns.length) (hn10 : ns.length ≤ 10) (ha0 : 0 ≤ ka ∧ ka ≤ 255) (hb0 : 0 ≤ kb ∧ kb ≤ 255) (ha1 : ka % ((ns.length : Int) - 1) = (a : Int)) (hb1 : (a : Int) + 1 + kb % ((ns.length : Int) - 1 - a) = (b : Int)) (hal : a + 1 < ns.length) (hbl : b < ns.length) :
    Calls Try.prog 14 #[(.agg #[.slice A ns.length c, .slice B ss.length d]), .slice C cs.length e1, .int .u8 ka, .int .u8 kb] w fun e w' => e = .returned (.bool true) ∧ Below w.heap.size w w' := by
  have HL := Lib.hid hL
  have HV := Lib.hid hV
  have HT1 := Lib.hid hT1
  have HS := Lib.hid hS
  have HVs := Lib.hid hVs
  have HT2 := Lib.hid hT2
  have HM := Lib.hid hM
  have HVm := Lib.hid hVm
  have e1 : IntKind.i64.wrap ((ns.length : Int) - 1) = (ns.length : Int) - 1 := IntWalk.i64_in _ (by omega)
  have e2 : decide ((ns.length : Int) - 1 = 0) = false := decide_eq_false (by omega)
  have e3 : IntKind.i64.wrap ((a : Int) + 1) = (a : Int) + 1 := IntWalk.i64_in _ (by omega)
  have e4 : IntKind.i64.wrap ((ns.length : Int) - 1 - a) = (ns.length : Int) - 1 - a := IntWalk.i64_in _ (by omega)
  have e5 : decide ((ns.length : Int) - 1 - a = 0) = false := decide_eq_false (by omega)
  have e6 : IntKind.i64.wrap ((a : Int) + 1 + kb % ((ns.length : Int) - 1 - a)) = (b : Int) := by rw [IntWalk.i64_in _ (by omega)]; exact hb1
  have e8 : IntKind.i64.wrap kb = kb := IntWalk.i64_in _ (by omega)
  have e9 : kb.tmod ((ns.length : Int) - 1 - a) = kb % ((ns.length : Int) - 1 - a) := Int.tmod_eq_emod_of_nonneg hb0.1
  have e7 : IntKind.i64.wrap (b : Int) = (b : Int) := IntWalk.i64_in _ (by omega)
  have e5b : ((ns.length : Int) - 1 - a == 0) = false := by rw [beq_eq_false_iff_ne]; omega
  have e5c : ¬ ((ns.length : Int) - 1 - a = 0) := by omega
  have e5d : ¬ ((ns.length : Int) - 1 = a) := by omega
  have g1 : 0 ≤ (ns.length : Int) - 1 := by omega
  have g2 : 0 ≤ (ns.length : Int) - 1 - a := by omega
  clear hL hV hT1 hS hVs hT2 hM hVm
  obtain ⟨W0, hW0, HW, HO, z0⟩ := one_new w #[.slice A ns.length c, .slice B ss.length d] 24
  have HO : Hid (Ow W0 w.heap.size (.slice A ns.length c) (.slice B ss.length d)) := HO
  clear z0
  have b0 := HO.out.c0
  have b1 := HO.out.c1
  go_enter Try.func14, Try.ntmps14
  go_upto_region 3 with (first
    | (go_at_call 15; with_reducible refine (HL.out _ (by repeat (first | with_reducible exact Below.refl _ _ | with_reducible assumption | refine below_drewN ?_ _ | with_reducible refine Below.drew ?_ | (refine Below.setCell ?_ (by first | (simp; done) | (simp; omega) | omega) _) | (refine Below.alloc ?_ (by first | (simp; done) | (simp; omega) | omega) _)))).mono ?_; rintro e v1 ⟨rfl, hB1⟩; rw [← hW0] at hB1; have HO := Lib.hid (Ow.below HO.out hB1); have b0 := HO.out.c0; have b1 := HO.out.c1; have HW : Hid (Below w.heap.size w _) := Lib.hid (below_step HW.out hB1); clear hB1)
    | (go_at_call 22; with_reducible refine (HV.out _ HW.out).mono ?_; rintro e v2 ⟨rfl, hB2⟩; have HO := Lib.hid (Ow.below HO.out hB2); have b0 := HO.out.c0; have b1 := HO.out.c1; have HW : Hid (Below w.heap.size w _) := Lib.hid (below_step HW.out hB2); clear hB2)
    | fail)
  go_upto_region 4 with (go_at_call 64; with_reducible refine (HT1.out _ HW.out).mono ?_; rintro e v3 ⟨rfl, hB3⟩; have HO := Lib.hid (Ow.below HO.out hB3); have b0 := HO.out.c0; have b1 := HO.out.c1; have HW : Hid (Below w.heap.size w _) := Lib.hid (below_step HW.out hB3); clear hB3)
  have HLT := HO.out.lt
  obtain ⟨X3, hX3, HW, HX, HY, HO⟩ : ∃ X, ((v3.alloc (.cells #[.int .i64 N, .int .i64 D] 28)).alloc (.cells #[.int .i64 PN, .int .i64 PD] 28)) = X ∧ Hid (Below w.heap.size w X) ∧ Hid (Rw X v3.heap.size (.int .i64 N) (.int .i64 D)) ∧ Hid (Rw X (v3.heap.size + 1) (.int .i64 PN) (.int .i64 PD)) ∧ Hid (Ow X w.heap.size (.slice A ns.length c) (.slice B ss.length d)) :=
    ⟨_, rfl, Lib.hid (Below.alloc (Below.alloc HW.out HW.out.size _) (by have := HW.out.size; simp; omega) _), Lib.hid ((Rw.new _ _ _).alloc _), Lib.hid (by have := Rw.new (v3.alloc (.cells #[.int .i64 N, .int .i64 D] 28)) (.int .i64 PN) (.int .i64 PD); simpa using this), Lib.hid ((HO.out.alloc _).alloc _)⟩
  rw [hX3]
  clear hX3 HLT
  obtain ⟨gx, hgx⟩ : ∃ g, v3.heap.size = g := ⟨_, rfl⟩
  try rw [hgx] at HX HY ⊢
  clear hgx
  have b0 := HO.out.c0
  have b1 := HO.out.c1
  have x0 := HX.out.c0
  have x1 := HX.out.c1
  have y0 := HY.out.c0
  have y1 := HY.out.c1
  go_upto_region 5 with (go_at_call 49; with_reducible refine (HS.out _ HW.out).mono ?_; rintro e v4 ⟨S4, s4, N4, n4, rfl, ho1, ho2, hB4⟩; have HO := Lib.hid (Ow.below HO.out hB4); have b0 := HO.out.c0; have b1 := HO.out.c1; have HX := Lib.hid (Rw.below HX.out hB4); have x0 := HX.out.c0; have x1 := HX.out.c1; have HY := Lib.hid (Rw.below HY.out hB4); have y0 := HY.out.c0; have y1 := HY.out.c1; have HW : Hid (Below w.heap.size w _) := Lib.hid (below_step HW.out hB4); have HO1 := Lib.hid ho1; have HO2 := Lib.hid ho2; clear ho1 ho2; clear hB4)
  have HLT := HY.out.lt
  obtain ⟨X4, hX4, HW, HZ, HO, HX, HY, HO1, HO2⟩ : ∃ X, (v4.alloc (.cells #[.slice S4 ss.length s4, .slice N4 ns.length n4] 24)) = X ∧ Hid (Below w.heap.size w X) ∧ Hid (Ow X v4.heap.size (.slice S4 ss.length s4) (.slice N4 ns.length n4)) ∧ Hid (Ow X w.heap.size (.slice A ns.length c) (.slice B ss.length d)) ∧ Hid (Rw X gx (.int .i64 N) (.int .i64 D)) ∧ Hid (Rw X (gx + 1) (.int .i64 PN) (.int .i64 PD)) ∧ Hid (Out X S4 s4 ss) ∧ Hid (Out X N4 n4 ns) :=
    ⟨_, rfl, Lib.hid (Below.alloc HW.out HW.out.size _), Lib.hid (Ow.new _ _ _), Lib.hid (HO.out.alloc _), Lib.hid (HX.out.alloc _), Lib.hid (HY.out.alloc _), Lib.hid (HO1.out.below (Below.alloc (Below.refl _ _) (Nat.le_refl _) _)), Lib.hid (HO2.out.below (Below.alloc (Below.refl _ _) (Nat.le_refl _) _))⟩
  rw [hX4]
  clear hX4 HLT
  obtain ⟨gz, hgz⟩ : ∃ g, v4.heap.size = g := ⟨_, rfl⟩
  try rw [hgz] at HZ ⊢
  clear hgz
  have b0 := HO.out.c0
  have b1 := HO.out.c1
  have x0 := HX.out.c0
  have x1 := HX.out.c1
  have y0 := HY.out.c0
  have y1 := HY.out.c1
  have z0 := HZ.out.c0
  have z1 := HZ.out.c1
  go_upto_region 7 with (go_at_call 22; with_reducible refine (HVs.out _ S4 s4 N4 n4 HO1.out HO2.out).mono ?_; rintro e v5 ⟨rfl, hB5⟩; have HO := Lib.hid (Ow.below HO.out hB5); have b0 := HO.out.c0; have b1 := HO.out.c1; have HX := Lib.hid (Rw.below HX.out hB5); have x0 := HX.out.c0; have x1 := HX.out.c1; have HY := Lib.hid (Rw.below HY.out hB5); have y0 := HY.out.c0; have y1 := HY.out.c1; have HO1 := Lib.hid (Out.below HO1.out hB5); have HO2 := Lib.hid (Out.below HO2.out hB5); have HZ := Lib.hid (Ow.below HZ.out hB5); have z0 := HZ.out.c0; have z1 := HZ.out.c1; have HW : Hid (Below w.heap.size w _) := Lib.hid (below_step HW.out hB5); clear hB5)
  go_upto_region 8 with (go_at_call 64; with_reducible refine (HT2.out _ S4 s4 N4 n4 HW.out HO1.out HO2.out).mono ?_; rintro e v6 ⟨rfl, hB6⟩; have HO := Lib.hid (Ow.below HO.out hB6); have b0 := HO.out.c0; have b1 := HO.out.c1; have HX := Lib.hid (Rw.below HX.out hB6); have x0 := HX.out.c0; have x1 := HX.out.c1; have HY := Lib.hid (Rw.below HY.out hB6); have y0 := HY.out.c0; have y1 := HY.out.c1; have HO1 := Lib.hid (Out.below HO1.out hB6); have HO2 := Lib.hid (Out.below HO2.out hB6); have HZ := Lib.hid (Ow.below HZ.out hB6); have z0 := HZ.out.c0; have z1 := HZ.out.c1; have HW : Hid (Below w.heap.size w _) := Lib.hid (below_step HW.out hB6); clear hB6)
  have HLT := HZ.out.lt
  obtain ⟨X6, hX6, HW, HP, HQ, HO, HX, HY, HO1, HO2, HZ⟩ : ∃ X, ((v6.alloc (.cells #[.int .i64 N, .int .i64 D] 28)).alloc (.cells #[.int .i64 PN, .int .i64 PD] 28)) = X ∧ Hid (Below w.heap.size w X) ∧ Hid (Rw X v6.heap.size (.int .i64 N) (.int .i64 D)) ∧ Hid (Rw X (v6.heap.size + 1) (.int .i64 PN) (.int .i64 PD)) ∧ Hid (Ow X w.heap.size (.slice A ns.length c) (.slice B ss.length d)) ∧ Hid (Rw X gx (.int .i64 N) (.int .i64 D)) ∧ Hid (Rw X (gx + 1) (.int .i64 PN) (.int .i64 PD)) ∧ Hid (Out X S4 s4 ss) ∧ Hid (Out X N4 n4 ns) ∧ Hid (Ow X gz (.slice S4 ss.length s4) (.slice N4 ns.length n4)) :=
    ⟨_, rfl, Lib.hid (Below.alloc (Below.alloc HW.out HW.out.size _) (by have := HW.out.size; simp; omega) _), Lib.hid ((Rw.new _ _ _).alloc _), Lib.hid (by have := Rw.new (v6.alloc (.cells #[.int .i64 N, .int .i64 D] 28)) (.int .i64 PN) (.int .i64 PD); simpa using this), Lib.hid ((HO.out.alloc _).alloc _), Lib.hid ((HX.out.alloc _).alloc _), Lib.hid ((HY.out.alloc _).alloc _), Lib.hid (HO1.out.below ((Below.alloc (Below.refl _ _) (Nat.le_refl _) _).alloc (by simp) _)), Lib.hid (HO2.out.below ((Below.alloc (Below.refl _ _) (Nat.le_refl _) _).alloc (by simp) _)), Lib.hid ((HZ.out.alloc _).alloc _)⟩
  rw [hX6]
  clear hX6 HLT
  obtain ⟨gp, hgp⟩ : ∃ g, v6.heap.size = g := ⟨_, rfl⟩
  try rw [hgp] at HP HQ ⊢
  clear hgp
  have b0 := HO.out.c0
  have b1 := HO.out.c1
  have x0 := HX.out.c0
  have x1 := HX.out.c1
  have y0 := HY.out.c0
  have y1 := HY.out.c1
  have z0 := HZ.out.c0
  have z1 := HZ.out.c1
  have p0 := HP.out.c0
  have p1 := HP.out.c1
  have q0 := HQ.out.c0
  have q1 := HQ.out.c1
  go_upto_region 12 with (fail)
  clear HO1 HO2 HZ HP HQ
  clear z0 z1 p0 p1 q0 q1
  go_upto_region 13 with (fail)
  have LHO := Lib.hid (show w.heap.size ≠ X6.heap.size by have := HO.out.lt; omega)
  have LHX := Lib.hid (show gx ≠ X6.heap.size by have := HX.out.lt; omega)
  have LHY := Lib.hid (show (gx + 1) ≠ X6.heap.size by have := HY.out.lt; omega)
  have LW := Lib.hid (show w.heap.size ≤ X6.heap.size from HW.out.size)
  go_region_held3 (fun W => W.cell? ⟨w.heap.size, 0, none⟩ = some (.slice A ns.length c) ∧ W.cell? ⟨w.heap.size, 1, none⟩ = some (.slice B ss.length d))
    ((first | with_reducible exact ⟨b0, b1⟩ | exact ⟨b0, b1⟩ | exact ⟨(Ow.alloc HO.out _).c0, (Ow.alloc HO.out _).c1⟩ | exact ⟨(ow_drew (Ow.alloc HO.out _)).c0, (ow_drew (Ow.alloc HO.out _)).c1⟩ | exact ⟨(Ow.other HO.out LHO.out).c0, (Ow.other HO.out LHO.out).c1⟩ | exact ⟨(ow_drew HO.out).c0, (ow_drew HO.out).c1⟩))
    ((first
    | (go_at_call 46; with_reducible refine (HM.out _ (Below.drew HW.out)).mono ?_; rintro e v7 ⟨N5, n5, S5, s5, rfl, ho1, ho2, hBm⟩; have HO := Lib.hid (Ow.below (ow_drew HO.out) hBm); have b0 := HO.out.c0; have b1 := HO.out.c1; have HX := Lib.hid (Rw.below (rw_drew HX.out) hBm); have x0 := HX.out.c0; have x1 := HX.out.c1; have HY := Lib.hid (Rw.below (rw_drew HY.out) hBm); have y0 := HY.out.c0; have y1 := HY.out.c1; have HW : Hid (Below w.heap.size w _) := Lib.hid (below_step (Below.drew HW.out) hBm); have HO1 := Lib.hid ho1; have HO2 := Lib.hid ho2; clear ho1 ho2 hBm)
    | (go_at_call 46; with_reducible refine (HM.out _ (Below.drew (Below.alloc HW.out HW.out.size (.cells #[.slice none 0 0, .slice none 0 0] 24)))).mono ?_; rintro e v7 ⟨N5, n5, S5, s5, rfl, ho1, ho2, hBm⟩; have HO := Lib.hid (Ow.below (ow_drew (Ow.alloc HO.out (.cells #[.slice none 0 0, .slice none 0 0] 24))) hBm); have b0 := HO.out.c0; have b1 := HO.out.c1; have HX := Lib.hid (Rw.below (rw_drew (Rw.alloc HX.out (.cells #[.slice none 0 0, .slice none 0 0] 24))) hBm); have x0 := HX.out.c0; have x1 := HX.out.c1; have HY := Lib.hid (Rw.below (rw_drew (Rw.alloc HY.out (.cells #[.slice none 0 0, .slice none 0 0] 24))) hBm); have y0 := HY.out.c0; have y1 := HY.out.c1; have HZ := Lib.hid (Ow.below (ow_drew (Ow.new X6 (.slice none 0 0) (.slice none 0 0))) hBm); have z0 := HZ.out.c0; have z1 := HZ.out.c1; have zf0 := HZ.out.f 0; have zf1 := HZ.out.f 1; have HW : Hid (Below w.heap.size w _) := Lib.hid (below_step (Below.drew (Below.alloc HW.out HW.out.size (.cells #[.slice none 0 0, .slice none 0 0] 24))) hBm); have HO1 := Lib.hid ho1; have HO2 := Lib.hid ho2; clear ho1 ho2 hBm)
    | fail))
  · skip
    have HLT := HY.out.lt
    obtain ⟨X7, hX7, HW, HZ, HO, HX, HY, HO1, HO2⟩ : ∃ X, (v7.alloc (.cells #[.slice N5 ms.length n5, .slice S5 ts.length s5] 24)) = X ∧ Hid (Below w.heap.size w X) ∧ Hid (Ow X v7.heap.size (.slice N5 ms.length n5) (.slice S5 ts.length s5)) ∧ Hid (Ow X w.heap.size (.slice A ns.length c) (.slice B ss.length d)) ∧ Hid (Rw X gx (.int .i64 N) (.int .i64 D)) ∧ Hid (Rw X (gx + 1) (.int .i64 PN) (.int .i64 PD)) ∧ Hid (Out X N5 n5 ms) ∧ Hid (Out X S5 s5 ts) :=
      ⟨_, rfl, Lib.hid (Below.alloc HW.out HW.out.size _), Lib.hid (Ow.new _ _ _), Lib.hid (HO.out.alloc _), Lib.hid (HX.out.alloc _), Lib.hid (HY.out.alloc _), Lib.hid (HO1.out.below (Below.alloc (Below.refl _ _) (Nat.le_refl _) _)), Lib.hid (HO2.out.below (Below.alloc (Below.refl _ _) (Nat.le_refl _) _))⟩
    rw [hX7]
    clear hX7 HLT
    obtain ⟨gz2, hgz2⟩ : ∃ g, v7.heap.size = g := ⟨_, rfl⟩
    try rw [hgz2] at HZ ⊢
    clear hgz2
    have b0 := HO.out.c0
    have b1 := HO.out.c1
    have x0 := HX.out.c0
    have x1 := HX.out.c1
    have y0 := HY.out.c0
    have y1 := HY.out.c1
    have z0 := HZ.out.c0
    have z1 := HZ.out.c1
    go_upto_region 16 with (fail)
    go_wp2_with (first
      | (go_at_call 22; with_reducible refine (HVm.out _ N5 n5 S5 s5 HO1.out HO2.out).mono ?_; rintro e v8 ⟨rfl, hB8⟩; have HO := Lib.hid (Ow.below HO.out hB8); have b0 := HO.out.c0; have b1 := HO.out.c1; have HX := Lib.hid (Rw.below HX.out hB8); have x0 := HX.out.c0; have x1 := HX.out.c1; have HY := Lib.hid (Rw.below HY.out hB8); have y0 := HY.out.c0; have y1 := HY.out.c1; have HO1 := Lib.hid (Out.below HO1.out hB8); have HO2 := Lib.hid (Out.below HO2.out hB8); have HZ := Lib.hid (Ow.below HZ.out hB8); have z0 := HZ.out.c0; have z1 := HZ.out.c1; have HW : Hid (Below w.heap.size w _) := Lib.hid (below_step HW.out hB8); clear hB8)
      | (go_at_call 16; refine (awake_any _).mono ?_; rintro e v13 ⟨rfl, hB13⟩; have HW : Hid (Below w.heap.size w _) := Lib.hid (below_step HW.out hB13); clear hB13)
      | fail)
    go_ret
    exact ⟨rfl, HW.out⟩
  · skip
    obtain ⟨gz2, hgz2⟩ : ∃ g, X6.heap.size = g := ⟨_, rfl⟩
    rw [hgz2] at HZ LW LHO LHX LHY ⊢
    clear hgz2 z0 z1 zf0 zf1
    obtain ⟨X7, hX7, HW, HO, HX, HY, HO1, HO2, HZ⟩ : ∃ X, ((v7.setCell ⟨gz2, 0, none⟩ (.slice N5 ms.length n5)).setCell ⟨gz2, 1, none⟩ (.slice S5 ts.length s5)) = X ∧ Hid (Below w.heap.size w X) ∧ Hid (Ow X w.heap.size (.slice A ns.length c) (.slice B ss.length d)) ∧ Hid (Rw X gx (.int .i64 N) (.int .i64 D)) ∧ Hid (Rw X (gx + 1) (.int .i64 PN) (.int .i64 PD)) ∧ Hid (Out X N5 n5 ms) ∧ Hid (Out X S5 s5 ts) ∧ Hid (Ow X gz2 (.slice N5 ms.length n5) (.slice S5 ts.length s5)) :=
      ⟨_, rfl, Lib.hid (st2_below HW.out LW.out), Lib.hid (HO.out.other LHO.out), Lib.hid (HX.out.other LHX.out), Lib.hid (HY.out.other LHY.out), Lib.hid (ow_out HZ.out HO1.out), Lib.hid (ow_out HZ.out HO2.out), Lib.hid (HZ.out.set)⟩
    rw [hX7]
    clear hX7
    have b0 := HO.out.c0
    have b1 := HO.out.c1
    have x0 := HX.out.c0
    have x1 := HX.out.c1
    have y0 := HY.out.c0
    have y1 := HY.out.c1
    have z0 := HZ.out.c0
    have z1 := HZ.out.c1
    go_upto_region 16 with (fail)
    go_wp2_with (first
      | (go_at_call 22; with_reducible refine (HVm.out _ N5 n5 S5 s5 HO1.out HO2.out).mono ?_; rintro e v8 ⟨rfl, hB8⟩; have HO := Lib.hid (Ow.below HO.out hB8); have b0 := HO.out.c0; have b1 := HO.out.c1; have HX := Lib.hid (Rw.below HX.out hB8); have x0 := HX.out.c0; have x1 := HX.out.c1; have HY := Lib.hid (Rw.below HY.out hB8); have y0 := HY.out.c0; have y1 := HY.out.c1; have HO1 := Lib.hid (Out.below HO1.out hB8); have HO2 := Lib.hid (Out.below HO2.out hB8); have HZ := Lib.hid (Ow.below HZ.out hB8); have z0 := HZ.out.c0; have z1 := HZ.out.c1; have HW : Hid (Below w.heap.size w _) := Lib.hid (below_step HW.out hB8); clear hB8)
      | (go_at_call 16; refine (awake_any _).mono ?_; rintro e v13 ⟨rfl, hB13⟩; have HW : Hid (Below w.heap.size w _) := Lib.hid (below_step HW.out hB13); clear hB13)
      | fail)
    go_ret
    exact ⟨rfl, HW.out⟩

set_option maxRecDepth 100000 in
set_option maxHeartbeats 8000000 in
theorem topw_ok (ns ss cs ms ts : List Int) (A B C : Option Addr) (c d e1 a b : Nat) (ka kb N D PN PD N3 D3 P3 Q3 : Int) (w : World)
    (hL : SaysT 15 #[(.agg #[.slice A ns.length c, .slice B ss.length d])] w false)
    (hV : SaysT 22 #[(.agg #[.slice A ns.length c, .slice B ss.length d])] w true)
    (hT1 : ∀ W, Below w.heap.size w W → Calls Try.prog 64 #[(.agg #[.slice A ns.length c, .slice B ss.length d]), .slice C cs.length e1] W fun e w' => e = .returned (.tuple #[.agg #[.int .i64 N, .int .i64 D], .agg #[.int .i64 PN, .int .i64 PD], .bool true]) ∧ Below W.heap.size W w')
    (hS : ∀ W, Below w.heap.size w W → Calls Try.prog 49 #[(.agg #[.slice A ns.length c, .slice B ss.length d])] W fun e w' => ∃ S' s' N' n', e = .returned (.tuple #[.agg #[.slice S' ss.length s', .slice N' ns.length n'], .int .i64 0]) ∧ Out w' S' s' ss ∧ Out w' N' n' ns ∧ Below W.heap.size W w')
    (hVs : ∀ W S' s' N' n', Out W S' s' ss → Out W N' n' ns → Calls Try.prog 22 #[.agg #[.slice S' ss.length s', .slice N' ns.length n']] W fun e w' => e = .returned (.bool true) ∧ Below W.heap.size W w')
    (hT2 : ∀ W S' s' N' n', Below w.heap.size w W → Out W S' s' ss → Out W N' n' ns → Calls Try.prog 64 #[.agg #[.slice S' ss.length s', .slice N' ns.length n'], .slice C cs.length e1] W fun e w' => e = .returned (.tuple #[.agg #[.int .i64 N, .int .i64 D], .agg #[.int .i64 PN, .int .i64 PD], .bool true]) ∧ Below W.heap.size W w')
    (hM : ∀ W, Below w.heap.size w W → Calls Try.prog 46 #[(.agg #[.slice A ns.length c, .slice B ss.length d]), .int .i64 a, .int .i64 b] W fun e w' => ∃ N' n' S' s', e = .returned (.tuple #[.agg #[.slice N' ms.length n', .slice S' ts.length s'], .int .i64 0]) ∧ Out w' N' n' ms ∧ Out w' S' s' ts ∧ Below W.heap.size W w')
    (hVm : ∀ W N' n' S' s', Out W N' n' ms → Out W S' s' ts → Calls Try.prog 22 #[.agg #[.slice N' ms.length n', .slice S' ts.length s']] W fun e w' => e = .returned (.bool true) ∧ Below W.heap.size W w')
    (hT3 : ∀ W N' n' S' s', Out W N' n' ms → Out W S' s' ts → Calls Try.prog 64 #[.agg #[.slice N' ms.length n', .slice S' ts.length s'], .slice none 0 0] W fun e w' => e = .returned (.tuple #[.agg #[.int .i64 N3, .int .i64 D3], .agg #[.int .i64 P3, .int .i64 Q3], .bool true]) ∧ Below W.heap.size W w')
    (hcl : decide (60 < (cs.length : Int)) = false) (hs : decide ((ns.length : Int) < 2) = false) (hn2 : 2 ≤ ns.length) (hn10 : ns.length ≤ 10) (ha0 : 0 ≤ ka ∧ ka ≤ 255) (hb0 : 0 ≤ kb ∧ kb ≤ 255) (ha1 : ka % ((ns.length : Int) - 1) = (a : Int)) (hb1 : (a : Int) + 1 + kb % ((ns.length : Int) - 1 - a) = (b : Int)) (hal : a + 1 < ns.length) (hbl : b < ns.length) (m1 : smB N D = true) (m2 : smB PN PD = true) (m3 : smB N3 D3 = true) (m4 : smB P3 Q3 = true) (hl1 : decide (N3 * D ≤ N * D3) = true) (hl2 : decide (P3 * PD ≤ PN * Q3) = true) :
    Calls Try.prog 14 #[(.agg #[.slice A ns.length c, .slice B ss.length d]), .slice C cs.length e1, .int .u8 ka, .int .u8 kb] w fun e w' => e = .returned (.bool true) ∧ Below w.heap.size w w' := by
  have HL := Lib.hid hL
  have HV := Lib.hid hV
  have HT1 := Lib.hid hT1
  have HS := Lib.hid hS
  have HVs := Lib.hid hVs
  have HT2 := Lib.hid hT2
  have HM := Lib.hid hM
  have HVm := Lib.hid hVm
  have HT3 := Lib.hid hT3
  have e1 : IntKind.i64.wrap ((ns.length : Int) - 1) = (ns.length : Int) - 1 := IntWalk.i64_in _ (by omega)
  have e2 : decide ((ns.length : Int) - 1 = 0) = false := decide_eq_false (by omega)
  have e3 : IntKind.i64.wrap ((a : Int) + 1) = (a : Int) + 1 := IntWalk.i64_in _ (by omega)
  have e4 : IntKind.i64.wrap ((ns.length : Int) - 1 - a) = (ns.length : Int) - 1 - a := IntWalk.i64_in _ (by omega)
  have e5 : decide ((ns.length : Int) - 1 - a = 0) = false := decide_eq_false (by omega)
  have e6 : IntKind.i64.wrap ((a : Int) + 1 + kb % ((ns.length : Int) - 1 - a)) = (b : Int) := by rw [IntWalk.i64_in _ (by omega)]; exact hb1
  have e8 : IntKind.i64.wrap kb = kb := IntWalk.i64_in _ (by omega)
  have e9 : kb.tmod ((ns.length : Int) - 1 - a) = kb % ((ns.length : Int) - 1 - a) := Int.tmod_eq_emod_of_nonneg hb0.1
  have e7 : IntKind.i64.wrap (b : Int) = (b : Int) := IntWalk.i64_in _ (by omega)
  have e5b : ((ns.length : Int) - 1 - a == 0) = false := by rw [beq_eq_false_iff_ne]; omega
  have e5c : ¬ ((ns.length : Int) - 1 - a = 0) := by omega
  have e5d : ¬ ((ns.length : Int) - 1 = a) := by omega
  have g1 : 0 ≤ (ns.length : Int) - 1 := by omega
  have g2 : 0 ≤ (ns.length : Int) - 1 - a := by omega
  obtain ⟨m1a, m1b, m1c, m1d⟩ := sm_of m1
  obtain ⟨m2a, m2b, m2c, m2d⟩ := sm_of m2
  obtain ⟨m3a, m3b, m3c, m3d⟩ := sm_of m3
  obtain ⟨m4a, m4b, m4c, m4d⟩ := sm_of m4
  obtain ⟨q0a, q0b⟩ := mul_bd (a := N3) (b := D) (A := 200000000) (B := 200000000) (by omega) (by omega) (by omega) (by omega)
  have u0 : IntKind.i64.wrap (N3 * D) = N3 * D := IntWalk.i64_in _ (by omega)
  obtain ⟨q1a, q1b⟩ := mul_bd (a := N) (b := D3) (A := 200000000) (B := 200000000) (by omega) (by omega) (by omega) (by omega)
  have u1 : IntKind.i64.wrap (N * D3) = N * D3 := IntWalk.i64_in _ (by omega)
  obtain ⟨q2a, q2b⟩ := mul_bd (a := P3) (b := PD) (A := 200000000) (B := 200000000) (by omega) (by omega) (by omega) (by omega)
  have u2 : IntKind.i64.wrap (P3 * PD) = P3 * PD := IntWalk.i64_in _ (by omega)
  obtain ⟨q3a, q3b⟩ := mul_bd (a := PN) (b := Q3) (A := 200000000) (B := 200000000) (by omega) (by omega) (by omega) (by omega)
  have u3 : IntKind.i64.wrap (PN * Q3) = PN * Q3 := IntWalk.i64_in _ (by omega)
  clear m1 m2 m3 m4 m1a m1b m1c m1d m2a m2b m2c m2d m3a m3b m3c m3d m4a m4b m4c m4d
  clear hL hV hT1 hS hVs hT2 hM hVm hT3
  obtain ⟨W0, hW0, HW, HO, z0⟩ := one_new w #[.slice A ns.length c, .slice B ss.length d] 24
  have HO : Hid (Ow W0 w.heap.size (.slice A ns.length c) (.slice B ss.length d)) := HO
  clear z0
  have b0 := HO.out.c0
  have b1 := HO.out.c1
  go_enter Try.func14, Try.ntmps14
  go_upto_region 3 with (first
    | (go_at_call 15; with_reducible refine (HL.out _ (by repeat (first | with_reducible exact Below.refl _ _ | with_reducible assumption | refine below_drewN ?_ _ | with_reducible refine Below.drew ?_ | (refine Below.setCell ?_ (by first | (simp; done) | (simp; omega) | omega) _) | (refine Below.alloc ?_ (by first | (simp; done) | (simp; omega) | omega) _)))).mono ?_; rintro e v1 ⟨rfl, hB1⟩; rw [← hW0] at hB1; have HO := Lib.hid (Ow.below HO.out hB1); have b0 := HO.out.c0; have b1 := HO.out.c1; have HW : Hid (Below w.heap.size w _) := Lib.hid (below_step HW.out hB1); clear hB1)
    | (go_at_call 22; with_reducible refine (HV.out _ HW.out).mono ?_; rintro e v2 ⟨rfl, hB2⟩; have HO := Lib.hid (Ow.below HO.out hB2); have b0 := HO.out.c0; have b1 := HO.out.c1; have HW : Hid (Below w.heap.size w _) := Lib.hid (below_step HW.out hB2); clear hB2)
    | fail)
  go_upto_region 4 with (go_at_call 64; with_reducible refine (HT1.out _ HW.out).mono ?_; rintro e v3 ⟨rfl, hB3⟩; have HO := Lib.hid (Ow.below HO.out hB3); have b0 := HO.out.c0; have b1 := HO.out.c1; have HW : Hid (Below w.heap.size w _) := Lib.hid (below_step HW.out hB3); clear hB3)
  have HLT := HO.out.lt
  obtain ⟨X3, hX3, HW, HX, HY, HO⟩ : ∃ X, ((v3.alloc (.cells #[.int .i64 N, .int .i64 D] 28)).alloc (.cells #[.int .i64 PN, .int .i64 PD] 28)) = X ∧ Hid (Below w.heap.size w X) ∧ Hid (Rw X v3.heap.size (.int .i64 N) (.int .i64 D)) ∧ Hid (Rw X (v3.heap.size + 1) (.int .i64 PN) (.int .i64 PD)) ∧ Hid (Ow X w.heap.size (.slice A ns.length c) (.slice B ss.length d)) :=
    ⟨_, rfl, Lib.hid (Below.alloc (Below.alloc HW.out HW.out.size _) (by have := HW.out.size; simp; omega) _), Lib.hid ((Rw.new _ _ _).alloc _), Lib.hid (by have := Rw.new (v3.alloc (.cells #[.int .i64 N, .int .i64 D] 28)) (.int .i64 PN) (.int .i64 PD); simpa using this), Lib.hid ((HO.out.alloc _).alloc _)⟩
  rw [hX3]
  clear hX3 HLT
  obtain ⟨gx, hgx⟩ : ∃ g, v3.heap.size = g := ⟨_, rfl⟩
  try rw [hgx] at HX HY ⊢
  clear hgx
  have b0 := HO.out.c0
  have b1 := HO.out.c1
  have x0 := HX.out.c0
  have x1 := HX.out.c1
  have y0 := HY.out.c0
  have y1 := HY.out.c1
  go_upto_region 5 with (go_at_call 49; with_reducible refine (HS.out _ HW.out).mono ?_; rintro e v4 ⟨S4, s4, N4, n4, rfl, ho1, ho2, hB4⟩; have HO := Lib.hid (Ow.below HO.out hB4); have b0 := HO.out.c0; have b1 := HO.out.c1; have HX := Lib.hid (Rw.below HX.out hB4); have x0 := HX.out.c0; have x1 := HX.out.c1; have HY := Lib.hid (Rw.below HY.out hB4); have y0 := HY.out.c0; have y1 := HY.out.c1; have HW : Hid (Below w.heap.size w _) := Lib.hid (below_step HW.out hB4); have HO1 := Lib.hid ho1; have HO2 := Lib.hid ho2; clear ho1 ho2; clear hB4)
  have HLT := HY.out.lt
  obtain ⟨X4, hX4, HW, HZ, HO, HX, HY, HO1, HO2⟩ : ∃ X, (v4.alloc (.cells #[.slice S4 ss.length s4, .slice N4 ns.length n4] 24)) = X ∧ Hid (Below w.heap.size w X) ∧ Hid (Ow X v4.heap.size (.slice S4 ss.length s4) (.slice N4 ns.length n4)) ∧ Hid (Ow X w.heap.size (.slice A ns.length c) (.slice B ss.length d)) ∧ Hid (Rw X gx (.int .i64 N) (.int .i64 D)) ∧ Hid (Rw X (gx + 1) (.int .i64 PN) (.int .i64 PD)) ∧ Hid (Out X S4 s4 ss) ∧ Hid (Out X N4 n4 ns) :=
    ⟨_, rfl, Lib.hid (Below.alloc HW.out HW.out.size _), Lib.hid (Ow.new _ _ _), Lib.hid (HO.out.alloc _), Lib.hid (HX.out.alloc _), Lib.hid (HY.out.alloc _), Lib.hid (HO1.out.below (Below.alloc (Below.refl _ _) (Nat.le_refl _) _)), Lib.hid (HO2.out.below (Below.alloc (Below.refl _ _) (Nat.le_refl _) _))⟩
  rw [hX4]
  clear hX4 HLT
  obtain ⟨gz, hgz⟩ : ∃ g, v4.heap.size = g := ⟨_, rfl⟩
  try rw [hgz] at HZ ⊢
  clear hgz
  have b0 := HO.out.c0
  have b1 := HO.out.c1
  have x0 := HX.out.c0
  have x1 := HX.out.c1
  have y0 := HY.out.c0
  have y1 := HY.out.c1
  have z0 := HZ.out.c0
  have z1 := HZ.out.c1
  go_upto_region 7 with (go_at_call 22; with_reducible refine (HVs.out _ S4 s4 N4 n4 HO1.out HO2.out).mono ?_; rintro e v5 ⟨rfl, hB5⟩; have HO := Lib.hid (Ow.below HO.out hB5); have b0 := HO.out.c0; have b1 := HO.out.c1; have HX := Lib.hid (Rw.below HX.out hB5); have x0 := HX.out.c0; have x1 := HX.out.c1; have HY := Lib.hid (Rw.below HY.out hB5); have y0 := HY.out.c0; have y1 := HY.out.c1; have HO1 := Lib.hid (Out.below HO1.out hB5); have HO2 := Lib.hid (Out.below HO2.out hB5); have HZ := Lib.hid (Ow.below HZ.out hB5); have z0 := HZ.out.c0; have z1 := HZ.out.c1; have HW : Hid (Below w.heap.size w _) := Lib.hid (below_step HW.out hB5); clear hB5)
  go_upto_region 8 with (go_at_call 64; with_reducible refine (HT2.out _ S4 s4 N4 n4 HW.out HO1.out HO2.out).mono ?_; rintro e v6 ⟨rfl, hB6⟩; have HO := Lib.hid (Ow.below HO.out hB6); have b0 := HO.out.c0; have b1 := HO.out.c1; have HX := Lib.hid (Rw.below HX.out hB6); have x0 := HX.out.c0; have x1 := HX.out.c1; have HY := Lib.hid (Rw.below HY.out hB6); have y0 := HY.out.c0; have y1 := HY.out.c1; have HO1 := Lib.hid (Out.below HO1.out hB6); have HO2 := Lib.hid (Out.below HO2.out hB6); have HZ := Lib.hid (Ow.below HZ.out hB6); have z0 := HZ.out.c0; have z1 := HZ.out.c1; have HW : Hid (Below w.heap.size w _) := Lib.hid (below_step HW.out hB6); clear hB6)
  have HLT := HZ.out.lt
  obtain ⟨X6, hX6, HW, HP, HQ, HO, HX, HY, HO1, HO2, HZ⟩ : ∃ X, ((v6.alloc (.cells #[.int .i64 N, .int .i64 D] 28)).alloc (.cells #[.int .i64 PN, .int .i64 PD] 28)) = X ∧ Hid (Below w.heap.size w X) ∧ Hid (Rw X v6.heap.size (.int .i64 N) (.int .i64 D)) ∧ Hid (Rw X (v6.heap.size + 1) (.int .i64 PN) (.int .i64 PD)) ∧ Hid (Ow X w.heap.size (.slice A ns.length c) (.slice B ss.length d)) ∧ Hid (Rw X gx (.int .i64 N) (.int .i64 D)) ∧ Hid (Rw X (gx + 1) (.int .i64 PN) (.int .i64 PD)) ∧ Hid (Out X S4 s4 ss) ∧ Hid (Out X N4 n4 ns) ∧ Hid (Ow X gz (.slice S4 ss.length s4) (.slice N4 ns.length n4)) :=
    ⟨_, rfl, Lib.hid (Below.alloc (Below.alloc HW.out HW.out.size _) (by have := HW.out.size; simp; omega) _), Lib.hid ((Rw.new _ _ _).alloc _), Lib.hid (by have := Rw.new (v6.alloc (.cells #[.int .i64 N, .int .i64 D] 28)) (.int .i64 PN) (.int .i64 PD); simpa using this), Lib.hid ((HO.out.alloc _).alloc _), Lib.hid ((HX.out.alloc _).alloc _), Lib.hid ((HY.out.alloc _).alloc _), Lib.hid (HO1.out.below ((Below.alloc (Below.refl _ _) (Nat.le_refl _) _).alloc (by simp) _)), Lib.hid (HO2.out.below ((Below.alloc (Below.refl _ _) (Nat.le_refl _) _).alloc (by simp) _)), Lib.hid ((HZ.out.alloc _).alloc _)⟩
  rw [hX6]
  clear hX6 HLT
  obtain ⟨gp, hgp⟩ : ∃ g, v6.heap.size = g := ⟨_, rfl⟩
  try rw [hgp] at HP HQ ⊢
  clear hgp
  have b0 := HO.out.c0
  have b1 := HO.out.c1
  have x0 := HX.out.c0
  have x1 := HX.out.c1
  have y0 := HY.out.c0
  have y1 := HY.out.c1
  have z0 := HZ.out.c0
  have z1 := HZ.out.c1
  have p0 := HP.out.c0
  have p1 := HP.out.c1
  have q0 := HQ.out.c0
  have q1 := HQ.out.c1
  go_upto_region 12 with (fail)
  clear HO1 HO2 HZ HP HQ
  clear z0 z1 p0 p1 q0 q1
  go_upto_region 13 with (fail)
  have LHO := Lib.hid (show w.heap.size ≠ X6.heap.size by have := HO.out.lt; omega)
  have LHX := Lib.hid (show gx ≠ X6.heap.size by have := HX.out.lt; omega)
  have LHY := Lib.hid (show (gx + 1) ≠ X6.heap.size by have := HY.out.lt; omega)
  have LW := Lib.hid (show w.heap.size ≤ X6.heap.size from HW.out.size)
  go_region_held3 (fun W => W.cell? ⟨w.heap.size, 0, none⟩ = some (.slice A ns.length c) ∧ W.cell? ⟨w.heap.size, 1, none⟩ = some (.slice B ss.length d))
    ((first | with_reducible exact ⟨b0, b1⟩ | exact ⟨b0, b1⟩ | exact ⟨(Ow.alloc HO.out _).c0, (Ow.alloc HO.out _).c1⟩ | exact ⟨(ow_drew (Ow.alloc HO.out _)).c0, (ow_drew (Ow.alloc HO.out _)).c1⟩ | exact ⟨(Ow.other HO.out LHO.out).c0, (Ow.other HO.out LHO.out).c1⟩ | exact ⟨(ow_drew HO.out).c0, (ow_drew HO.out).c1⟩))
    ((first
    | (go_at_call 46; with_reducible refine (HM.out _ (Below.drew HW.out)).mono ?_; rintro e v7 ⟨N5, n5, S5, s5, rfl, ho1, ho2, hBm⟩; have HO := Lib.hid (Ow.below (ow_drew HO.out) hBm); have b0 := HO.out.c0; have b1 := HO.out.c1; have HX := Lib.hid (Rw.below (rw_drew HX.out) hBm); have x0 := HX.out.c0; have x1 := HX.out.c1; have HY := Lib.hid (Rw.below (rw_drew HY.out) hBm); have y0 := HY.out.c0; have y1 := HY.out.c1; have HW : Hid (Below w.heap.size w _) := Lib.hid (below_step (Below.drew HW.out) hBm); have HO1 := Lib.hid ho1; have HO2 := Lib.hid ho2; clear ho1 ho2 hBm)
    | (go_at_call 46; with_reducible refine (HM.out _ (Below.drew (Below.alloc HW.out HW.out.size (.cells #[.slice none 0 0, .slice none 0 0] 24)))).mono ?_; rintro e v7 ⟨N5, n5, S5, s5, rfl, ho1, ho2, hBm⟩; have HO := Lib.hid (Ow.below (ow_drew (Ow.alloc HO.out (.cells #[.slice none 0 0, .slice none 0 0] 24))) hBm); have b0 := HO.out.c0; have b1 := HO.out.c1; have HX := Lib.hid (Rw.below (rw_drew (Rw.alloc HX.out (.cells #[.slice none 0 0, .slice none 0 0] 24))) hBm); have x0 := HX.out.c0; have x1 := HX.out.c1; have HY := Lib.hid (Rw.below (rw_drew (Rw.alloc HY.out (.cells #[.slice none 0 0, .slice none 0 0] 24))) hBm); have y0 := HY.out.c0; have y1 := HY.out.c1; have HZ := Lib.hid (Ow.below (ow_drew (Ow.new X6 (.slice none 0 0) (.slice none 0 0))) hBm); have z0 := HZ.out.c0; have z1 := HZ.out.c1; have zf0 := HZ.out.f 0; have zf1 := HZ.out.f 1; have HW : Hid (Below w.heap.size w _) := Lib.hid (below_step (Below.drew (Below.alloc HW.out HW.out.size (.cells #[.slice none 0 0, .slice none 0 0] 24))) hBm); have HO1 := Lib.hid ho1; have HO2 := Lib.hid ho2; clear ho1 ho2 hBm)
    | fail))
  · skip
    have HLT := HY.out.lt
    obtain ⟨X7, hX7, HW, HZ, HO, HX, HY, HO1, HO2⟩ : ∃ X, (v7.alloc (.cells #[.slice N5 ms.length n5, .slice S5 ts.length s5] 24)) = X ∧ Hid (Below w.heap.size w X) ∧ Hid (Ow X v7.heap.size (.slice N5 ms.length n5) (.slice S5 ts.length s5)) ∧ Hid (Ow X w.heap.size (.slice A ns.length c) (.slice B ss.length d)) ∧ Hid (Rw X gx (.int .i64 N) (.int .i64 D)) ∧ Hid (Rw X (gx + 1) (.int .i64 PN) (.int .i64 PD)) ∧ Hid (Out X N5 n5 ms) ∧ Hid (Out X S5 s5 ts) :=
      ⟨_, rfl, Lib.hid (Below.alloc HW.out HW.out.size _), Lib.hid (Ow.new _ _ _), Lib.hid (HO.out.alloc _), Lib.hid (HX.out.alloc _), Lib.hid (HY.out.alloc _), Lib.hid (HO1.out.below (Below.alloc (Below.refl _ _) (Nat.le_refl _) _)), Lib.hid (HO2.out.below (Below.alloc (Below.refl _ _) (Nat.le_refl _) _))⟩
    rw [hX7]
    clear hX7 HLT
    obtain ⟨gz2, hgz2⟩ : ∃ g, v7.heap.size = g := ⟨_, rfl⟩
    try rw [hgz2] at HZ ⊢
    clear hgz2
    have b0 := HO.out.c0
    have b1 := HO.out.c1
    have x0 := HX.out.c0
    have x1 := HX.out.c1
    have y0 := HY.out.c0
    have y1 := HY.out.c1
    have z0 := HZ.out.c0
    have z1 := HZ.out.c1
    go_upto_region 16 with (fail)
    go_upto_region 18 with (go_at_call 22; with_reducible refine (HVm.out _ N5 n5 S5 s5 HO1.out HO2.out).mono ?_; rintro e v8 ⟨rfl, hB8⟩; have HO := Lib.hid (Ow.below HO.out hB8); have b0 := HO.out.c0; have b1 := HO.out.c1; have HX := Lib.hid (Rw.below HX.out hB8); have x0 := HX.out.c0; have x1 := HX.out.c1; have HY := Lib.hid (Rw.below HY.out hB8); have y0 := HY.out.c0; have y1 := HY.out.c1; have HO1 := Lib.hid (Out.below HO1.out hB8); have HO2 := Lib.hid (Out.below HO2.out hB8); have HZ := Lib.hid (Ow.below HZ.out hB8); have z0 := HZ.out.c0; have z1 := HZ.out.c1; have HW : Hid (Below w.heap.size w _) := Lib.hid (below_step HW.out hB8); clear hB8)
    go_upto_region 19 with (go_at_call 64; with_reducible refine (HT3.out _ N5 n5 S5 s5 HO1.out HO2.out).mono ?_; rintro e v9 ⟨rfl, hB9⟩; have HO := Lib.hid (Ow.below HO.out hB9); have b0 := HO.out.c0; have b1 := HO.out.c1; have HX := Lib.hid (Rw.below HX.out hB9); have x0 := HX.out.c0; have x1 := HX.out.c1; have HY := Lib.hid (Rw.below HY.out hB9); have y0 := HY.out.c0; have y1 := HY.out.c1; have HO1 := Lib.hid (Out.below HO1.out hB9); have HO2 := Lib.hid (Out.below HO2.out hB9); have HZ := Lib.hid (Ow.below HZ.out hB9); have z0 := HZ.out.c0; have z1 := HZ.out.c1; have HW : Hid (Below w.heap.size w _) := Lib.hid (below_step HW.out hB9); clear hB9)
    have HLT := HZ.out.lt
    obtain ⟨X9, hX9, HW, HR, HU, HO, HX, HY, HO1, HO2, HZ⟩ : ∃ X, ((v9.alloc (.cells #[.int .i64 N3, .int .i64 D3] 28)).alloc (.cells #[.int .i64 P3, .int .i64 Q3] 28)) = X ∧ Hid (Below w.heap.size w X) ∧ Hid (Rw X v9.heap.size (.int .i64 N3) (.int .i64 D3)) ∧ Hid (Rw X (v9.heap.size + 1) (.int .i64 P3) (.int .i64 Q3)) ∧ Hid (Ow X w.heap.size (.slice A ns.length c) (.slice B ss.length d)) ∧ Hid (Rw X gx (.int .i64 N) (.int .i64 D)) ∧ Hid (Rw X (gx + 1) (.int .i64 PN) (.int .i64 PD)) ∧ Hid (Out X N5 n5 ms) ∧ Hid (Out X S5 s5 ts) ∧ Hid (Ow X gz2 (.slice N5 ms.length n5) (.slice S5 ts.length s5)) :=
      ⟨_, rfl, Lib.hid (Below.alloc (Below.alloc HW.out HW.out.size _) (by have := HW.out.size; simp; omega) _), Lib.hid ((Rw.new _ _ _).alloc _), Lib.hid (by have := Rw.new (v9.alloc (.cells #[.int .i64 N3, .int .i64 D3] 28)) (.int .i64 P3) (.int .i64 Q3); simpa using this), Lib.hid ((HO.out.alloc _).alloc _), Lib.hid ((HX.out.alloc _).alloc _), Lib.hid ((HY.out.alloc _).alloc _), Lib.hid (HO1.out.below ((Below.alloc (Below.refl _ _) (Nat.le_refl _) _).alloc (by simp) _)), Lib.hid (HO2.out.below ((Below.alloc (Below.refl _ _) (Nat.le_refl _) _).alloc (by simp) _)), Lib.hid ((HZ.out.alloc _).alloc _)⟩
    rw [hX9]
    clear hX9 HLT
    obtain ⟨gr, hgr⟩ : ∃ g, v9.heap.size = g := ⟨_, rfl⟩
    try rw [hgr] at HR HU ⊢
    clear hgr
    have b0 := HO.out.c0
    have b1 := HO.out.c1
    have x0 := HX.out.c0
    have x1 := HX.out.c1
    have y0 := HY.out.c0
    have y1 := HY.out.c1
    have z0 := HZ.out.c0
    have z1 := HZ.out.c1
    have r0 := HR.out.c0
    have r1 := HR.out.c1
    have s0 := HU.out.c0
    have s1 := HU.out.c1
    go_wp2_with (first
      | (go_at_call 16; refine (awake_any _).mono ?_; rintro e v13 ⟨rfl, hB13⟩; have HW : Hid (Below w.heap.size w _) := Lib.hid (below_step HW.out hB13); clear hB13)
      | fail)
    go_ret
    exact ⟨rfl, HW.out⟩
  · skip
    obtain ⟨gz2, hgz2⟩ : ∃ g, X6.heap.size = g := ⟨_, rfl⟩
    rw [hgz2] at HZ LW LHO LHX LHY ⊢
    clear hgz2 z0 z1 zf0 zf1
    obtain ⟨X7, hX7, HW, HO, HX, HY, HO1, HO2, HZ⟩ : ∃ X, ((v7.setCell ⟨gz2, 0, none⟩ (.slice N5 ms.length n5)).setCell ⟨gz2, 1, none⟩ (.slice S5 ts.length s5)) = X ∧ Hid (Below w.heap.size w X) ∧ Hid (Ow X w.heap.size (.slice A ns.length c) (.slice B ss.length d)) ∧ Hid (Rw X gx (.int .i64 N) (.int .i64 D)) ∧ Hid (Rw X (gx + 1) (.int .i64 PN) (.int .i64 PD)) ∧ Hid (Out X N5 n5 ms) ∧ Hid (Out X S5 s5 ts) ∧ Hid (Ow X gz2 (.slice N5 ms.length n5) (.slice S5 ts.length s5)) :=
      ⟨_, rfl, Lib.hid (st2_below HW.out LW.out), Lib.hid (HO.out.other LHO.out), Lib.hid (HX.out.other LHX.out), Lib.hid (HY.out.other LHY.out), Lib.hid (ow_out HZ.out HO1.out), Lib.hid (ow_out HZ.out HO2.out), Lib.hid (HZ.out.set)⟩
    rw [hX7]
    clear hX7
    have b0 := HO.out.c0
    have b1 := HO.out.c1
    have x0 := HX.out.c0
    have x1 := HX.out.c1
    have y0 := HY.out.c0
    have y1 := HY.out.c1
    have z0 := HZ.out.c0
    have z1 := HZ.out.c1
    go_upto_region 16 with (fail)
    go_upto_region 18 with (go_at_call 22; with_reducible refine (HVm.out _ N5 n5 S5 s5 HO1.out HO2.out).mono ?_; rintro e v8 ⟨rfl, hB8⟩; have HO := Lib.hid (Ow.below HO.out hB8); have b0 := HO.out.c0; have b1 := HO.out.c1; have HX := Lib.hid (Rw.below HX.out hB8); have x0 := HX.out.c0; have x1 := HX.out.c1; have HY := Lib.hid (Rw.below HY.out hB8); have y0 := HY.out.c0; have y1 := HY.out.c1; have HO1 := Lib.hid (Out.below HO1.out hB8); have HO2 := Lib.hid (Out.below HO2.out hB8); have HZ := Lib.hid (Ow.below HZ.out hB8); have z0 := HZ.out.c0; have z1 := HZ.out.c1; have HW : Hid (Below w.heap.size w _) := Lib.hid (below_step HW.out hB8); clear hB8)
    go_upto_region 19 with (go_at_call 64; with_reducible refine (HT3.out _ N5 n5 S5 s5 HO1.out HO2.out).mono ?_; rintro e v9 ⟨rfl, hB9⟩; have HO := Lib.hid (Ow.below HO.out hB9); have b0 := HO.out.c0; have b1 := HO.out.c1; have HX := Lib.hid (Rw.below HX.out hB9); have x0 := HX.out.c0; have x1 := HX.out.c1; have HY := Lib.hid (Rw.below HY.out hB9); have y0 := HY.out.c0; have y1 := HY.out.c1; have HO1 := Lib.hid (Out.below HO1.out hB9); have HO2 := Lib.hid (Out.below HO2.out hB9); have HZ := Lib.hid (Ow.below HZ.out hB9); have z0 := HZ.out.c0; have z1 := HZ.out.c1; have HW : Hid (Below w.heap.size w _) := Lib.hid (below_step HW.out hB9); clear hB9)
    have HLT := HZ.out.lt
    obtain ⟨X9, hX9, HW, HR, HU, HO, HX, HY, HO1, HO2, HZ⟩ : ∃ X, ((v9.alloc (.cells #[.int .i64 N3, .int .i64 D3] 28)).alloc (.cells #[.int .i64 P3, .int .i64 Q3] 28)) = X ∧ Hid (Below w.heap.size w X) ∧ Hid (Rw X v9.heap.size (.int .i64 N3) (.int .i64 D3)) ∧ Hid (Rw X (v9.heap.size + 1) (.int .i64 P3) (.int .i64 Q3)) ∧ Hid (Ow X w.heap.size (.slice A ns.length c) (.slice B ss.length d)) ∧ Hid (Rw X gx (.int .i64 N) (.int .i64 D)) ∧ Hid (Rw X (gx + 1) (.int .i64 PN) (.int .i64 PD)) ∧ Hid (Out X N5 n5 ms) ∧ Hid (Out X S5 s5 ts) ∧ Hid (Ow X gz2 (.slice N5 ms.length n5) (.slice S5 ts.length s5)) :=
      ⟨_, rfl, Lib.hid (Below.alloc (Below.alloc HW.out HW.out.size _) (by have := HW.out.size; simp; omega) _), Lib.hid ((Rw.new _ _ _).alloc _), Lib.hid (by have := Rw.new (v9.alloc (.cells #[.int .i64 N3, .int .i64 D3] 28)) (.int .i64 P3) (.int .i64 Q3); simpa using this), Lib.hid ((HO.out.alloc _).alloc _), Lib.hid ((HX.out.alloc _).alloc _), Lib.hid ((HY.out.alloc _).alloc _), Lib.hid (HO1.out.below ((Below.alloc (Below.refl _ _) (Nat.le_refl _) _).alloc (by simp) _)), Lib.hid (HO2.out.below ((Below.alloc (Below.refl _ _) (Nat.le_refl _) _).alloc (by simp) _)), Lib.hid ((HZ.out.alloc _).alloc _)⟩
    rw [hX9]
    clear hX9 HLT
    obtain ⟨gr, hgr⟩ : ∃ g, v9.heap.size = g := ⟨_, rfl⟩
    try rw [hgr] at HR HU ⊢
    clear hgr
    have b0 := HO.out.c0
    have b1 := HO.out.c1
    have x0 := HX.out.c0
    have x1 := HX.out.c1
    have y0 := HY.out.c0
    have y1 := HY.out.c1
    have z0 := HZ.out.c0
    have z1 := HZ.out.c1
    have r0 := HR.out.c0
    have r1 := HR.out.c1
    have s0 := HU.out.c0
    have s1 := HU.out.c1
    go_wp2_with (first
      | (go_at_call 16; refine (awake_any _).mono ?_; rintro e v13 ⟨rfl, hB13⟩; have HW : Hid (Below w.heap.size w _) := Lib.hid (below_step HW.out hB13); clear hB13)
      | fail)
    go_ret
    exact ⟨rfl, HW.out⟩

theorem topWeigh_walk (A : Option Addr) (c : Nat) (ns : List Int) (B : Option Addr) (d : Nat) (ss : List Int) (cs : List Int) (C : Option Addr) (e1 : Nat) (ka kb : Int) (w : World)
    (hA : Ints w A ns) (_ : ns.length ≤ c) (_ : c ≤ maxLen) (hB : Ints w B ss) (_ : ss.length ≤ d) (_ : d ≤ maxLen) (hC : Ints w C cs) (_ : cs.length ≤ e1) (_ : e1 ≤ maxLen) (ha : (Lit.int .u8 ka).wf = true) (hb : (Lit.int .u8 kb).wf = true) :
    Calls Try.prog 14 #[(.agg #[.slice A ns.length c, .slice B ss.length d]), .slice C cs.length e1, .int .u8 ka, .int .u8 kb] w fun e w' => e = .returned (.bool true) ∧ Below w.heap.size w w' := by
  have ha2 : 0 ≤ ka ∧ ka ≤ 255 := by
    have h2 : (decide (0 ≤ ka) && decide (ka ≤ 255)) = true := ha
    simpa using h2
  have hb2 : 0 ≤ kb ∧ kb ≤ 255 := by
    have h2 : (decide (0 ≤ kb) && decide (kb ≤ 255)) = true := hb
    simpa using h2
  have L1 : SaysT 15 #[(.agg #[.slice A ns.length c, .slice B ss.length d])] w (decide (60 < ns.length) || decide (60 < ss.length)) := fun W _ => long_any ns ss A B c d W
  cases hl : (decide (60 < ns.length) || decide (60 < ss.length)) with
  | true => rw [hl] at L1; exact topw_long ns ss cs A B C c d e1 ka kb w L1
  | false =>
    rw [hl] at L1
    simp only [Bool.or_eq_false_iff, decide_eq_false_iff_not] at hl
    have h1 : ns.length ≤ 1000 := by omega
    have h2 : ss.length ≤ 1000 := by omega
    cases hcl : decide (60 < (cs.length : Int)) with
    | true => exact topw_long2 ns ss cs A B C c d e1 ka kb w L1 hcl
    | false =>
      have hc3 : cs.length ≤ 1000 := by have := of_decide_eq_false hcl; omega
      have V1 : SaysT 22 #[(.agg #[.slice A ns.length c, .slice B ss.length d])] w (odB ns ss) := fun W hW => refValid_any ns ss A B c d W (hA.below hW) (hB.below hW) h1 h2
      cases hv : odB ns ss with
      | false => rw [hv] at V1; exact topw_bad ns ss cs A B C c d e1 ka kb w L1 V1 hcl
      | true =>
        rw [hv] at V1
        have hvs : odB ss ns = true := by rw [odB_swap]; exact hv
        have ho := od_of hv
        have hle := ho.le
        have hl2 := ho.len
        have T1 := fun W (hW : Below w.heap.size w W) => told_any ns ss cs A B C c d e1 W (hA.below hW) (hB.below hW) (hC.below hW) hc3 hv
        have S1 := fun W (hW : Below w.heap.size w W) => wSwapped_yes ns ss A B c d W (hA.below hW) (hB.below hW) hv
        have Vs : ∀ W S' s' N' n', Out W S' s' ss → Out W N' n' ns → Calls Try.prog 22 #[.agg #[.slice S' ss.length s', .slice N' ns.length n']] W fun e w' => e = .returned (.bool true) ∧ Below W.heap.size W w' := fun W S' s' N' n' x y => by
          have h := refValid_any ss ns S' N' s' n' W x.ints y.ints h2 h1
          rw [hvs] at h
          exact h
        have T2 : ∀ W S' s' N' n', Below w.heap.size w W → Out W S' s' ss → Out W N' n' ns → Calls Try.prog 64 #[.agg #[.slice S' ss.length s', .slice N' ns.length n'], .slice C cs.length e1] W fun e w' => e = .returned (.tuple #[.agg #[.int .i64 (arN ns ss), .int .i64 (arD ns ss)], .agg #[.int .i64 (apN ns ss), .int .i64 (apD ns ss)], .bool true]) ∧ Below W.heap.size W w' := fun W S' s' N' n' hW x y => by
          have h := told_any ss ns cs S' N' C s' n' e1 W x.ints y.ints (hC.below hW) hc3 hvs
          unfold apN apD at h
          rw [(ar_swap ho).1, (ar_swap ho).2, (ap_swap' hl2).1, (ap_swap' hl2).2] at h
          exact h
        cases hs : decide ((ns.length : Int) < 2) with
        | true => exact topw_short ns ss cs A B C c d e1 ka kb _ _ _ _ w L1 V1 T1 S1 Vs T2 hcl hs
        | false =>
          have hn2 : 2 ≤ ns.length := by have := of_decide_eq_false hs; omega
          have hm0 := Int.emod_nonneg ka (show (ns.length : Int) - 1 ≠ 0 by omega)
          have hm1 := Int.emod_lt_of_pos ka (show 0 < (ns.length : Int) - 1 by omega)
          obtain ⟨a, ha1⟩ : ∃ a : Nat, ka % ((ns.length : Int) - 1) = a := ⟨(ka % ((ns.length : Int) - 1)).toNat, by omega⟩
          have hal : a + 1 < ns.length := by omega
          have hm2 := Int.emod_nonneg kb (show (ns.length : Int) - 1 - a ≠ 0 by omega)
          have hm3 := Int.emod_lt_of_pos kb (show 0 < (ns.length : Int) - 1 - a by omega)
          obtain ⟨b, hb1⟩ : ∃ b : Nat, (a : Int) + 1 + kb % ((ns.length : Int) - 1 - a) = b := ⟨((a : Int) + 1 + kb % ((ns.length : Int) - 1 - a)).toNat, by omega⟩
          have hbl : b < ns.length := by omega
          have hab : a < b := by omega
          have hbl2 : b < ss.length := by omega
          have M1 := fun W (hW : Below w.heap.size w W) => wMerged_yes ns ss A B c d a b W (hA.below hW) (hB.below hW) hv hab hbl
          have hml := mg_len (xs := ns) (a := a) hbl
          have hml2 := mg_len (xs := ss) (a := a) hbl2
          have Vm := fun W N' n' S' s' (x : Out W N' n' (mgL ns a b)) (y : Out W S' s' (mgL ss a b)) => refValid_any (mgL ns a b) (mgL ss a b) N' S' n' s' W x.ints y.ints (by omega) (by omega)
          cases hm : odB (mgL ns a b) (mgL ss a b) with
          | false =>
            rw [hm] at Vm
            exact topw_inv ns ss cs _ _ A B C c d e1 a b ka kb _ _ _ _ w L1 V1 T1 S1 Vs T2 M1 Vm hcl hs hn2 hle ha2 hb2 ha1 hb1 hal hbl
          | true =>
            rw [hm] at Vm
            have hmo := od_of hm
            obtain ⟨x1, x2⟩ := mg_more ho hab hbl
            have T3 : ∀ W N' n' S' s', Out W N' n' (mgL ns a b) → Out W S' s' (mgL ss a b) → _ := fun W N' n' S' s' x y => told_any (mgL ns a b) (mgL ss a b) [] N' S' none n' s' 0 W x.ints y.ints Ints.nil_ (Nat.zero_le _) hm
            exact topw_ok ns ss cs _ _ A B C c d e1 a b ka kb _ _ _ _ _ _ _ _ w L1 V1 T1 S1 Vs T2 M1 Vm T3 hcl hs hn2 hle ha2 hb2 ha1 hb1 hal hbl (sm_ar ho) (sm_ap ho) (sm_ar hmo) (sm_ap hmo) (decide_eq_true (Int.not_lt.1 x1)) (decide_eq_true (Int.not_lt.1 x2))
end Go.Proofs.Ytolpbbabmcpdkaa
