/-
  The walk of WeighOthers over what its calls are told by.
-/
import Derived.Test.YtolpbbabmcpdkaaMergedX
import Derived.Test.YtolpbbabmcpdkaaBothNo
import Derived.Test.YtolpbbabmcpdkaaRefBoth
import Derived.Test.YtolpbbabmcpdkaaSane
import Derived.Deep.CutRange
set_option linter.unusedVariables false
set_option linter.unusedSimpArgs false
namespace Go.Proofs.Ytolpbbabmcpdkaa
open Go.RowKit Go.Shelf

/-- A box of two values. -/
def Bx (W : World) (g : Nat) (u v : Value) : Prop := W.heap[g]? = some (.cells #[u, v] 24 (0, 0))
section
variable {W V : World} {g g' : Nat} {u v a b : Value}
theorem Bx.lt (h : Bx W g u v) : g < W.heap.size := (Array.getElem?_eq_some_iff.1 h).1
theorem Bx.below (h : Bx W g u v) (hb : Below W.heap.size W V) : Bx V g u v := (hb.block g h.lt).trans h
theorem Bx.alloc (h : Bx W g u v) (o : Obj) : Bx (W.alloc o) g u v := (Below.heap_alloc W o g h.lt).trans h
theorem Bx.new (W : World) (u v : Value) : Bx (W.alloc (.cells #[u, v] 24)) W.heap.size u v := heap_alloc_new W _
theorem Bx.other (h : Bx W g u v) (hne : g ≠ g') : Bx ((W.setCell ⟨g', 0, none⟩ a).setCell ⟨g', 1, none⟩ b) g u v :=
  (heap_setCell_other _ _ _ _ hne).trans ((heap_setCell_other _ _ _ _ hne).trans h)
theorem Bx.set (h : Bx W g u v) : Bx ((W.setCell ⟨g, 0, none⟩ a).setCell ⟨g, 1, none⟩ b) g a b := by
  unfold Bx at *
  rw [heap_setCell_same _ g 1 #[a, v] _ _ (by rw [heap_setCell_same _ g 0 #[u, v] _ _ h]; rfl)]; rfl
theorem Bx.c0 (h : Bx W g u v) : W.cell? ⟨g, 0, none⟩ = some u := blk_cell h 0 rfl
theorem Bx.f (h : Bx W g u v) (i : Nat) : W.frozen? ⟨g, i, none⟩ = false := blk_frozen h i
theorem Bx.c1 (h : Bx W g u v) : W.cell? ⟨g, 1, none⟩ = some v := blk_cell h 1 rfl
end
theorem out_set {W : World} {g g0 : Nat} {A A1 A2 : Option Addr} {c n1 k1 n2 k2 : Nat} {zs : List Int} {v u : Value} (h : Out W A c zs) (hx : Bx W g (.slice A1 n1 k1) (.slice A2 n2 k2)) :
    Out ((W.setCell ⟨g, 0, none⟩ v).setCell ⟨g, 1, none⟩ u) A c zs := by
  refine ⟨⟨h.ints.1, fun hn => ?_⟩, h.le, h.cap⟩
  obtain ⟨ad, e, hb, hc⟩ := h.ints.2 hn
  refine ⟨ad, e, by simpa using hb, fun j x hj => ?_⟩
  have hcx := hc j x hj
  have hxi : ∃ z, x = .int .i64 z := by
    rw [List.getElem?_map] at hj
    cases hz : zs[j]? with
    | none => rw [hz] at hj; cases hj
    | some z => rw [hz] at hj; exact ⟨z, (Option.some.inj hj).symm⟩
  obtain ⟨z, rfl⟩ := hxi
  rw [World.cell?_setCell_other _ _ _ _ (by intro e1; rw [← e1, hx.c1] at hcx; cases hcx), World.cell?_setCell_other _ _ _ _ (by intro e1; rw [← e1, hx.c0] at hcx; cases hcx)]
  exact hcx
/-- What a call that hands back odds with an error is told by. -/
abbrev Gives (f : FuncId) (args : Array Value) (w : World) (ps qs : List Int) (E : Int) : Prop :=
  ∀ W, Below w.heap.size w W → Calls Try.prog f args W fun e w' => ∃ N n S s, e = .returned (.tuple #[.agg #[.slice N ps.length n, .slice S qs.length s], .int .i64 E]) ∧ Out w' N n ps ∧ Out w' S s qs ∧ Below W.heap.size W w'
abbrev Says (f : FuncId) (args : Array Value) (w : World) (x : Bool) : Prop := ∀ W, Below w.heap.size w W → Calls Try.prog f args W fun e w' => e = .returned (.bool x) ∧ Below W.heap.size W w'

set_option maxRecDepth 100000 in
set_option maxHeartbeats 16000000 in
theorem others_core (ns ss ms ts : List Int) (A B C D : Option Addr) (c d e0 f0 : Nat) (a b : Int) (p1 q1 p2 q2 p3 q3 : List Int) (E1 E2 E3 : Int) (w : World)
    (hL1 : Says 15 #[(.agg #[.slice A ns.length c, .slice B ss.length d])] w false) (hL2 : Says 15 #[(.agg #[.slice C ms.length e0, .slice D ts.length f0])] w false)
    (hM : Gives 46 #[(.agg #[.slice A ns.length c, .slice B ss.length d]), .int .i64 a, .int .i64 b] w p1 q1 E1) (hM' : Gives 47 #[(.agg #[.slice A ns.length c, .slice B ss.length d]), .int .i64 a, .int .i64 b] w p1 q1 E1)
    (hS : Gives 49 #[(.agg #[.slice A ns.length c, .slice B ss.length d])] w p2 q2 E2) (hS' : Gives 50 #[(.agg #[.slice A ns.length c, .slice B ss.length d])] w p2 q2 E2)
    (hT : Gives 51 #[(.agg #[.slice A ns.length c, .slice B ss.length d]), (.agg #[.slice C ms.length e0, .slice D ts.length f0])] w p3 q3 E3) (hT' : Gives 52 #[(.agg #[.slice A ns.length c, .slice B ss.length d]), (.agg #[.slice C ms.length e0, .slice D ts.length f0])] w p3 q3 E3) :
    Calls Try.prog 7 #[(.agg #[.slice A ns.length c, .slice B ss.length d]), (.agg #[.slice C ms.length e0, .slice D ts.length f0]), .int .i64 a, .int .i64 b] w fun e w' => e = .returned (.bool true) ∧ Below w.heap.size w w' := by
  have HL1 := Lib.hid hL1
  have HL2 := Lib.hid hL2
  have HM := Lib.hid hM
  have HM' := Lib.hid hM'
  have HS := Lib.hid hS
  have HS' := Lib.hid hS'
  have HT := Lib.hid hT
  have HT' := Lib.hid hT'
  have TA : Hid True := Lib.hid trivial
  clear hL1 hL2 hM hM' hS hS' hT hT'
  obtain ⟨W0, hW0, HW, HO, HP, z0, z1⟩ := two_new w #[.slice A ns.length c, .slice B ss.length d] #[.slice C ms.length e0, .slice D ts.length f0] 24 24
  have HO : Hid (Bx W0 w.heap.size (.slice A ns.length c) (.slice B ss.length d)) := HO
  have HP : Hid (Bx W0 (w.heap.size + 1) (.slice C ms.length e0) (.slice D ts.length f0)) := HP
  clear z0 z1
  go_enter Try.func7, Try.ntmps7
  go_upto_region 3 with (first
    | (go_at_call 15; with_reducible refine (HL1.out _ (by repeat (first | with_reducible exact Below.refl _ _ | with_reducible assumption | refine below_drewN ?_ _ | with_reducible refine Below.drew ?_ | (refine Below.setCell ?_ (by first | (simp; done) | (simp; omega) | omega) _) | (refine Below.alloc ?_ (by first | (simp; done) | (simp; omega) | omega) _)))).mono ?_; rintro e v1 ⟨rfl, hB1⟩; rw [← hW0] at hB1; have HO := Lib.hid (Bx.below HO.out hB1); have b0 := HO.out.c0; have b1 := HO.out.c1; have HP := Lib.hid (Bx.below HP.out hB1); have g0 := HP.out.c0; have g1 := HP.out.c1; have HW : Hid (Below w.heap.size w _) := Lib.hid (below_step HW.out hB1); clear TA; clear hB1)
    | (go_at_call 15; with_reducible refine (HL2.out _ HW.out).mono ?_; rintro e v2 ⟨rfl, hB2⟩; have HO := Lib.hid (Bx.below HO.out hB2); have b0 := HO.out.c0; have b1 := HO.out.c1; have HP := Lib.hid (Bx.below HP.out hB2); have g0 := HP.out.c0; have g1 := HP.out.c1; have HW : Hid (Below w.heap.size w _) := Lib.hid (below_step HW.out hB2); clear hB2)
    | fail)
  go_upto_region 4 with (go_at_call 46; with_reducible refine (HM.out _ HW.out).mono ?_; rintro e v3 ⟨N3, n3, S3, s3, rfl, hON, hOS, hB3⟩; have HO := Lib.hid (Bx.below HO.out hB3); have b0 := HO.out.c0; have b1 := HO.out.c1; have HP := Lib.hid (Bx.below HP.out hB3); have g0 := HP.out.c0; have g1 := HP.out.c1; have HW : Hid (Below w.heap.size w _) := Lib.hid (below_step HW.out hB3); have HON3 := Lib.hid hON; have HOS3 := Lib.hid hOS; clear hON hOS; clear hB3)
  have zx : w.heap.size + 1 < v3.heap.size := HP.out.lt
  obtain ⟨X3, hX3, HO, HP, HX, HW, HON3, HOS3⟩ : ∃ X, v3.alloc (.cells #[.slice N3 p1.length n3, .slice S3 q1.length s3] 24) = X ∧ Hid (Bx X w.heap.size (.slice A ns.length c) (.slice B ss.length d)) ∧ Hid (Bx X (w.heap.size + 1) (.slice C ms.length e0) (.slice D ts.length f0)) ∧ Hid (Bx X v3.heap.size (.slice N3 p1.length n3) (.slice S3 q1.length s3)) ∧ Hid (Below w.heap.size w X) ∧ Hid (Out X N3 n3 p1) ∧ Hid (Out X S3 s3 q1) :=
    ⟨_, rfl, Lib.hid (HO.out.alloc _), Lib.hid (HP.out.alloc _), Lib.hid (Bx.new _ _ _), Lib.hid (Below.alloc HW.out HW.out.size _), Lib.hid (HON3.out.below (Below.alloc (Below.refl _ _) (Nat.le_refl _) _)), Lib.hid (HOS3.out.below (Below.alloc (Below.refl _ _) (Nat.le_refl _) _))⟩
  rw [hX3]
  clear hX3
  obtain ⟨gx, hgx⟩ : ∃ g, v3.heap.size = g := ⟨_, rfl⟩
  rw [hgx] at HX zx ⊢
  clear hgx
  have b0 := HO.out.c0
  have b1 := HO.out.c1
  have g0 := HP.out.c0
  have g1 := HP.out.c1
  have x0 := HX.out.c0
  have x1 := HX.out.c1
  have xf0 := Bx.f HX.out 0
  have xf1 := Bx.f HX.out 1
  go_upto_region 5 with (go_at_call 47; with_reducible refine (HM'.out _ HW.out).mono ?_; rintro e v4 ⟨N4, n4, S4, s4, rfl, hON, hOS, hB4⟩; have HO := Lib.hid (Bx.below HO.out hB4); have b0 := HO.out.c0; have b1 := HO.out.c1; have HP := Lib.hid (Bx.below HP.out hB4); have g0 := HP.out.c0; have g1 := HP.out.c1; have HX := Lib.hid (Bx.below HX.out hB4); have x0 := HX.out.c0; have x1 := HX.out.c1; have xf0 := Bx.f HX.out 0; have xf1 := Bx.f HX.out 1; have HW : Hid (Below w.heap.size w _) := Lib.hid (below_step HW.out hB4); have HON3 := Lib.hid (HON3.out.below hB4); have HOS3 := Lib.hid (HOS3.out.below hB4); have HON4 := Lib.hid hON; have HOS4 := Lib.hid hOS; clear hON hOS; clear hB4)
  have zy : gx < v4.heap.size := HX.out.lt
  obtain ⟨X4, hX4, HO, HP, HY, HW, HON4, HOS4, HX, HON3, HOS3⟩ : ∃ X, v4.alloc (.cells #[.slice N4 p1.length n4, .slice S4 q1.length s4] 24) = X ∧ Hid (Bx X w.heap.size (.slice A ns.length c) (.slice B ss.length d)) ∧ Hid (Bx X (w.heap.size + 1) (.slice C ms.length e0) (.slice D ts.length f0)) ∧ Hid (Bx X v4.heap.size (.slice N4 p1.length n4) (.slice S4 q1.length s4)) ∧ Hid (Below w.heap.size w X) ∧ Hid (Out X N4 n4 p1) ∧ Hid (Out X S4 s4 q1) ∧ Hid (Bx X gx (.slice N3 p1.length n3) (.slice S3 q1.length s3)) ∧ Hid (Out X N3 n3 p1) ∧ Hid (Out X S3 s3 q1) :=
    ⟨_, rfl, Lib.hid (HO.out.alloc _), Lib.hid (HP.out.alloc _), Lib.hid (Bx.new _ _ _), Lib.hid (Below.alloc HW.out HW.out.size _), Lib.hid (HON4.out.below (Below.alloc (Below.refl _ _) (Nat.le_refl _) _)), Lib.hid (HOS4.out.below (Below.alloc (Below.refl _ _) (Nat.le_refl _) _)), Lib.hid (HX.out.alloc _), Lib.hid (HON3.out.below (Below.alloc (Below.refl _ _) (Nat.le_refl _) _)), Lib.hid (HOS3.out.below (Below.alloc (Below.refl _ _) (Nat.le_refl _) _))⟩
  rw [hX4]
  clear hX4
  obtain ⟨gy, hgy⟩ : ∃ g, v4.heap.size = g := ⟨_, rfl⟩
  rw [hgy] at HY zy ⊢
  clear hgy
  have b0 := HO.out.c0
  have b1 := HO.out.c1
  have g0 := HP.out.c0
  have g1 := HP.out.c1
  have x0 := HX.out.c0
  have x1 := HX.out.c1
  have xf0 := Bx.f HX.out 0
  have xf1 := Bx.f HX.out 1
  have y0 := HY.out.c0
  have y1 := HY.out.c1
  have yf0 := Bx.f HY.out 0
  have yf1 := Bx.f HY.out 1
  go_upto_region 7 with (go_at_call 48; with_reducible refine (same_yes p1 q1 N3 S3 N4 S4 n3 s3 n4 s4 _ HON3.out HOS3.out HON4.out HOS4.out).mono ?_; rintro e v5 ⟨rfl, hB5⟩; have HO := Lib.hid (Bx.below HO.out hB5); have b0 := HO.out.c0; have b1 := HO.out.c1; have HP := Lib.hid (Bx.below HP.out hB5); have g0 := HP.out.c0; have g1 := HP.out.c1; have HX := Lib.hid (Bx.below HX.out hB5); have x0 := HX.out.c0; have x1 := HX.out.c1; have xf0 := Bx.f HX.out 0; have xf1 := Bx.f HX.out 1; have HY := Lib.hid (Bx.below HY.out hB5); have y0 := HY.out.c0; have y1 := HY.out.c1; have yf0 := Bx.f HY.out 0; have yf1 := Bx.f HY.out 1; have HW : Hid (Below w.heap.size w _) := Lib.hid (below_step HW.out hB5); clear hB5)
  go_upto_region 8 with (go_at_call 49; with_reducible refine (HS.out _ HW.out).mono ?_; rintro e v6 ⟨N6, n6, S6, s6, rfl, hON, hOS, hB6⟩; have HO := Lib.hid (Bx.below HO.out hB6); have b0 := HO.out.c0; have b1 := HO.out.c1; have HP := Lib.hid (Bx.below HP.out hB6); have g0 := HP.out.c0; have g1 := HP.out.c1; have HX := Lib.hid (Bx.below HX.out hB6); have x0 := HX.out.c0; have x1 := HX.out.c1; have xf0 := Bx.f HX.out 0; have xf1 := Bx.f HX.out 1; have HY := Lib.hid (Bx.below HY.out hB6); have y0 := HY.out.c0; have y1 := HY.out.c1; have yf0 := Bx.f HY.out 0; have yf1 := Bx.f HY.out 1; have HW : Hid (Below w.heap.size w _) := Lib.hid (below_step HW.out hB6); have HON6 := Lib.hid hON; have HOS6 := Lib.hid hOS; clear hON hOS; clear hB6)
  obtain ⟨X6, hX6, HO, HP, HX, HY, HW, HON6, HOS6⟩ : ∃ X, (v6.setCell ⟨gx, 0, none⟩ (.slice N6 p2.length n6)).setCell ⟨gx, 1, none⟩ (.slice S6 q2.length s6) = X ∧ Hid (Bx X w.heap.size (.slice A ns.length c) (.slice B ss.length d)) ∧ Hid (Bx X (w.heap.size + 1) (.slice C ms.length e0) (.slice D ts.length f0)) ∧ Hid (Bx X gx (.slice N6 p2.length n6) (.slice S6 q2.length s6)) ∧ Hid (Bx X gy (.slice N4 p1.length n4) (.slice S4 q1.length s4)) ∧ Hid (Below w.heap.size w X) ∧ Hid (Out X N6 n6 p2) ∧ Hid (Out X S6 s6 q2) :=
    ⟨_, rfl, Lib.hid (HO.out.other (by omega)), Lib.hid (HP.out.other (by omega)), Lib.hid HX.out.set, Lib.hid (HY.out.other (by omega)), Lib.hid ((HW.out.setCell (show w.heap.size ≤ gx by omega) _).setCell (show w.heap.size ≤ gx by omega) _), Lib.hid (out_set (g0 := 0) HON6.out HX.out), Lib.hid (out_set (g0 := 0) HOS6.out HX.out)⟩
  rw [hX6]
  clear hX6
  have b0 := HO.out.c0
  have b1 := HO.out.c1
  have g0 := HP.out.c0
  have g1 := HP.out.c1
  have x0 := HX.out.c0
  have x1 := HX.out.c1
  have xf0 := Bx.f HX.out 0
  have xf1 := Bx.f HX.out 1
  have y0 := HY.out.c0
  have y1 := HY.out.c1
  have yf0 := Bx.f HY.out 0
  have yf1 := Bx.f HY.out 1
  go_upto_region 9 with (go_at_call 50; with_reducible refine (HS'.out _ HW.out).mono ?_; rintro e v7 ⟨N7, n7, S7, s7, rfl, hON, hOS, hB7⟩; have HO := Lib.hid (Bx.below HO.out hB7); have b0 := HO.out.c0; have b1 := HO.out.c1; have HP := Lib.hid (Bx.below HP.out hB7); have g0 := HP.out.c0; have g1 := HP.out.c1; have HX := Lib.hid (Bx.below HX.out hB7); have x0 := HX.out.c0; have x1 := HX.out.c1; have xf0 := Bx.f HX.out 0; have xf1 := Bx.f HX.out 1; have HY := Lib.hid (Bx.below HY.out hB7); have y0 := HY.out.c0; have y1 := HY.out.c1; have yf0 := Bx.f HY.out 0; have yf1 := Bx.f HY.out 1; have HW : Hid (Below w.heap.size w _) := Lib.hid (below_step HW.out hB7); have HON6 := Lib.hid (HON6.out.below hB7); have HOS6 := Lib.hid (HOS6.out.below hB7); have HON7 := Lib.hid hON; have HOS7 := Lib.hid hOS; clear hON hOS; clear hB7)
  obtain ⟨X7, hX7, HO, HP, HY, HX, HW, HON7, HOS7, HON6, HOS6⟩ : ∃ X, (v7.setCell ⟨gy, 0, none⟩ (.slice N7 p2.length n7)).setCell ⟨gy, 1, none⟩ (.slice S7 q2.length s7) = X ∧ Hid (Bx X w.heap.size (.slice A ns.length c) (.slice B ss.length d)) ∧ Hid (Bx X (w.heap.size + 1) (.slice C ms.length e0) (.slice D ts.length f0)) ∧ Hid (Bx X gy (.slice N7 p2.length n7) (.slice S7 q2.length s7)) ∧ Hid (Bx X gx (.slice N6 p2.length n6) (.slice S6 q2.length s6)) ∧ Hid (Below w.heap.size w X) ∧ Hid (Out X N7 n7 p2) ∧ Hid (Out X S7 s7 q2) ∧ Hid (Out X N6 n6 p2) ∧ Hid (Out X S6 s6 q2) :=
    ⟨_, rfl, Lib.hid (HO.out.other (by omega)), Lib.hid (HP.out.other (by omega)), Lib.hid HY.out.set, Lib.hid (HX.out.other (by omega)), Lib.hid ((HW.out.setCell (show w.heap.size ≤ gy by omega) _).setCell (show w.heap.size ≤ gy by omega) _), Lib.hid (out_set (g0 := 0) HON7.out HY.out), Lib.hid (out_set (g0 := 0) HOS7.out HY.out), Lib.hid (out_set (g0 := 0) HON6.out HY.out), Lib.hid (out_set (g0 := 0) HOS6.out HY.out)⟩
  rw [hX7]
  clear hX7
  have b0 := HO.out.c0
  have b1 := HO.out.c1
  have g0 := HP.out.c0
  have g1 := HP.out.c1
  have x0 := HX.out.c0
  have x1 := HX.out.c1
  have xf0 := Bx.f HX.out 0
  have xf1 := Bx.f HX.out 1
  have y0 := HY.out.c0
  have y1 := HY.out.c1
  have yf0 := Bx.f HY.out 0
  have yf1 := Bx.f HY.out 1
  go_upto_region 11 with (go_at_call 48; with_reducible refine (same_yes p2 q2 N6 S6 N7 S7 n6 s6 n7 s7 _ HON6.out HOS6.out HON7.out HOS7.out).mono ?_; rintro e v8 ⟨rfl, hB8⟩; have HO := Lib.hid (Bx.below HO.out hB8); have b0 := HO.out.c0; have b1 := HO.out.c1; have HP := Lib.hid (Bx.below HP.out hB8); have g0 := HP.out.c0; have g1 := HP.out.c1; have HX := Lib.hid (Bx.below HX.out hB8); have x0 := HX.out.c0; have x1 := HX.out.c1; have xf0 := Bx.f HX.out 0; have xf1 := Bx.f HX.out 1; have HY := Lib.hid (Bx.below HY.out hB8); have y0 := HY.out.c0; have y1 := HY.out.c1; have yf0 := Bx.f HY.out 0; have yf1 := Bx.f HY.out 1; have HW : Hid (Below w.heap.size w _) := Lib.hid (below_step HW.out hB8); clear hB8)
  go_upto_region 12 with (go_at_call 51; with_reducible refine (HT.out _ HW.out).mono ?_; rintro e v9 ⟨N9, n9, S9, s9, rfl, hON, hOS, hB9⟩; have HO := Lib.hid (Bx.below HO.out hB9); have b0 := HO.out.c0; have b1 := HO.out.c1; have HP := Lib.hid (Bx.below HP.out hB9); have g0 := HP.out.c0; have g1 := HP.out.c1; have HX := Lib.hid (Bx.below HX.out hB9); have x0 := HX.out.c0; have x1 := HX.out.c1; have xf0 := Bx.f HX.out 0; have xf1 := Bx.f HX.out 1; have HY := Lib.hid (Bx.below HY.out hB9); have y0 := HY.out.c0; have y1 := HY.out.c1; have yf0 := Bx.f HY.out 0; have yf1 := Bx.f HY.out 1; have HW : Hid (Below w.heap.size w _) := Lib.hid (below_step HW.out hB9); have HON9 := Lib.hid hON; have HOS9 := Lib.hid hOS; clear hON hOS; clear hB9)
  obtain ⟨X9, hX9, HO, HP, HX, HY, HW, HON9, HOS9⟩ : ∃ X, (v9.setCell ⟨gx, 0, none⟩ (.slice N9 p3.length n9)).setCell ⟨gx, 1, none⟩ (.slice S9 q3.length s9) = X ∧ Hid (Bx X w.heap.size (.slice A ns.length c) (.slice B ss.length d)) ∧ Hid (Bx X (w.heap.size + 1) (.slice C ms.length e0) (.slice D ts.length f0)) ∧ Hid (Bx X gx (.slice N9 p3.length n9) (.slice S9 q3.length s9)) ∧ Hid (Bx X gy (.slice N7 p2.length n7) (.slice S7 q2.length s7)) ∧ Hid (Below w.heap.size w X) ∧ Hid (Out X N9 n9 p3) ∧ Hid (Out X S9 s9 q3) :=
    ⟨_, rfl, Lib.hid (HO.out.other (by omega)), Lib.hid (HP.out.other (by omega)), Lib.hid HX.out.set, Lib.hid (HY.out.other (by omega)), Lib.hid ((HW.out.setCell (show w.heap.size ≤ gx by omega) _).setCell (show w.heap.size ≤ gx by omega) _), Lib.hid (out_set (g0 := 0) HON9.out HX.out), Lib.hid (out_set (g0 := 0) HOS9.out HX.out)⟩
  rw [hX9]
  clear hX9
  have b0 := HO.out.c0
  have b1 := HO.out.c1
  have g0 := HP.out.c0
  have g1 := HP.out.c1
  have x0 := HX.out.c0
  have x1 := HX.out.c1
  have xf0 := Bx.f HX.out 0
  have xf1 := Bx.f HX.out 1
  have y0 := HY.out.c0
  have y1 := HY.out.c1
  have yf0 := Bx.f HY.out 0
  have yf1 := Bx.f HY.out 1
  go_upto_region 13 with (go_at_call 52; with_reducible refine (HT'.out _ HW.out).mono ?_; rintro e v10 ⟨N10, n10, S10, s10, rfl, hON, hOS, hB10⟩; have HO := Lib.hid (Bx.below HO.out hB10); have b0 := HO.out.c0; have b1 := HO.out.c1; have HP := Lib.hid (Bx.below HP.out hB10); have g0 := HP.out.c0; have g1 := HP.out.c1; have HX := Lib.hid (Bx.below HX.out hB10); have x0 := HX.out.c0; have x1 := HX.out.c1; have xf0 := Bx.f HX.out 0; have xf1 := Bx.f HX.out 1; have HY := Lib.hid (Bx.below HY.out hB10); have y0 := HY.out.c0; have y1 := HY.out.c1; have yf0 := Bx.f HY.out 0; have yf1 := Bx.f HY.out 1; have HW : Hid (Below w.heap.size w _) := Lib.hid (below_step HW.out hB10); have HON9 := Lib.hid (HON9.out.below hB10); have HOS9 := Lib.hid (HOS9.out.below hB10); have HON10 := Lib.hid hON; have HOS10 := Lib.hid hOS; clear hON hOS; clear hB10)
  obtain ⟨X10, hX10, HO, HP, HY, HX, HW, HON10, HOS10, HON9, HOS9⟩ : ∃ X, (v10.setCell ⟨gy, 0, none⟩ (.slice N10 p3.length n10)).setCell ⟨gy, 1, none⟩ (.slice S10 q3.length s10) = X ∧ Hid (Bx X w.heap.size (.slice A ns.length c) (.slice B ss.length d)) ∧ Hid (Bx X (w.heap.size + 1) (.slice C ms.length e0) (.slice D ts.length f0)) ∧ Hid (Bx X gy (.slice N10 p3.length n10) (.slice S10 q3.length s10)) ∧ Hid (Bx X gx (.slice N9 p3.length n9) (.slice S9 q3.length s9)) ∧ Hid (Below w.heap.size w X) ∧ Hid (Out X N10 n10 p3) ∧ Hid (Out X S10 s10 q3) ∧ Hid (Out X N9 n9 p3) ∧ Hid (Out X S9 s9 q3) :=
    ⟨_, rfl, Lib.hid (HO.out.other (by omega)), Lib.hid (HP.out.other (by omega)), Lib.hid HY.out.set, Lib.hid (HX.out.other (by omega)), Lib.hid ((HW.out.setCell (show w.heap.size ≤ gy by omega) _).setCell (show w.heap.size ≤ gy by omega) _), Lib.hid (out_set (g0 := 0) HON10.out HY.out), Lib.hid (out_set (g0 := 0) HOS10.out HY.out), Lib.hid (out_set (g0 := 0) HON9.out HY.out), Lib.hid (out_set (g0 := 0) HOS9.out HY.out)⟩
  rw [hX10]
  clear hX10
  have b0 := HO.out.c0
  have b1 := HO.out.c1
  have g0 := HP.out.c0
  have g1 := HP.out.c1
  have x0 := HX.out.c0
  have x1 := HX.out.c1
  have xf0 := Bx.f HX.out 0
  have xf1 := Bx.f HX.out 1
  have y0 := HY.out.c0
  have y1 := HY.out.c1
  have yf0 := Bx.f HY.out 0
  have yf1 := Bx.f HY.out 1
  go_wp2_with (first
    | (go_at_call 48; with_reducible refine (same_yes p3 q3 N9 S9 N10 S10 n9 s9 n10 s10 _ HON9.out HOS9.out HON10.out HOS10.out).mono ?_; rintro e v11 ⟨rfl, hB11⟩; have HO := Lib.hid (Bx.below HO.out hB11); have b0 := HO.out.c0; have b1 := HO.out.c1; have HP := Lib.hid (Bx.below HP.out hB11); have g0 := HP.out.c0; have g1 := HP.out.c1; have HX := Lib.hid (Bx.below HX.out hB11); have x0 := HX.out.c0; have x1 := HX.out.c1; have xf0 := Bx.f HX.out 0; have xf1 := Bx.f HX.out 1; have HY := Lib.hid (Bx.below HY.out hB11); have y0 := HY.out.c0; have y1 := HY.out.c1; have yf0 := Bx.f HY.out 0; have yf1 := Bx.f HY.out 1; have HW : Hid (Below w.heap.size w _) := Lib.hid (below_step HW.out hB11); clear hB11)
    | (go_at_call 16; refine (awake_any _).mono ?_; rintro e v12 ⟨rfl, hB12⟩; have HW : Hid (Below w.heap.size w _) := Lib.hid (below_step HW.out hB12); clear hB12)
    | fail)
  go_ret
  exact ⟨rfl, HW.out⟩
end Go.Proofs.Ytolpbbabmcpdkaa
