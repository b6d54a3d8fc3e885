/-
  The walk of WeighRows: it returns true, whatever it is given.
-/
import Derived.Test.YtolpbbabmcpdkaaRefRows
import Derived.Test.YtolpbbabmcpdkaaRefBest
import Derived.Test.YtolpbbabmcpdkaaSameI
import Derived.Test.YtolpbbabmcpdkaaSane
import Derived.Deep.CutRange
set_option linter.unusedVariables false
set_option linter.unusedSimpArgs false
namespace Go.Proofs.Ytolpbbabmcpdkaa
open Go.RowKit Go.Shelf

/-- A box of odds. -/
def Oz (W : World) (g : Nat) (u v : Value) : Prop := W.heap[g]? = some (.cells #[u, v] 24 (0, 0))
section
variable {W V : World} {g g' : Nat} {u v a b : Value}
theorem Oz.lt (h : Oz W g u v) : g < W.heap.size := (Array.getElem?_eq_some_iff.1 h).1
theorem Oz.below (h : Oz W g u v) (hb : Below W.heap.size W V) : Oz V g u v := (hb.block g h.lt).trans h
theorem Oz.alloc (h : Oz W g u v) (o : Obj) : Oz (W.alloc o) g u v := (Below.heap_alloc W o g h.lt).trans h
theorem Oz.new (W : World) (u v : Value) : Oz (W.alloc (.cells #[u, v] 24)) W.heap.size u v := heap_alloc_new W _
theorem Oz.other (h : Oz W g u v) (hne : g ≠ g') : Oz ((W.setCell ⟨g', 0, none⟩ a).setCell ⟨g', 1, none⟩ b) g u v :=
  (heap_setCell_other _ _ _ _ hne).trans ((heap_setCell_other _ _ _ _ hne).trans h)
theorem Oz.c0 (h : Oz W g u v) : W.cell? ⟨g, 0, none⟩ = some u := blk_cell h 0 rfl
theorem Oz.f (h : Oz W g u v) (i : Nat) : W.frozen? ⟨g, i, none⟩ = false := blk_frozen h i
theorem Oz.c1 (h : Oz W g u v) : W.cell? ⟨g, 1, none⟩ = some v := blk_cell h 1 rfl
end
/-- A box of a ratio. -/
def Rz (W : World) (g : Nat) (u v : Value) : Prop := W.heap[g]? = some (.cells #[u, v] 28 (0, 0))
section
variable {W V : World} {g g' : Nat} {u v a b : Value}
theorem Rz.lt (h : Rz W g u v) : g < W.heap.size := (Array.getElem?_eq_some_iff.1 h).1
theorem Rz.below (h : Rz W g u v) (hb : Below W.heap.size W V) : Rz V g u v := (hb.block g h.lt).trans h
theorem Rz.alloc (h : Rz W g u v) (o : Obj) : Rz (W.alloc o) g u v := (Below.heap_alloc W o g h.lt).trans h
theorem Rz.new (W : World) (u v : Value) : Rz (W.alloc (.cells #[u, v] 28)) W.heap.size u v := heap_alloc_new W _
theorem Rz.other (h : Rz W g u v) (hne : g ≠ g') : Rz ((W.setCell ⟨g', 0, none⟩ a).setCell ⟨g', 1, none⟩ b) g u v :=
  (heap_setCell_other _ _ _ _ hne).trans ((heap_setCell_other _ _ _ _ hne).trans h)
theorem Rz.set (h : Rz W g u v) : Rz ((W.setCell ⟨g, 0, none⟩ a).setCell ⟨g, 1, none⟩ b) g a b := by
  unfold Rz at *
  rw [heap_setCell_same _ g 1 #[a, v] _ _ (by rw [heap_setCell_same _ g 0 #[u, v] _ _ h]; rfl)]; rfl
theorem Rz.c0 (h : Rz W g u v) : W.cell? ⟨g, 0, none⟩ = some u := blk_cell h 0 rfl
theorem Rz.f (h : Rz W g u v) (i : Nat) : W.frozen? ⟨g, i, none⟩ = false := blk_frozen h i
theorem Rz.c1 (h : Rz W g u v) : W.cell? ⟨g, 1, none⟩ = some v := blk_cell h 1 rfl
end
abbrev SaysR (f : FuncId) (args : Array Value) (w : World) (x : Bool) : Prop := ∀ W, Below w.heap.size w W → Calls Try.prog f args W fun e w' => e = .returned (.bool x) ∧ Below W.heap.size W w'
abbrev GivP (f : FuncId) (args : Array Value) (w : World) (N D E : Int) : Prop :=
  ∀ W, Below w.heap.size w W → Calls Try.prog f args W fun e w' => e = .returned (.tuple #[.agg #[.int .i64 N, .int .i64 D], .int .i64 E]) ∧ Below W.heap.size W w'
abbrev GivL (f : FuncId) (args : Array Value) (w : World) (L : List Int) (E : Int) : Prop :=
  ∀ W, Below w.heap.size w W → Calls Try.prog f args W fun e w' => ∃ A' c', e = .returned (.tuple #[.slice A' L.length c', .int .i64 E]) ∧ Out w' A' c' L ∧ Below W.heap.size W w'
theorem out_len {w : World} {A : Option Addr} {c : Nat} {zs : List Int} (h : Out w A c zs) : zs.length ≤ maxLen := Nat.le_trans h.le h.cap

set_option maxRecDepth 100000 in
set_option maxHeartbeats 16000000 in
theorem rows_core (ns ss : List Int) (A B : Option Addr) (c d : Nat) (k p q : Int) (L1 L2 L4 : List Int) (E1 E2 E3 E4 N D : Int) (w : World)
    (hL : SaysR 15 #[(.agg #[.slice A ns.length c, .slice B ss.length d])] w false)
    (hRow : GivL 23 #[(.agg #[.slice A ns.length c, .slice B ss.length d])] w L1 E1) (hRow' : GivL 24 #[(.agg #[.slice A ns.length c, .slice B ss.length d])] w L1 E1)
    (hCut : GivL 26 #[(.agg #[.slice A ns.length c, .slice B ss.length d]), .int .i64 k] w L2 E2) (hCut' : GivL 27 #[(.agg #[.slice A ns.length c, .slice B ss.length d]), .int .i64 k] w L2 E2)
    (hBest : GivL 30 #[(.agg #[.slice A ns.length c, .slice B ss.length d]), (.agg #[.int .i64 p, .int .i64 q])] w L4 E4) (hBest' : GivL 31 #[(.agg #[.slice A ns.length c, .slice B ss.length d]), (.agg #[.int .i64 p, .int .i64 q])] w L4 E4)
    (hPrice : GivP 28 #[(.agg #[.slice A ns.length c, .slice B ss.length d]), .int .i64 k] w N D E3) (hPrice' : GivP 29 #[(.agg #[.slice A ns.length c, .slice B ss.length d]), .int .i64 k] w N D E3) :
    Calls Try.prog 4 #[(.agg #[.slice A ns.length c, .slice B ss.length d]), .int .i64 k, (.agg #[.int .i64 p, .int .i64 q])] w fun e w' => e = .returned (.bool true) ∧ Below w.heap.size w w' := by
  have HL := Lib.hid hL
  have H1 := Lib.hid hRow
  have H1' := Lib.hid hRow'
  have H2 := Lib.hid hCut
  have H2' := Lib.hid hCut'
  have H3 := Lib.hid hPrice
  have H3' := Lib.hid hPrice'
  have H4 := Lib.hid hBest
  have H4' := Lib.hid hBest'
  clear hL hRow hRow' hCut hCut' hPrice hPrice' hBest hBest'
  obtain ⟨W0, hW0, HW, HO, HR, z0, z1⟩ := two_new w #[.slice A ns.length c, .slice B ss.length d] #[.int .i64 p, .int .i64 q] 24 28
  have HO : Hid (Oz W0 w.heap.size (.slice A ns.length c) (.slice B ss.length d)) := HO
  have HR : Hid (Rz W0 (w.heap.size + 1) (.int .i64 p) (.int .i64 q)) := HR
  clear z0 z1
  go_enter Try.func4, Try.ntmps4
  go_upto_region 3 with (go_at_call 15; with_reducible refine (HL.out _ (by repeat (first | with_reducible exact Below.refl _ _ | with_reducible assumption | refine below_drewN ?_ _ | with_reducible refine Below.drew ?_ | (refine Below.setCell ?_ (by first | (simp; done) | (simp; omega) | omega) _) | (refine Below.alloc ?_ (by first | (simp; done) | (simp; omega) | omega) _)))).mono ?_; rintro e v1 ⟨rfl, hB1⟩; rw [← hW0] at hB1; have HO := Lib.hid (Oz.below HO.out hB1); have b0 := HO.out.c0; have b1 := HO.out.c1; have HR := Lib.hid (Rz.below HR.out hB1); have r0 := HR.out.c0; have r1 := HR.out.c1; have HW : Hid (Below w.heap.size w _) := Lib.hid (below_step HW.out hB1); clear hB1)
  go_upto_region 4 with (go_at_call 23; with_reducible refine (H1.out _ HW.out).mono ?_; rintro e v2 ⟨A2, c2, rfl, ho, hB2⟩; have HO := Lib.hid (Oz.below HO.out hB2); have b0 := HO.out.c0; have b1 := HO.out.c1; have HR := Lib.hid (Rz.below HR.out hB2); have r0 := HR.out.c0; have r1 := HR.out.c1; have HW : Hid (Below w.heap.size w _) := Lib.hid (below_step HW.out hB2); have HO1 := Lib.hid ho; clear ho; clear hB2)
  go_upto_region 5 with (go_at_call 24; with_reducible refine (H1'.out _ HW.out).mono ?_; rintro e v3 ⟨A3, c3, rfl, ho, hB3⟩; have HO := Lib.hid (Oz.below HO.out hB3); have b0 := HO.out.c0; have b1 := HO.out.c1; have HR := Lib.hid (Rz.below HR.out hB3); have r0 := HR.out.c0; have r1 := HR.out.c1; have HO1 := Lib.hid (Out.below HO1.out hB3); have HW : Hid (Below w.heap.size w _) := Lib.hid (below_step HW.out hB3); have HO2 := Lib.hid ho; clear ho; clear hB3)
  go_upto_region 7 with (go_at_call 25; with_reducible refine (sameInts_same L1 A2 A3 c2 c3 _ HO1.out.ints HO2.out.ints (out_len HO1.out)).mono ?_; rintro e v4 ⟨rfl, hB4⟩; have HO := Lib.hid (Oz.below HO.out hB4); have b0 := HO.out.c0; have b1 := HO.out.c1; have HR := Lib.hid (Rz.below HR.out hB4); have r0 := HR.out.c0; have r1 := HR.out.c1; have HW : Hid (Below w.heap.size w _) := Lib.hid (below_step HW.out hB4); clear hB4)
  clear HO1 HO2
  go_upto_region 8 with (go_at_call 26; with_reducible refine (H2.out _ HW.out).mono ?_; rintro e v5 ⟨A5, c5, rfl, ho, hB5⟩; have HO := Lib.hid (Oz.below HO.out hB5); have b0 := HO.out.c0; have b1 := HO.out.c1; have HR := Lib.hid (Rz.below HR.out hB5); have r0 := HR.out.c0; have r1 := HR.out.c1; have HW : Hid (Below w.heap.size w _) := Lib.hid (below_step HW.out hB5); have HO1 := Lib.hid ho; clear ho; clear hB5)
  go_upto_region 9 with (go_at_call 27; with_reducible refine (H2'.out _ HW.out).mono ?_; rintro e v6 ⟨A6, c6, rfl, ho, hB6⟩; have HO := Lib.hid (Oz.below HO.out hB6); have b0 := HO.out.c0; have b1 := HO.out.c1; have HR := Lib.hid (Rz.below HR.out hB6); have r0 := HR.out.c0; have r1 := HR.out.c1; have HO1 := Lib.hid (Out.below HO1.out hB6); have HW : Hid (Below w.heap.size w _) := Lib.hid (below_step HW.out hB6); have HO2 := Lib.hid ho; clear ho; clear hB6)
  go_upto_region 10 with (go_at_call 28; with_reducible refine (H3.out _ HW.out).mono ?_; rintro e v7 ⟨rfl, hB7⟩; have HO := Lib.hid (Oz.below HO.out hB7); have b0 := HO.out.c0; have b1 := HO.out.c1; have HR := Lib.hid (Rz.below HR.out hB7); have r0 := HR.out.c0; have r1 := HR.out.c1; have HO1 := Lib.hid (Out.below HO1.out hB7); have HO2 := Lib.hid (Out.below HO2.out hB7); have HW : Hid (Below w.heap.size w _) := Lib.hid (below_step HW.out hB7); clear hB7)
  have HLT := HR.out.lt
  obtain ⟨X7, hX7, HW, HX, HO, HR, HO1, HO2⟩ : ∃ X, (v7.alloc (.cells #[.int .i64 N, .int .i64 D] 28)) = X ∧ Hid (Below w.heap.size w X) ∧ Hid (Rz X v7.heap.size (.int .i64 N) (.int .i64 D)) ∧ Hid (Oz X w.heap.size (.slice A ns.length c) (.slice B ss.length d)) ∧ Hid (Rz X (w.heap.size + 1) (.int .i64 p) (.int .i64 q)) ∧ Hid (Out X A5 c5 L2) ∧ Hid (Out X A6 c6 L2) :=
    ⟨_, rfl, Lib.hid (Below.alloc HW.out HW.out.size _), Lib.hid (Rz.new _ _ _), Lib.hid (HO.out.alloc _), Lib.hid (HR.out.alloc _), Lib.hid (HO1.out.below (Below.alloc (Below.refl _ _) (Nat.le_refl _) _)), Lib.hid (HO2.out.below (Below.alloc (Below.refl _ _) (Nat.le_refl _) _))⟩
  rw [hX7]
  clear hX7 HLT
  obtain ⟨gx, hgx⟩ : ∃ g, v7.heap.size = g := ⟨_, rfl⟩
  rw [hgx] at HX ⊢
  clear hgx
  have x0 := HX.out.c0
  have x1 := HX.out.c1
  have b0 := HO.out.c0
  have b1 := HO.out.c1
  have r0 := HR.out.c0
  have r1 := HR.out.c1
  go_upto_region 11 with (go_at_call 29; with_reducible refine (H3'.out _ HW.out).mono ?_; rintro e v8 ⟨rfl, hB8⟩; have HO := Lib.hid (Oz.below HO.out hB8); have b0 := HO.out.c0; have b1 := HO.out.c1; have HR := Lib.hid (Rz.below HR.out hB8); have r0 := HR.out.c0; have r1 := HR.out.c1; have HX := Lib.hid (Rz.below HX.out hB8); have x0 := HX.out.c0; have x1 := HX.out.c1; have HO1 := Lib.hid (Out.below HO1.out hB8); have HO2 := Lib.hid (Out.below HO2.out hB8); have HW : Hid (Below w.heap.size w _) := Lib.hid (below_step HW.out hB8); clear hB8)
  have HLT := HX.out.lt
  obtain ⟨X8, hX8, HW, HY, HO, HR, HX, HO1, HO2⟩ : ∃ X, (v8.alloc (.cells #[.int .i64 N, .int .i64 D] 28)) = X ∧ Hid (Below w.heap.size w X) ∧ Hid (Rz X v8.heap.size (.int .i64 N) (.int .i64 D)) ∧ Hid (Oz X w.heap.size (.slice A ns.length c) (.slice B ss.length d)) ∧ Hid (Rz X (w.heap.size + 1) (.int .i64 p) (.int .i64 q)) ∧ Hid (Rz X gx (.int .i64 N) (.int .i64 D)) ∧ Hid (Out X A5 c5 L2) ∧ Hid (Out X A6 c6 L2) :=
    ⟨_, rfl, Lib.hid (Below.alloc HW.out HW.out.size _), Lib.hid (Rz.new _ _ _), Lib.hid (HO.out.alloc _), Lib.hid (HR.out.alloc _), Lib.hid (HX.out.alloc _), Lib.hid (HO1.out.below (Below.alloc (Below.refl _ _) (Nat.le_refl _) _)), Lib.hid (HO2.out.below (Below.alloc (Below.refl _ _) (Nat.le_refl _) _))⟩
  rw [hX8]
  clear hX8 HLT
  obtain ⟨gy, hgy⟩ : ∃ g, v8.heap.size = g := ⟨_, rfl⟩
  rw [hgy] at HY ⊢
  clear hgy
  have y0 := HY.out.c0
  have y1 := HY.out.c1
  have b0 := HO.out.c0
  have b1 := HO.out.c1
  have r0 := HR.out.c0
  have r1 := HR.out.c1
  have x0 := HX.out.c0
  have x1 := HX.out.c1
  go_upto_region 13 with (go_at_call 25; with_reducible refine (sameInts_same L2 A5 A6 c5 c6 _ HO1.out.ints HO2.out.ints (out_len HO1.out)).mono ?_; rintro e v9 ⟨rfl, hB9⟩; have HO := Lib.hid (Oz.below HO.out hB9); have b0 := HO.out.c0; have b1 := HO.out.c1; have HR := Lib.hid (Rz.below HR.out hB9); have r0 := HR.out.c0; have r1 := HR.out.c1; have HX := Lib.hid (Rz.below HX.out hB9); have x0 := HX.out.c0; have x1 := HX.out.c1; have HY := Lib.hid (Rz.below HY.out hB9); have y0 := HY.out.c0; have y1 := HY.out.c1; have HW : Hid (Below w.heap.size w _) := Lib.hid (below_step HW.out hB9); clear hB9)
  clear HO1 HO2
  go_upto_region 14 with (go_at_call 30; with_reducible refine (H4.out _ HW.out).mono ?_; rintro e v10 ⟨A10, c10, rfl, ho, hB10⟩; have HO := Lib.hid (Oz.below HO.out hB10); have b0 := HO.out.c0; have b1 := HO.out.c1; have HR := Lib.hid (Rz.below HR.out hB10); have r0 := HR.out.c0; have r1 := HR.out.c1; have HW : Hid (Below w.heap.size w _) := Lib.hid (below_step HW.out hB10); have HO1 := Lib.hid ho; clear ho; clear hB10)
  go_upto_region 15 with (go_at_call 31; with_reducible refine (H4'.out _ HW.out).mono ?_; rintro e v11 ⟨A11, c11, rfl, ho, hB11⟩; have HO := Lib.hid (Oz.below HO.out hB11); have b0 := HO.out.c0; have b1 := HO.out.c1; have HR := Lib.hid (Rz.below HR.out hB11); have r0 := HR.out.c0; have r1 := HR.out.c1; have HO1 := Lib.hid (Out.below HO1.out hB11); have HW : Hid (Below w.heap.size w _) := Lib.hid (below_step HW.out hB11); have HO2 := Lib.hid ho; clear ho; clear hB11)
  go_wp2_with (first
    | (go_at_call 25; with_reducible refine (sameInts_same L4 A10 A11 c10 c11 _ HO1.out.ints HO2.out.ints (out_len HO1.out)).mono ?_; rintro e v12 ⟨rfl, hB12⟩; have HO := Lib.hid (Oz.below HO.out hB12); have b0 := HO.out.c0; have b1 := HO.out.c1; have HR := Lib.hid (Rz.below HR.out hB12); have r0 := HR.out.c0; have r1 := HR.out.c1; have HW : Hid (Below w.heap.size w _) := Lib.hid (below_step HW.out hB12); clear hB12)
    | (go_at_call 16; refine (awake_any _).mono ?_; rintro e v13 ⟨rfl, hB13⟩; have HW : Hid (Below w.heap.size w _) := Lib.hid (below_step HW.out hB13); clear hB13)
    | fail)
  go_ret
  exact ⟨rfl, HW.out⟩

set_option maxRecDepth 100000 in
set_option maxHeartbeats 1000000 in
theorem rows_long (ns ss : List Int) (A B : Option Addr) (c d : Nat) (k p q : Int) (w : World)
    (hL1 : SaysR 15 #[(.agg #[.slice A ns.length c, .slice B ss.length d])] w true) :
    Calls Try.prog 4 #[(.agg #[.slice A ns.length c, .slice B ss.length d]), .int .i64 k, (.agg #[.int .i64 p, .int .i64 q])] w fun e w' => e = .returned (.bool true) ∧ Below w.heap.size w w' := by
  have HL1 := Lib.hid hL1
  clear hL1
  obtain ⟨W0, hW0, HW, HO, HR, z0, z1⟩ := two_new w #[.slice A ns.length c, .slice B ss.length d] #[.int .i64 p, .int .i64 q] 24 28
  clear z0 z1
  go_enter Try.func4, Try.ntmps4
  go_wp2_with (first
    | (go_at_call 15; with_reducible refine (HL1.out _ (by repeat (first | with_reducible exact Below.refl _ _ | with_reducible assumption | refine below_drewN ?_ _ | with_reducible refine Below.drew ?_ | (refine Below.setCell ?_ (by first | (simp; done) | (simp; omega) | omega) _) | (refine Below.alloc ?_ (by first | (simp; done) | (simp; omega) | omega) _)))).mono ?_; rintro e v1 ⟨rfl, hB1⟩; rw [← hW0] at hB1; have HW : Hid (Below w.heap.size w _) := Lib.hid (below_step HW.out hB1); clear hB1)
    | (go_at_call 16; refine (awake_any _).mono ?_; rintro e v12 ⟨rfl, hB12⟩; have HW : Hid (Below w.heap.size w _) := Lib.hid (below_step HW.out hB12); clear hB12)
    | fail)
  go_ret
  exact ⟨rfl, HW.out⟩
section
variable (ns ss : List Int) (A B : Option Addr) (c d : Nat) (k p q : Int) (w : World) (hA : Ints w A ns) (hB : Ints w B ss) (hl : ns.length ≤ 1000) (hl2 : ss.length ≤ 1000)
include hA hB hl hl2
theorem row_two : ∃ L E, GivL 23 #[(.agg #[.slice A ns.length c, .slice B ss.length d])] w L E ∧ GivL 24 #[(.agg #[.slice A ns.length c, .slice B ss.length d])] w L E := by
  cases hv : odB ns ss with
  | false => exact ⟨[], 70, fun W hW => (wRow_no ns ss A B c d W (hA.below hW) (hB.below hW) hl hl2 hv).mono fun e w' ⟨he, hb⟩ => ⟨none, 0, he, Out.nil_, hb⟩, fun W hW => (refRowX_no ns ss A B c d W (hA.below hW) (hB.below hW) hl hl2 hv).mono fun e w' ⟨he, hb⟩ => ⟨none, 0, he, Out.nil_, hb⟩⟩
  | true =>
    refine ⟨rowL ns ss, 0, fun W hW => (wRow_yes ns ss A B c d W (hA.below hW) (hB.below hW) hv).mono fun e w' ⟨gb, he, ho, hb⟩ => ?_, fun W hW => (refRowX_yes ns ss A B c d W (hA.below hW) (hB.below hW) hl hl2 hv).mono fun e w' ⟨gb, he, ho, hb⟩ => ?_⟩
    · obtain ⟨A', c', hv', hO⟩ := own_ints ho
      exact ⟨A', c', by rw [he, hv'], hO, hb⟩
    · obtain ⟨A', c', hv', hO⟩ := own_ints ho
      exact ⟨A', c', by rw [he, hv'], hO, hb⟩
theorem cut_two : ∃ L E, GivL 26 #[(.agg #[.slice A ns.length c, .slice B ss.length d]), .int .i64 k] w L E ∧ GivL 27 #[(.agg #[.slice A ns.length c, .slice B ss.length d]), .int .i64 k] w L E := by
  cases hv : odB ns ss with
  | false => exact ⟨[], 70, fun W hW => (wCut_no ns ss A B c d k W (hA.below hW) (hB.below hW) hl hl2 hv).mono fun e w' ⟨he, hb⟩ => ⟨none, 0, he, Out.nil_, hb⟩, fun W hW => (refCutX_no ns ss A B c d k W (hA.below hW) (hB.below hW) hl hl2 hv).mono fun e w' ⟨he, hb⟩ => ⟨none, 0, he, Out.nil_, hb⟩⟩
  | true =>
    by_cases hk : k < 0 ∨ (ns.length : Int) < k
    · exact ⟨[], 2, fun W hW => (wCut_a ns ss A B c d k W (hA.below hW) (hB.below hW) hl hl2 hv hk).mono fun e w' ⟨he, hb⟩ => ⟨none, 0, he, Out.nil_, hb⟩, fun W hW => (refCutX_a ns ss A B c d k W (hA.below hW) (hB.below hW) hl hl2 hv hk).mono fun e w' ⟨he, hb⟩ => ⟨none, 0, he, Out.nil_, hb⟩⟩
    · obtain ⟨m, rfl⟩ : ∃ m : Nat, k = m := ⟨k.toNat, by omega⟩
      exact ⟨ctL ns ss m, 0, fun W hW => wCut_yes ns ss A B c d W (hA.below hW) (hB.below hW) hv m (by omega), fun W hW => refCutX_yes ns ss A B c d m W (hA.below hW) (hB.below hW) hl hl2 hv (by omega)⟩
theorem price_two : ∃ N D E, GivP 28 #[(.agg #[.slice A ns.length c, .slice B ss.length d]), .int .i64 k] w N D E ∧ GivP 29 #[(.agg #[.slice A ns.length c, .slice B ss.length d]), .int .i64 k] w N D E := by
  cases hv : odB ns ss with
  | false => exact ⟨0, 0, 70, fun W hW => price_no ns ss A B c d k W (hA.below hW) (hB.below hW) hl hl2 hv, fun W hW => refPrice_no ns ss A B c d k W (hA.below hW) (hB.below hW) hl hl2 hv⟩
  | true =>
    by_cases h1 : k < 1
    · exact ⟨0, 0, 2, fun W hW => price_a0 ns ss A B c d k W (hA.below hW) (hB.below hW) h1 hv, fun W hW => refPrice_a0 ns ss A B c d k W (hA.below hW) (hB.below hW) hl hl2 hv h1⟩
    · by_cases h2 : (ns.length : Int) < k
      · exact ⟨0, 0, 2, fun W hW => price_a1 ns ss A B c d k W (hA.below hW) (hB.below hW) ⟨by omega, h2⟩ hv, fun W hW => refPrice_a1 ns ss A B c d k W (hA.below hW) (hB.below hW) hl hl2 hv ⟨by omega, h2⟩⟩
      · obtain ⟨m, rfl⟩ : ∃ m : Nat, k = m := ⟨k.toNat, by omega⟩
        by_cases hz : ns.getD (laN ns ss m) 0 = 0
        · exact ⟨0, 0, 5, fun W hW => price_none ns ss A B c d m W (hA.below hW) (hB.below hW) hv (by omega) (by omega) hz, fun W hW => refPrice_none ns ss A B c d m W (hA.below hW) (hB.below hW) hv (by omega) (by omega) hz⟩
        · exact ⟨_, _, 0, fun W hW => price_yes ns ss A B c d m W (hA.below hW) (hB.below hW) hv (by omega) (by omega) hz, fun W hW => refPrice_yes ns ss A B c d m W (hA.below hW) (hB.below hW) hv (by omega) (by omega) hz⟩
theorem best_two : ∃ L E, GivL 30 #[(.agg #[.slice A ns.length c, .slice B ss.length d]), (.agg #[.int .i64 p, .int .i64 q])] w L E ∧ GivL 31 #[(.agg #[.slice A ns.length c, .slice B ss.length d]), (.agg #[.int .i64 p, .int .i64 q])] w L E := by
  cases hv : odB ns ss with
  | false => exact ⟨[], 70, fun W hW => (wBest_no ns ss A B c d p q W (hA.below hW) (hB.below hW) hl hl2 hv).mono fun e w' ⟨he, hb⟩ => ⟨none, 0, he, Out.nil_, hb⟩, fun W hW => (refBest_no ns ss A B c d p q W (hA.below hW) (hB.below hW) hl hl2 hv).mono fun e w' ⟨he, hb⟩ => ⟨none, 0, he, Out.nil_, hb⟩⟩
  | true =>
    cases hn : okN p q with
    | false => exact ⟨[], 2, fun W hW => (wBest_arg ns ss A B c d p q W (hA.below hW) (hB.below hW) hv hn).mono fun e w' ⟨he, hb⟩ => ⟨none, 0, he, Out.nil_, hb⟩, fun W hW => (refBest_arg ns ss A B c d p q W (hA.below hW) (hB.below hW) hl hl2 hv hn).mono fun e w' ⟨he, hb⟩ => ⟨none, 0, he, Out.nil_, hb⟩⟩
    | true => exact ⟨bsL ns ss p q, 0, fun W hW => wBest_yes ns ss A B c d p q W (hA.below hW) (hB.below hW) hv hn, fun W hW => refBest_yes ns ss A B c d p q W (hA.below hW) (hB.below hW) hl hl2 hv hn⟩
end
theorem weighRows_walk (A : Option Addr) (c : Nat) (ns : List Int) (B : Option Addr) (d : Nat) (ss : List Int) (k : Int) (p q : Int) (w : World)
    (hA : Ints w A ns) (_ : ns.length ≤ c) (_ : c ≤ maxLen) (hB : Ints w B ss) (_ : ss.length ≤ d) (_ : d ≤ maxLen) (_ : (Lit.int .i64 k).wf = true) (_ : (Lit.int .i64 p).wf = true) (_ : (Lit.int .i64 q).wf = true) :
    Calls Try.prog 4 #[(.agg #[.slice A ns.length c, .slice B ss.length d]), .int .i64 k, (.agg #[.int .i64 p, .int .i64 q])] w fun e w' => e = .returned (.bool true) ∧ Below w.heap.size w w' := by
  have L1 : SaysR 15 #[(.agg #[.slice A ns.length c, .slice B ss.length d])] w (decide (60 < ns.length) || decide (60 < ss.length)) := fun W _ => long_any ns ss A B c d W
  cases hl : (decide (60 < ns.length) || decide (60 < ss.length)) with
  | true => rw [hl] at L1; exact rows_long ns ss A B c d k p q w L1
  | false =>
    rw [hl] at L1
    simp only [Bool.or_eq_false_iff, decide_eq_false_iff_not] at hl
    have h1 : ns.length ≤ 1000 := by omega
    have h2 : ss.length ≤ 1000 := by omega
    obtain ⟨_, _, a1, a2⟩ := row_two ns ss A B c d w hA hB h1 h2
    obtain ⟨_, _, b1, b2⟩ := cut_two ns ss A B c d k w hA hB h1 h2
    obtain ⟨_, _, _, c1, c2⟩ := price_two ns ss A B c d k w hA hB h1 h2
    obtain ⟨_, _, d1, d2⟩ := best_two ns ss A B c d p q w hA hB h1 h2
    exact rows_core ns ss A B c d k p q _ _ _ _ _ _ _ _ _ w L1 a1 a2 b1 b2 d1 d2 c1 c2
end Go.Proofs.Ytolpbbabmcpdkaa
