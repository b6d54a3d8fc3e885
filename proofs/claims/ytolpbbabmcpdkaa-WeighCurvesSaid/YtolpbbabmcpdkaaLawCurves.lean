/-
  The walk of WeighCurves: it returns true, whatever it is given.
-/
import Derived.Deep.CutRange
import Derived.Test.YtolpbbabmcpdkaaWCurve
import Derived.Test.YtolpbbabmcpdkaaRefCurve
import Derived.Test.YtolpbbabmcpdkaaRefApart
import Derived.Test.YtolpbbabmcpdkaaEqPair
import Derived.Test.YtolpbbabmcpdkaaArea
import Derived.Test.YtolpbbabmcpdkaaSane
set_option linter.unusedVariables false
set_option linter.unusedSimpArgs false
namespace Go.Proofs.Ytolpbbabmcpdkaa
open Go.RowKit Go.Shelf

/-- A box of odds. -/
def Ox (W : World) (g : Nat) (u v : Value) : Prop := W.heap[g]? = some (.cells #[u, v] 24 (0, 0))
section
variable {W V : World} {g g' : Nat} {u v a b : Value}
theorem Ox.lt (h : Ox W g u v) : g < W.heap.size := (Array.getElem?_eq_some_iff.1 h).1
theorem Ox.below (h : Ox W g u v) (hb : Below W.heap.size W V) : Ox V g u v := (hb.block g h.lt).trans h
theorem Ox.alloc (h : Ox W g u v) (o : Obj) : Ox (W.alloc o) g u v := (Below.heap_alloc W o g h.lt).trans h
theorem Ox.other (h : Ox W g u v) (hne : g ≠ g') : Ox ((W.setCell ⟨g', 0, none⟩ a).setCell ⟨g', 1, none⟩ b) g u v :=
  (heap_setCell_other _ _ _ _ hne).trans ((heap_setCell_other _ _ _ _ hne).trans h)
theorem Ox.c0 (h : Ox W g u v) : W.cell? ⟨g, 0, none⟩ = some u := blk_cell h 0 rfl
theorem Ox.f (h : Ox W g u v) (i : Nat) : W.frozen? ⟨g, i, none⟩ = false := blk_frozen h i
theorem Ox.c1 (h : Ox W g u v) : W.cell? ⟨g, 1, none⟩ = some v := blk_cell h 1 rfl
end
/-- A box of a ratio. -/
def Rx (W : World) (g : Nat) (u v : Value) : Prop := W.heap[g]? = some (.cells #[u, v] 28 (0, 0))
section
variable {W V : World} {g g' : Nat} {u v a b : Value}
theorem Rx.lt (h : Rx W g u v) : g < W.heap.size := (Array.getElem?_eq_some_iff.1 h).1
theorem Rx.below (h : Rx W g u v) (hb : Below W.heap.size W V) : Rx V g u v := (hb.block g h.lt).trans h
theorem Rx.alloc (h : Rx W g u v) (o : Obj) : Rx (W.alloc o) g u v := (Below.heap_alloc W o g h.lt).trans h
theorem Rx.new (W : World) (u v : Value) : Rx (W.alloc (.cells #[u, v] 28)) W.heap.size u v := heap_alloc_new W _
theorem Rx.other (h : Rx W g u v) (hne : g ≠ g') : Rx ((W.setCell ⟨g', 0, none⟩ a).setCell ⟨g', 1, none⟩ b) g u v :=
  (heap_setCell_other _ _ _ _ hne).trans ((heap_setCell_other _ _ _ _ hne).trans h)
theorem Rx.set (h : Rx W g u v) : Rx ((W.setCell ⟨g, 0, none⟩ a).setCell ⟨g, 1, none⟩ b) g a b := by
  unfold Rx at *
  rw [heap_setCell_same _ g 1 #[a, v] _ _ (by rw [heap_setCell_same _ g 0 #[u, v] _ _ h]; rfl)]; rfl
theorem Rx.c0 (h : Rx W g u v) : W.cell? ⟨g, 0, none⟩ = some u := blk_cell h 0 rfl
theorem Rx.f (h : Rx W g u v) (i : Nat) : W.frozen? ⟨g, i, none⟩ = false := blk_frozen h i
theorem Rx.c1 (h : Rx W g u v) : W.cell? ⟨g, 1, none⟩ = some v := blk_cell h 1 rfl
end
abbrev SaysC (f : FuncId) (args : Array Value) (w : World) (x : Bool) : Prop := ∀ W, Below w.heap.size w W → Calls Try.prog f args W fun e w' => e = .returned (.bool x) ∧ Below W.heap.size W w'
abbrev GivesR (f : FuncId) (args : Array Value) (w : World) (N D E : Int) : Prop :=
  ∀ W, Below w.heap.size w W → Calls Try.prog f args W fun e w' => e = .returned (.tuple #[.agg #[.int .i64 N, .int .i64 D], .int .i64 E]) ∧ Below W.heap.size W w'
abbrev GivesC (f : FuncId) (args : Array Value) (w : World) (L : List Qd) (E : Int) : Prop :=
  ∀ W, Below w.heap.size w W → Calls Try.prog f args W fun e w' => ∃ A' c', e = .returned (.tuple #[.slice A' L.length c', .int .i64 E]) ∧ QOut w' A' c' L ∧ Below W.heap.size W w'

set_option maxRecDepth 100000 in
set_option maxHeartbeats 16000000 in
theorem curves_core (ns ss : List Int) (A B : Option Addr) (c d : Nat) (L : List Qd) (E N D P Q : Int) (w : World)
    (hL : SaysC 15 #[(.agg #[.slice A ns.length c, .slice B ss.length d])] w false) (hC : GivesC 38 #[(.agg #[.slice A ns.length c, .slice B ss.length d])] w L E) (hC' : GivesC 39 #[(.agg #[.slice A ns.length c, .slice B ss.length d])] w L E)
    (hA : GivesR 40 #[(.agg #[.slice A ns.length c, .slice B ss.length d])] w N D E) (hA' : GivesR 41 #[(.agg #[.slice A ns.length c, .slice B ss.length d])] w N D E)
    (hP : GivesR 42 #[(.agg #[.slice A ns.length c, .slice B ss.length d])] w N D E) (hP' : GivesR 43 #[(.agg #[.slice A ns.length c, .slice B ss.length d])] w N D E)
    (hX : GivesR 44 #[(.agg #[.slice A ns.length c, .slice B ss.length d])] w P Q E) (hX' : GivesR 45 #[(.agg #[.slice A ns.length c, .slice B ss.length d])] w P Q E) :
    Calls Try.prog 6 #[(.agg #[.slice A ns.length c, .slice B ss.length d])] w fun e w' => e = .returned (.bool true) ∧ Below w.heap.size w w' := by
  have HL := Lib.hid hL
  have HC := Lib.hid hC
  have HC' := Lib.hid hC'
  have HA := Lib.hid hA
  have HA' := Lib.hid hA'
  have HB := Lib.hid hP
  have HB' := Lib.hid hP'
  have HD := Lib.hid hX
  have HD' := Lib.hid hX'
  clear hL hC hC' hA hA' hP hP' hX hX'
  obtain ⟨W0, hW0, HW, HO, z0⟩ := one_new w #[.slice A ns.length c, .slice B ss.length d] 24
  have HO : Hid (Ox W0 w.heap.size (.slice A ns.length c) (.slice B ss.length d)) := HO
  clear z0
  go_enter Try.func6, Try.ntmps6
  go_upto_region 3 with (go_at_call 15; with_reducible refine (HL.out _ (by repeat (first | with_reducible exact Below.refl _ _ | with_reducible assumption | refine below_drewN ?_ _ | with_reducible refine Below.drew ?_ | (refine Below.setCell ?_ (by first | (simp; done) | (simp; omega) | omega) _) | (refine Below.alloc ?_ (by first | (simp; done) | (simp; omega) | omega) _)))).mono ?_; rintro e v1 ⟨rfl, hB1⟩; rw [← hW0] at hB1; have HO := Lib.hid (Ox.below HO.out hB1); have b0 := HO.out.c0; have b1 := HO.out.c1; have HW : Hid (Below w.heap.size w _) := Lib.hid (below_step HW.out hB1); clear hB1)
  go_upto_region 5 with (first
    | (go_at_call 38; with_reducible refine (HC.out _ HW.out).mono ?_; rintro e v2 ⟨A1, c1, rfl, hq1, hB2⟩; have HO := Lib.hid (Ox.below HO.out hB2); have b0 := HO.out.c0; have b1 := HO.out.c1; have HW : Hid (Below w.heap.size w _) := Lib.hid (below_step HW.out hB2); have HQ1 := Lib.hid hq1; clear hq1; clear hB2)
    | (go_at_call 39; with_reducible refine (HC'.out _ HW.out).mono ?_; rintro e v3 ⟨A2, c2, rfl, hq2, hB3⟩; have HO := Lib.hid (Ox.below HO.out hB3); have b0 := HO.out.c0; have b1 := HO.out.c1; have HW : Hid (Below w.heap.size w _) := Lib.hid (below_step HW.out hB3); have HQ1 := Lib.hid (HQ1.out.below hB3); have HQ2 := Lib.hid hq2; clear hq2; clear hB3)
    | fail)
  go_wp2
  clear b0 b1
  go_loopw [39] (fun i wr => ∃ k : Nat, k ≤ L.length ∧ i = .int .i64 k ∧ Hid (Below v3.heap.size v3 wr)) (fun i _ => L.length - (intOf i).toNat)
  case atStart => exact ⟨0, Nat.zero_le _, rfl, Lib.hid (Below.refl _ _)⟩
  case round =>
    obtain ⟨k, hk, rfl, hB⟩ := hrel
    rename World => v4
    by_cases hlt : k < L.length
    · obtain ⟨g1, o1, rfl, hg1, hc1⟩ := HQ1.out.open_ (by omega)
      obtain ⟨g2, o2, rfl, hg2, hc2⟩ := HQ2.out.open_ (by omega)
      obtain ⟨m, hm⟩ : ∃ m, L[k]? = some m := ⟨_, List.getElem?_eq_getElem hlt⟩
      obtain ⟨r0, r1, r2, r3⟩ := hc1 k m hm
      obtain ⟨s0, s1, s2, s3⟩ := hc2 k m hm
      have r0 := (hB.out.cell (p := ⟨g1, o1 + k * 4, none⟩) hg1).trans r0
      have r1 := (hB.out.cell (p := ⟨g1, o1 + k * 4 + 1, none⟩) hg1).trans r1
      have r2 := (hB.out.cell (p := ⟨g1, o1 + k * 4 + 2, none⟩) hg1).trans r2
      have r3 := (hB.out.cell (p := ⟨g1, o1 + k * 4 + 3, none⟩) hg1).trans r3
      have s0 := (hB.out.cell (p := ⟨g2, o2 + k * 4, none⟩) hg2).trans s0
      have s1 := (hB.out.cell (p := ⟨g2, o2 + k * 4 + 1, none⟩) hg2).trans s1
      have s2 := (hB.out.cell (p := ⟨g2, o2 + k * 4 + 2, none⟩) hg2).trans s2
      have s3 := (hB.out.cell (p := ⟨g2, o2 + k * 4 + 3, none⟩) hg2).trans s3
      clear hc1 hc2 hm
      obtain ⟨⟨m1, m2⟩, m3, m4⟩ := m
      dsimp only at r0 r1 r2 r3 s0 s1 s2 s3
      have ki : (k : Int) < (L.length : Int) := by omega
      have hlm : L.length ≤ maxLen := Nat.le_trans HQ1.out.le HQ1.out.cap
      unfold maxLen at hlm
      have heq := eq_pair m1 m2 m3 m4
      have hne := ne_pair m1 m2 m3 m4
      go_wp2
      go_quiet (fail)
      go_wp2
      go_roundw
      case rel => exact ⟨k + 1, by omega, by go_num, Lib.hid (by first | exact hB.out | exact Below.drew hB.out | exact below_drewN hB.out _)⟩
      case measure => simp [intOf]; omega
    · obtain rfl : k = L.length := by omega
      have HO := Lib.hid (Ox.below HO.out hB.out)
      have HW := Lib.hid (below_step HW.out hB.out)
      clear HQ1 HQ2 hB
      have b0 := HO.out.c0
      have b1 := HO.out.c1
      go_upto_region 14 with (go_at_call 40; with_reducible refine (HA.out _ HW.out).mono ?_; rintro e v5 ⟨rfl, hB5⟩; have HO := Lib.hid (Ox.below HO.out hB5); have b0 := HO.out.c0; have b1 := HO.out.c1; have HW : Hid (Below w.heap.size w _) := Lib.hid (below_step HW.out hB5); clear hB5)
      have HLT := HO.out.lt
      obtain ⟨X5, hX5, HW, HX, HO⟩ : ∃ X, v5.alloc (.cells #[.int .i64 N, .int .i64 D] 28) = X ∧ Hid (Below w.heap.size w X) ∧ Hid (Rx X v5.heap.size (.int .i64 N) (.int .i64 D)) ∧ Hid (Ox X w.heap.size (.slice A ns.length c) (.slice B ss.length d)) :=
        ⟨_, rfl, Lib.hid (Below.alloc HW.out HW.out.size _), Lib.hid (Rx.new _ _ _), Lib.hid (HO.out.alloc _)⟩
      rw [hX5]
      clear hX5
      have zgx : w.heap.size < v5.heap.size := HLT
      obtain ⟨gx, hgx⟩ : ∃ g, v5.heap.size = g := ⟨_, rfl⟩
      rw [hgx] at HX zgx ⊢
      clear hgx
      have b0 := HO.out.c0
      have b1 := HO.out.c1
      have x0 := HX.out.c0
      have x1 := HX.out.c1
      have xf0 := Rx.f HX.out 0
      have xf1 := Rx.f HX.out 1
      clear HLT
      go_upto_region 15 with (go_at_call 41; with_reducible refine (HA'.out _ HW.out).mono ?_; rintro e v6 ⟨rfl, hB6⟩; have HO := Lib.hid (Ox.below HO.out hB6); have b0 := HO.out.c0; have b1 := HO.out.c1; have HX := Lib.hid (Rx.below HX.out hB6); have x0 := HX.out.c0; have x1 := HX.out.c1; have xf0 := Rx.f HX.out 0; have xf1 := Rx.f HX.out 1; have HW : Hid (Below w.heap.size w _) := Lib.hid (below_step HW.out hB6); clear hB6)
      have HLT := HX.out.lt
      obtain ⟨X6, hX6, HW, HY, HO, HX⟩ : ∃ X, v6.alloc (.cells #[.int .i64 N, .int .i64 D] 28) = X ∧ Hid (Below w.heap.size w X) ∧ Hid (Rx X v6.heap.size (.int .i64 N) (.int .i64 D)) ∧ Hid (Ox X w.heap.size (.slice A ns.length c) (.slice B ss.length d)) ∧ Hid (Rx X gx (.int .i64 N) (.int .i64 D)) :=
        ⟨_, rfl, Lib.hid (Below.alloc HW.out HW.out.size _), Lib.hid (Rx.new _ _ _), Lib.hid (HO.out.alloc _), Lib.hid (HX.out.alloc _)⟩
      rw [hX6]
      clear hX6
      have zgy : gx < v6.heap.size := HLT
      obtain ⟨gy, hgy⟩ : ∃ g, v6.heap.size = g := ⟨_, rfl⟩
      rw [hgy] at HY zgy ⊢
      clear hgy
      have b0 := HO.out.c0
      have b1 := HO.out.c1
      have x0 := HX.out.c0
      have x1 := HX.out.c1
      have xf0 := Rx.f HX.out 0
      have xf1 := Rx.f HX.out 1
      have y0 := HY.out.c0
      have y1 := HY.out.c1
      have yf0 := Rx.f HY.out 0
      have yf1 := Rx.f HY.out 1
      clear HLT
      go_upto_region 18 with (go_at_call 42; with_reducible refine (HB.out _ HW.out).mono ?_; rintro e v7 ⟨rfl, hB7⟩; have HO := Lib.hid (Ox.below HO.out hB7); have b0 := HO.out.c0; have b1 := HO.out.c1; have HX := Lib.hid (Rx.below HX.out hB7); have x0 := HX.out.c0; have x1 := HX.out.c1; have xf0 := Rx.f HX.out 0; have xf1 := Rx.f HX.out 1; have HY := Lib.hid (Rx.below HY.out hB7); have y0 := HY.out.c0; have y1 := HY.out.c1; have yf0 := Rx.f HY.out 0; have yf1 := Rx.f HY.out 1; have HW : Hid (Below w.heap.size w _) := Lib.hid (below_step HW.out hB7); clear hB7)
      obtain ⟨X7, hX7, HW, HX, HO, HY⟩ : ∃ X, (v7.setCell ⟨gx, 0, none⟩ (.int .i64 N)).setCell ⟨gx, 1, none⟩ (.int .i64 D) = X ∧ Hid (Below w.heap.size w X) ∧ Hid (Rx X gx (.int .i64 N) (.int .i64 D)) ∧ Hid (Ox X w.heap.size (.slice A ns.length c) (.slice B ss.length d)) ∧ Hid (Rx X gy (.int .i64 N) (.int .i64 D)) :=
        ⟨_, rfl, Lib.hid ((HW.out.setCell (show w.heap.size ≤ gx by omega) _).setCell (show w.heap.size ≤ gx by omega) _), Lib.hid HX.out.set, Lib.hid (HO.out.other (by omega)), Lib.hid (HY.out.other (by omega))⟩
      rw [hX7]
      clear hX7
      have b0 := HO.out.c0
      have b1 := HO.out.c1
      have x0 := HX.out.c0
      have x1 := HX.out.c1
      have xf0 := Rx.f HX.out 0
      have xf1 := Rx.f HX.out 1
      have y0 := HY.out.c0
      have y1 := HY.out.c1
      have yf0 := Rx.f HY.out 0
      have yf1 := Rx.f HY.out 1
      go_upto_region 19 with (go_at_call 43; with_reducible refine (HB'.out _ HW.out).mono ?_; rintro e v8 ⟨rfl, hB8⟩; have HO := Lib.hid (Ox.below HO.out hB8); have b0 := HO.out.c0; have b1 := HO.out.c1; have HX := Lib.hid (Rx.below HX.out hB8); have x0 := HX.out.c0; have x1 := HX.out.c1; have xf0 := Rx.f HX.out 0; have xf1 := Rx.f HX.out 1; have HY := Lib.hid (Rx.below HY.out hB8); have y0 := HY.out.c0; have y1 := HY.out.c1; have yf0 := Rx.f HY.out 0; have yf1 := Rx.f HY.out 1; have HW : Hid (Below w.heap.size w _) := Lib.hid (below_step HW.out hB8); clear hB8)
      obtain ⟨X8, hX8, HW, HY, HO, HX⟩ : ∃ X, (v8.setCell ⟨gy, 0, none⟩ (.int .i64 N)).setCell ⟨gy, 1, none⟩ (.int .i64 D) = X ∧ Hid (Below w.heap.size w X) ∧ Hid (Rx X gy (.int .i64 N) (.int .i64 D)) ∧ Hid (Ox X w.heap.size (.slice A ns.length c) (.slice B ss.length d)) ∧ Hid (Rx X gx (.int .i64 N) (.int .i64 D)) :=
        ⟨_, rfl, Lib.hid ((HW.out.setCell (show w.heap.size ≤ gy by omega) _).setCell (show w.heap.size ≤ gy by omega) _), Lib.hid HY.out.set, Lib.hid (HO.out.other (by omega)), Lib.hid (HX.out.other (by omega))⟩
      rw [hX8]
      clear hX8
      have b0 := HO.out.c0
      have b1 := HO.out.c1
      have x0 := HX.out.c0
      have x1 := HX.out.c1
      have xf0 := Rx.f HX.out 0
      have xf1 := Rx.f HX.out 1
      have y0 := HY.out.c0
      have y1 := HY.out.c1
      have yf0 := Rx.f HY.out 0
      have yf1 := Rx.f HY.out 1
      go_upto_region 20 with (go_at_call 44; with_reducible refine (HD.out _ HW.out).mono ?_; rintro e v9 ⟨rfl, hB9⟩; have HO := Lib.hid (Ox.below HO.out hB9); have b0 := HO.out.c0; have b1 := HO.out.c1; have HX := Lib.hid (Rx.below HX.out hB9); have x0 := HX.out.c0; have x1 := HX.out.c1; have xf0 := Rx.f HX.out 0; have xf1 := Rx.f HX.out 1; have HY := Lib.hid (Rx.below HY.out hB9); have y0 := HY.out.c0; have y1 := HY.out.c1; have yf0 := Rx.f HY.out 0; have yf1 := Rx.f HY.out 1; have HW : Hid (Below w.heap.size w _) := Lib.hid (below_step HW.out hB9); clear hB9)
      have HLT := HY.out.lt
      obtain ⟨X9, hX9, HW, HP, HO, HX, HY⟩ : ∃ X, v9.alloc (.cells #[.int .i64 P, .int .i64 Q] 28) = X ∧ Hid (Below w.heap.size w X) ∧ Hid (Rx X v9.heap.size (.int .i64 P) (.int .i64 Q)) ∧ Hid (Ox X w.heap.size (.slice A ns.length c) (.slice B ss.length d)) ∧ Hid (Rx X gx (.int .i64 N) (.int .i64 D)) ∧ Hid (Rx X gy (.int .i64 N) (.int .i64 D)) :=
        ⟨_, rfl, Lib.hid (Below.alloc HW.out HW.out.size _), Lib.hid (Rx.new _ _ _), Lib.hid (HO.out.alloc _), Lib.hid (HX.out.alloc _), Lib.hid (HY.out.alloc _)⟩
      rw [hX9]
      clear hX9
      have zgp : gy < v9.heap.size := HLT
      obtain ⟨gp, hgp⟩ : ∃ g, v9.heap.size = g := ⟨_, rfl⟩
      rw [hgp] at HP zgp ⊢
      clear hgp
      have b0 := HO.out.c0
      have b1 := HO.out.c1
      have x0 := HX.out.c0
      have x1 := HX.out.c1
      have xf0 := Rx.f HX.out 0
      have xf1 := Rx.f HX.out 1
      have y0 := HY.out.c0
      have y1 := HY.out.c1
      have yf0 := Rx.f HY.out 0
      have yf1 := Rx.f HY.out 1
      have p0 := HP.out.c0
      have p1 := HP.out.c1
      clear HLT
      go_upto_region 21 with (go_at_call 45; with_reducible refine (HD'.out _ HW.out).mono ?_; rintro e v10 ⟨rfl, hB10⟩; have HO := Lib.hid (Ox.below HO.out hB10); have b0 := HO.out.c0; have b1 := HO.out.c1; have HX := Lib.hid (Rx.below HX.out hB10); have x0 := HX.out.c0; have x1 := HX.out.c1; have xf0 := Rx.f HX.out 0; have xf1 := Rx.f HX.out 1; have HY := Lib.hid (Rx.below HY.out hB10); have y0 := HY.out.c0; have y1 := HY.out.c1; have yf0 := Rx.f HY.out 0; have yf1 := Rx.f HY.out 1; have HP := Lib.hid (Rx.below HP.out hB10); have p0 := HP.out.c0; have p1 := HP.out.c1; have HW : Hid (Below w.heap.size w _) := Lib.hid (below_step HW.out hB10); clear hB10)
      have HLT := HP.out.lt
      obtain ⟨X10, hX10, HW, HQ, HO, HX, HY, HP⟩ : ∃ X, v10.alloc (.cells #[.int .i64 P, .int .i64 Q] 28) = X ∧ Hid (Below w.heap.size w X) ∧ Hid (Rx X v10.heap.size (.int .i64 P) (.int .i64 Q)) ∧ Hid (Ox X w.heap.size (.slice A ns.length c) (.slice B ss.length d)) ∧ Hid (Rx X gx (.int .i64 N) (.int .i64 D)) ∧ Hid (Rx X gy (.int .i64 N) (.int .i64 D)) ∧ Hid (Rx X gp (.int .i64 P) (.int .i64 Q)) :=
        ⟨_, rfl, Lib.hid (Below.alloc HW.out HW.out.size _), Lib.hid (Rx.new _ _ _), Lib.hid (HO.out.alloc _), Lib.hid (HX.out.alloc _), Lib.hid (HY.out.alloc _), Lib.hid (HP.out.alloc _)⟩
      rw [hX10]
      clear hX10
      have zgq : gp < v10.heap.size := HLT
      obtain ⟨gq, hgq⟩ : ∃ g, v10.heap.size = g := ⟨_, rfl⟩
      rw [hgq] at HQ zgq ⊢
      clear hgq
      have b0 := HO.out.c0
      have b1 := HO.out.c1
      have x0 := HX.out.c0
      have x1 := HX.out.c1
      have xf0 := Rx.f HX.out 0
      have xf1 := Rx.f HX.out 1
      have y0 := HY.out.c0
      have y1 := HY.out.c1
      have yf0 := Rx.f HY.out 0
      have yf1 := Rx.f HY.out 1
      have p0 := HP.out.c0
      have p1 := HP.out.c1
      have q0 := HQ.out.c0
      have q1 := HQ.out.c1
      clear HLT
      go_wp2_with (first
        | (go_at_call 16; refine (awake_any _).mono ?_; rintro e v12 ⟨rfl, hB12⟩; have HW : Hid (Below w.heap.size w _) := Lib.hid (below_step HW.out hB12); clear hB12)
        | fail)
      go_ret
      exact ⟨rfl, HW.out⟩

set_option maxRecDepth 100000 in
set_option maxHeartbeats 1000000 in
theorem curves_long (ns ss : List Int) (A B : Option Addr) (c d : Nat) (w : World)
    (hL1 : SaysC 15 #[(.agg #[.slice A ns.length c, .slice B ss.length d])] w true) :
    Calls Try.prog 6 #[(.agg #[.slice A ns.length c, .slice B ss.length d])] w fun e w' => e = .returned (.bool true) ∧ Below w.heap.size w w' := by
  have HL1 := Lib.hid hL1
  clear hL1
  obtain ⟨W0, hW0, HW, HO, z0⟩ := one_new w #[.slice A ns.length c, .slice B ss.length d] 24
  go_enter Try.func6, Try.ntmps6
  go_wp2_with (first
    | (go_at_call 15; with_reducible refine (HL1.out _ (by repeat (first | with_reducible exact Below.refl _ _ | with_reducible assumption | refine below_drewN ?_ _ | with_reducible refine Below.drew ?_ | (refine Below.setCell ?_ (by first | (simp; done) | (simp; omega) | omega) _) | (refine Below.alloc ?_ (by first | (simp; done) | (simp; omega) | omega) _)))).mono ?_; rintro e v1 ⟨rfl, hB1⟩; rw [← hW0] at hB1; have HW : Hid (Below w.heap.size w _) := Lib.hid (below_step HW.out hB1); clear hB1)
    | (go_at_call 16; refine (awake_any _).mono ?_; rintro e v12 ⟨rfl, hB12⟩; have HW : Hid (Below w.heap.size w _) := Lib.hid (below_step HW.out hB12); clear hB12)
    | fail)
  go_ret
  exact ⟨rfl, HW.out⟩
def seE (ns ss : List Int) : Int := if odB ns ss = true then 0 else 70
def cvE (ns ss : List Int) : List Qd := if odB ns ss = true then cuL ns ss (ns.length + 1) else []
def swI (ns ss : List Int) (x : Int) : Int := if odB ns ss = true then x else 0
theorem wCurve_g (ns ss : List Int) (A B : Option Addr) (c d : Nat) (w : World) (hA : Ints w A ns) (hB : Ints w B ss) (hl : ns.length ≤ 1000) (hl2 : ss.length ≤ 1000) : GivesC 38 #[.agg #[.slice A ns.length c, .slice B ss.length d]] w (cvE ns ss) (seE ns ss) := by
  intro W hW
  cases hv : odB ns ss with
  | false =>
    rw [show seE ns ss = 70 by simp [seE, hv], show cvE ns ss = [] by simp [cvE, hv]]
    exact (wCurve_no ns ss A B c d W (hA.below hW) (hB.below hW) hl hl2 hv).mono fun e w' ⟨he, hb⟩ => ⟨none, 0, he, QOut.nil_, hb⟩
  | true =>
    rw [show seE ns ss = 0 by simp [seE, hv], show cvE ns ss = cuL ns ss (ns.length + 1) by simp [cvE, hv]]
    exact wCurve_yes ns ss A B c d W (hA.below hW) (hB.below hW) hv
theorem refCurve_g (ns ss : List Int) (A B : Option Addr) (c d : Nat) (w : World) (hA : Ints w A ns) (hB : Ints w B ss) (hl : ns.length ≤ 1000) (hl2 : ss.length ≤ 1000) : GivesC 39 #[.agg #[.slice A ns.length c, .slice B ss.length d]] w (cvE ns ss) (seE ns ss) := by
  intro W hW
  cases hv : odB ns ss with
  | false =>
    rw [show seE ns ss = 70 by simp [seE, hv], show cvE ns ss = [] by simp [cvE, hv]]
    exact (refCurve_no ns ss A B c d W (hA.below hW) (hB.below hW) hl hl2 hv).mono fun e w' ⟨he, hb⟩ => ⟨none, 0, he, QOut.nil_, hb⟩
  | true =>
    rw [show seE ns ss = 0 by simp [seE, hv], show cvE ns ss = cuL ns ss (ns.length + 1) by simp [cvE, hv]]
    exact refCurve_yes ns ss A B c d W (hA.below hW) (hB.below hW) hv
theorem area_g (ns ss : List Int) (A B : Option Addr) (c d : Nat) (w : World) (hA : Ints w A ns) (hB : Ints w B ss) (hl : ns.length ≤ 1000) (hl2 : ss.length ≤ 1000) : GivesR 40 #[.agg #[.slice A ns.length c, .slice B ss.length d]] w (swI ns ss (arN ns ss)) (swI ns ss (arD ns ss)) (seE ns ss) := by
  intro W hW
  cases hv : odB ns ss with
  | false =>
    rw [show seE ns ss = 70 by simp [seE, hv], show swI ns ss (arN ns ss) = 0 by simp [swI, hv], show swI ns ss (arD ns ss) = 0 by simp [swI, hv]]
    exact area_no ns ss A B c d W (hA.below hW) (hB.below hW) hl hl2 hv
  | true =>
    rw [show seE ns ss = 0 by simp [seE, hv], show swI ns ss (arN ns ss) = arN ns ss by simp [swI, hv], show swI ns ss (arD ns ss) = arD ns ss by simp [swI, hv]]
    exact area_yes ns ss A B c d W (hA.below hW) (hB.below hW) hv
theorem refArea_g (ns ss : List Int) (A B : Option Addr) (c d : Nat) (w : World) (hA : Ints w A ns) (hB : Ints w B ss) (hl : ns.length ≤ 1000) (hl2 : ss.length ≤ 1000) : GivesR 41 #[.agg #[.slice A ns.length c, .slice B ss.length d]] w (swI ns ss (arN ns ss)) (swI ns ss (arD ns ss)) (seE ns ss) := by
  intro W hW
  cases hv : odB ns ss with
  | false =>
    rw [show seE ns ss = 70 by simp [seE, hv], show swI ns ss (arN ns ss) = 0 by simp [swI, hv], show swI ns ss (arD ns ss) = 0 by simp [swI, hv]]
    exact refArea_no ns ss A B c d W (hA.below hW) (hB.below hW) hl hl2 hv
  | true =>
    rw [show seE ns ss = 0 by simp [seE, hv], show swI ns ss (arN ns ss) = arN ns ss by simp [swI, hv], show swI ns ss (arD ns ss) = arD ns ss by simp [swI, hv]]
    exact refArea_yes ns ss A B c d W (hA.below hW) (hB.below hW) hv
theorem pairs_g (ns ss : List Int) (A B : Option Addr) (c d : Nat) (w : World) (hA : Ints w A ns) (hB : Ints w B ss) (hl : ns.length ≤ 1000) (hl2 : ss.length ≤ 1000) : GivesR 42 #[.agg #[.slice A ns.length c, .slice B ss.length d]] w (swI ns ss (arN ns ss)) (swI ns ss (arD ns ss)) (seE ns ss) := by
  intro W hW
  cases hv : odB ns ss with
  | false =>
    rw [show seE ns ss = 70 by simp [seE, hv], show swI ns ss (arN ns ss) = 0 by simp [swI, hv], show swI ns ss (arD ns ss) = 0 by simp [swI, hv]]
    exact wPairs_no ns ss A B c d W (hA.below hW) (hB.below hW) hl hl2 hv
  | true =>
    rw [show seE ns ss = 0 by simp [seE, hv], show swI ns ss (arN ns ss) = arN ns ss by simp [swI, hv], show swI ns ss (arD ns ss) = arD ns ss by simp [swI, hv]]
    exact pairs_yes ns ss A B c d W (hA.below hW) (hB.below hW) hv
theorem refPairs_g (ns ss : List Int) (A B : Option Addr) (c d : Nat) (w : World) (hA : Ints w A ns) (hB : Ints w B ss) (hl : ns.length ≤ 1000) (hl2 : ss.length ≤ 1000) : GivesR 43 #[.agg #[.slice A ns.length c, .slice B ss.length d]] w (swI ns ss (arN ns ss)) (swI ns ss (arD ns ss)) (seE ns ss) := by
  intro W hW
  cases hv : odB ns ss with
  | false =>
    rw [show seE ns ss = 70 by simp [seE, hv], show swI ns ss (arN ns ss) = 0 by simp [swI, hv], show swI ns ss (arD ns ss) = 0 by simp [swI, hv]]
    exact refPairs_no ns ss A B c d W (hA.below hW) (hB.below hW) hl hl2 hv
  | true =>
    rw [show seE ns ss = 0 by simp [seE, hv], show swI ns ss (arN ns ss) = arN ns ss by simp [swI, hv], show swI ns ss (arD ns ss) = arD ns ss by simp [swI, hv]]
    exact refPairs_yes ns ss A B c d W (hA.below hW) (hB.below hW) hv
theorem apart_g (ns ss : List Int) (A B : Option Addr) (c d : Nat) (w : World) (hA : Ints w A ns) (hB : Ints w B ss) (hl : ns.length ≤ 1000) (hl2 : ss.length ≤ 1000) : GivesR 44 #[.agg #[.slice A ns.length c, .slice B ss.length d]] w (swI ns ss (lowN (apV ns ss) (unV ns ss 1))) (swI ns ss (lowD (apV ns ss) (unV ns ss 1))) (seE ns ss) := by
  intro W hW
  cases hv : odB ns ss with
  | false =>
    rw [show seE ns ss = 70 by simp [seE, hv], show swI ns ss (lowN (apV ns ss) (unV ns ss 1)) = 0 by simp [swI, hv], show swI ns ss (lowD (apV ns ss) (unV ns ss 1)) = 0 by simp [swI, hv]]
    exact wApart_no ns ss A B c d W (hA.below hW) (hB.below hW) hl hl2 hv
  | true =>
    rw [show seE ns ss = 0 by simp [seE, hv], show swI ns ss (lowN (apV ns ss) (unV ns ss 1)) = lowN (apV ns ss) (unV ns ss 1) by simp [swI, hv], show swI ns ss (lowD (apV ns ss) (unV ns ss 1)) = lowD (apV ns ss) (unV ns ss 1) by simp [swI, hv]]
    exact wApart_yes ns ss A B c d W (hA.below hW) (hB.below hW) hv
theorem refApart_g (ns ss : List Int) (A B : Option Addr) (c d : Nat) (w : World) (hA : Ints w A ns) (hB : Ints w B ss) (hl : ns.length ≤ 1000) (hl2 : ss.length ≤ 1000) : GivesR 45 #[.agg #[.slice A ns.length c, .slice B ss.length d]] w (swI ns ss (lowN (apV ns ss) (unV ns ss 1))) (swI ns ss (lowD (apV ns ss) (unV ns ss 1))) (seE ns ss) := by
  intro W hW
  cases hv : odB ns ss with
  | false =>
    rw [show seE ns ss = 70 by simp [seE, hv], show swI ns ss (lowN (apV ns ss) (unV ns ss 1)) = 0 by simp [swI, hv], show swI ns ss (lowD (apV ns ss) (unV ns ss 1)) = 0 by simp [swI, hv]]
    exact refApart_no ns ss A B c d W (hA.below hW) (hB.below hW) hl hl2 hv
  | true =>
    rw [show seE ns ss = 0 by simp [seE, hv], show swI ns ss (lowN (apV ns ss) (unV ns ss 1)) = lowN (apV ns ss) (unV ns ss 1) by simp [swI, hv], show swI ns ss (lowD (apV ns ss) (unV ns ss 1)) = lowD (apV ns ss) (unV ns ss 1) by simp [swI, hv]]
    exact refApart_yes ns ss A B c d W (hA.below hW) (hB.below hW) hv
theorem weighCurves_walk (A : Option Addr) (c : Nat) (ns : List Int) (B : Option Addr) (d : Nat) (ss : List Int) (w : World)
    (hA : Ints w A ns) (_ : ns.length ≤ c) (_ : c ≤ maxLen) (hB : Ints w B ss) (_ : ss.length ≤ d) (_ : d ≤ maxLen) :
    Calls Try.prog 6 #[.agg #[.slice A ns.length c, .slice B ss.length d]] w fun e w' => e = .returned (.bool true) ∧ Below w.heap.size w w' := by
  have L1 : SaysC 15 #[.agg #[.slice A ns.length c, .slice B ss.length d]] w (decide (60 < ns.length) || decide (60 < ss.length)) := fun W _ => long_any ns ss A B c d W
  cases hl : (decide (60 < ns.length) || decide (60 < ss.length)) with
  | true => rw [hl] at L1; exact curves_long ns ss A B c d w L1
  | false =>
    rw [hl] at L1
    simp only [Bool.or_eq_false_iff, decide_eq_false_iff_not] at hl
    have h1 : ns.length ≤ 1000 := by omega
    have h2 : ss.length ≤ 1000 := by omega
    exact curves_core ns ss A B c d _ _ _ _ _ _ w L1 (wCurve_g ns ss A B c d w hA hB h1 h2) (refCurve_g ns ss A B c d w hA hB h1 h2) (area_g ns ss A B c d w hA hB h1 h2) (refArea_g ns ss A B c d w hA hB h1 h2) (pairs_g ns ss A B c d w hA hB h1 h2) (refPairs_g ns ss A B c d w hA hB h1 h2) (apart_g ns ss A B c d w hA hB h1 h2) (refApart_g ns ss A B c d w hA hB h1 h2)
end Go.Proofs.Ytolpbbabmcpdkaa
