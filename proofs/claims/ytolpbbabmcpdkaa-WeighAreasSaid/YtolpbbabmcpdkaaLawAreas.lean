/-
  The walk of WeighAreas: it returns true, whatever it is given.
-/
import Derived.Test.YtolpbbabmcpdkaaCvM
import Derived.Test.YtolpbbabmcpdkaaWCurve
import Derived.Test.YtolpbbabmcpdkaaEqPair
import Derived.Test.YtolpbbabmcpdkaaMergedX
import Derived.Test.YtolpbbabmcpdkaaSane
import Derived.Deep.CutRange
set_option linter.unusedVariables false
set_option linter.unusedSimpArgs false
namespace Go.Proofs.Ytolpbbabmcpdkaa
open Go.RowKit Go.Shelf

/-- A box of odds. -/
def Oy (W : World) (g : Nat) (u v : Value) : Prop := W.heap[g]? = some (.cells #[u, v] 24 (0, 0))
section
variable {W V : World} {g g' : Nat} {u v a b : Value}
theorem Oy.lt (h : Oy W g u v) : g < W.heap.size := (Array.getElem?_eq_some_iff.1 h).1
theorem Oy.below (h : Oy W g u v) (hb : Below W.heap.size W V) : Oy V g u v := (hb.block g h.lt).trans h
theorem Oy.alloc (h : Oy W g u v) (o : Obj) : Oy (W.alloc o) g u v := (Below.heap_alloc W o g h.lt).trans h
theorem Oy.new (W : World) (u v : Value) : Oy (W.alloc (.cells #[u, v] 24)) W.heap.size u v := heap_alloc_new W _
theorem Oy.other (h : Oy W g u v) (hne : g ≠ g') : Oy ((W.setCell ⟨g', 0, none⟩ a).setCell ⟨g', 1, none⟩ b) g u v :=
  (heap_setCell_other _ _ _ _ hne).trans ((heap_setCell_other _ _ _ _ hne).trans h)
theorem Oy.c0 (h : Oy W g u v) : W.cell? ⟨g, 0, none⟩ = some u := blk_cell h 0 rfl
theorem Oy.f (h : Oy W g u v) (i : Nat) : W.frozen? ⟨g, i, none⟩ = false := blk_frozen h i
theorem Oy.c1 (h : Oy W g u v) : W.cell? ⟨g, 1, none⟩ = some v := blk_cell h 1 rfl
end
/-- A box of a ratio. -/
def Ry (W : World) (g : Nat) (u v : Value) : Prop := W.heap[g]? = some (.cells #[u, v] 28 (0, 0))
section
variable {W V : World} {g g' : Nat} {u v a b : Value}
theorem Ry.lt (h : Ry W g u v) : g < W.heap.size := (Array.getElem?_eq_some_iff.1 h).1
theorem Ry.below (h : Ry W g u v) (hb : Below W.heap.size W V) : Ry V g u v := (hb.block g h.lt).trans h
theorem Ry.alloc (h : Ry W g u v) (o : Obj) : Ry (W.alloc o) g u v := (Below.heap_alloc W o g h.lt).trans h
theorem Ry.new (W : World) (u v : Value) : Ry (W.alloc (.cells #[u, v] 28)) W.heap.size u v := heap_alloc_new W _
theorem Ry.other (h : Ry W g u v) (hne : g ≠ g') : Ry ((W.setCell ⟨g', 0, none⟩ a).setCell ⟨g', 1, none⟩ b) g u v :=
  (heap_setCell_other _ _ _ _ hne).trans ((heap_setCell_other _ _ _ _ hne).trans h)
theorem Ry.set (h : Ry W g u v) : Ry ((W.setCell ⟨g, 0, none⟩ a).setCell ⟨g, 1, none⟩ b) g a b := by
  unfold Ry at *
  rw [heap_setCell_same _ g 1 #[a, v] _ _ (by rw [heap_setCell_same _ g 0 #[u, v] _ _ h]; rfl)]; rfl
theorem Ry.c0 (h : Ry W g u v) : W.cell? ⟨g, 0, none⟩ = some u := blk_cell h 0 rfl
theorem Ry.f (h : Ry W g u v) (i : Nat) : W.frozen? ⟨g, i, none⟩ = false := blk_frozen h i
theorem Ry.c1 (h : Ry W g u v) : W.cell? ⟨g, 1, none⟩ = some v := blk_cell h 1 rfl
end
abbrev SaysA (f : FuncId) (args : Array Value) (w : World) (x : Bool) : Prop := ∀ W, Below w.heap.size w W → Calls Try.prog f args W fun e w' => e = .returned (.bool x) ∧ Below W.heap.size W w'
abbrev GivR (f : FuncId) (args : Array Value) (w : World) (N D E : Int) : Prop :=
  ∀ W, Below w.heap.size w W → Calls Try.prog f args W fun e w' => e = .returned (.tuple #[.agg #[.int .i64 N, .int .i64 D], .int .i64 E]) ∧ Below W.heap.size W w'

set_option maxRecDepth 100000 in
set_option maxHeartbeats 16000000 in
theorem areas_core (ns ss : List Int) (A B : Option Addr) (c d : Nat) (N D : Int) (w : World)
    (hL : SaysA 15 #[(.agg #[.slice A ns.length c, .slice B ss.length d])] w false) (hV : SaysA 22 #[(.agg #[.slice A ns.length c, .slice B ss.length d])] w true)
    (hA : GivR 40 #[(.agg #[.slice A ns.length c, .slice B ss.length d])] w N D 0) (hP : GivR 42 #[(.agg #[.slice A ns.length c, .slice B ss.length d])] w N D 0)
    (hS : ∀ W, Below w.heap.size w W → Calls Try.prog 49 #[(.agg #[.slice A ns.length c, .slice B ss.length d])] W fun e w' => ∃ S' s' N' n', e = .returned (.tuple #[.agg #[.slice S' ss.length s', .slice N' ns.length n'], .int .i64 0]) ∧ Out w' S' s' ss ∧ Out w' N' n' ns ∧ Below W.heap.size W w')
    (hC : ∀ W, Below w.heap.size w W → Calls Try.prog 38 #[(.agg #[.slice A ns.length c, .slice B ss.length d])] W fun e w' => ∃ A' c', e = .returned (.tuple #[.slice A' (ns.length + 1) c', .int .i64 0]) ∧ QOut w' A' c' (cuL ns ss (ns.length + 1)) ∧ Below W.heap.size W w')
    (hA2 : ∀ W S s N' n', Out W S s ss → Out W N' n' ns → Calls Try.prog 40 #[.agg #[.slice S ss.length s, .slice N' ns.length n']] W fun e w' => e = .returned (.tuple #[.agg #[.int .i64 N, .int .i64 D], .int .i64 0]) ∧ Below W.heap.size W w')
    (hS2 : ∀ W S s N' n', Out W S s ss → Out W N' n' ns → Calls Try.prog 49 #[.agg #[.slice S ss.length s, .slice N' ns.length n']] W fun e w' => ∃ M m R r, e = .returned (.tuple #[.agg #[.slice M ns.length m, .slice R ss.length r], .int .i64 0]) ∧ Out w' M m ns ∧ Out w' R r ss ∧ Below W.heap.size W w')
    (hT : ∀ (k : Nat), k ≤ ns.length → ∀ W, Below w.heap.size w W → Calls Try.prog 26 #[(.agg #[.slice A ns.length c, .slice B ss.length d]), .int .i64 k] W fun e w' => ∃ A' c', e = .returned (.tuple #[.slice A' (ctL ns ss k).length c', .int .i64 0]) ∧ Out w' A' c' (ctL ns ss k) ∧ Below W.heap.size W w')
    (hK : ∀ (k : Nat), k ≤ ns.length → ∀ W A' c', Below w.heap.size w W → Out W A' c' (ctL ns ss k) → Calls Try.prog 53 #[(.agg #[.slice A ns.length c, .slice B ss.length d]), .slice A' (ctL ns ss k).length c'] W fun e w' => e = .returned (.tuple #[.agg #[.int .i64 (cuQ ns ss k).1.1, .int .i64 (cuQ ns ss k).1.2], .agg #[.int .i64 (cuQ ns ss k).2.1, .int .i64 (cuQ ns ss k).2.2], .bool true]) ∧ Below W.heap.size W w')
    (hOA : Out w A c ns) (hOB : Out w B d ss) (hn10 : ns.length ≤ 10) (hsm : smB N D = true) (hhalf : D ≤ 2 * N)
    (hbd : ∀ k, k ≤ ns.length → (-2000000000 ≤ (cuQ ns ss k).1.1 ∧ (cuQ ns ss k).1.1 ≤ 2000000000) ∧ (0 ≤ (cuQ ns ss k).1.2 ∧ (cuQ ns ss k).1.2 ≤ 2000000000) ∧ (-2000000000 ≤ (cuQ ns ss k).2.1 ∧ (cuQ ns ss k).2.1 ≤ 2000000000) ∧ (0 ≤ (cuQ ns ss k).2.2 ∧ (cuQ ns ss k).2.2 ≤ 2000000000))
    (hab : ∀ k, k ≤ ns.length → decide ((cuQ ns ss k).2.1 * (cuQ ns ss k).1.2 < (cuQ ns ss k).1.1 * (cuQ ns ss k).2.2) = false)
    (hmo : ∀ k, k < ns.length → decide ((cuQ ns ss (k + 1)).1.1 * (cuQ ns ss k).1.2 < (cuQ ns ss k).1.1 * (cuQ ns ss (k + 1)).1.2) = false ∧ decide ((cuQ ns ss (k + 1)).2.1 * (cuQ ns ss k).2.2 < (cuQ ns ss k).2.1 * (cuQ ns ss (k + 1)).2.2) = false)
    (hfi : cuQ ns ss 0 = ((0, 1), (0, 1))) (hla : cuQ ns ss ns.length = ((1, 1), (1, 1))) :
    Calls Try.prog 10 #[(.agg #[.slice A ns.length c, .slice B ss.length d])] w fun e w' => e = .returned (.bool true) ∧ Below w.heap.size w w' := by
  have HL := Lib.hid hL
  have HV := Lib.hid hV
  have HA := Lib.hid hA
  have HP := Lib.hid hP
  have HS := Lib.hid hS
  have HC := Lib.hid hC
  have HA2 := Lib.hid hA2
  have HS2 := Lib.hid hS2
  have HT := Lib.hid hT
  have HK := Lib.hid hK
  have HOA := Lib.hid hOA
  have HOB := Lib.hid hOB
  have HBD := Lib.hid hbd
  have HAB := Lib.hid hab
  have HMO := Lib.hid hmo
  have HFI := Lib.hid hfi
  have HLA := Lib.hid hla
  obtain ⟨dp1, dp2, np1, np2⟩ := sm_of hsm
  have HSM := Lib.hid hsm
  have hd2 : decide (2 * N < D) = false := decide_eq_false (by omega)
  have hw2 : IntKind.i64.wrap (2 * N) = 2 * N := IntWalk.i64_in _ (by omega)
  have hwn : IntKind.i64.wrap ((ns.length : Int) + 1) = (ns.length : Int) + 1 := IntWalk.i64_in _ (by omega)
  clear hL hV hA hP hS hC hA2 hS2 hT hK hOA hOB hbd hab hmo hfi hla hsm hhalf
  obtain ⟨W0, hW0, HW, HO, z0⟩ := one_new w #[.slice A ns.length c, .slice B ss.length d] 24
  have HO : Hid (Oy W0 w.heap.size (.slice A ns.length c) (.slice B ss.length d)) := HO
  clear z0
  go_enter Try.func10, Try.ntmps10
  go_upto_region 3 with (first
    | (go_at_call 15; with_reducible refine (HL.out _ (by repeat (first | with_reducible exact Below.refl _ _ | with_reducible assumption | refine below_drewN ?_ _ | with_reducible refine Below.drew ?_ | (refine Below.setCell ?_ (by first | (simp; done) | (simp; omega) | omega) _) | (refine Below.alloc ?_ (by first | (simp; done) | (simp; omega) | omega) _)))).mono ?_; rintro e v1 ⟨rfl, hB1⟩; rw [← hW0] at hB1; have HO := Lib.hid (Oy.below HO.out hB1); have b0 := HO.out.c0; have b1 := HO.out.c1; have HW : Hid (Below w.heap.size w _) := Lib.hid (below_step HW.out hB1); clear hB1)
    | (go_at_call 22; with_reducible refine (HV.out _ HW.out).mono ?_; rintro e v2 ⟨rfl, hB2⟩; have HO := Lib.hid (Oy.below HO.out hB2); have b0 := HO.out.c0; have b1 := HO.out.c1; have HW : Hid (Below w.heap.size w _) := Lib.hid (below_step HW.out hB2); clear hB2)
    | fail)
  go_upto_region 4 with (go_at_call 40; with_reducible refine (HA.out _ HW.out).mono ?_; rintro e v3 ⟨rfl, hB3⟩; have HO := Lib.hid (Oy.below HO.out hB3); have b0 := HO.out.c0; have b1 := HO.out.c1; have HW : Hid (Below w.heap.size w _) := Lib.hid (below_step HW.out hB3); clear hB3)
  have HLT := HO.out.lt
  obtain ⟨X3, hX3, HW, HX, HO⟩ : ∃ X, (v3.alloc (.cells #[.int .i64 N, .int .i64 D] 28)) = X ∧ Hid (Below w.heap.size w X) ∧ Hid (Ry X v3.heap.size (.int .i64 N) (.int .i64 D)) ∧ Hid (Oy X w.heap.size (.slice A ns.length c) (.slice B ss.length d)) :=
    ⟨_, rfl, Lib.hid (Below.alloc HW.out HW.out.size _), Lib.hid (Ry.new _ _ _), Lib.hid (HO.out.alloc _)⟩
  rw [hX3]
  clear hX3 HLT
  obtain ⟨gx, hgx⟩ : ∃ g, v3.heap.size = g := ⟨_, rfl⟩
  rw [hgx] at HX ⊢
  clear hgx
  have x0 := HX.out.c0
  have x1 := HX.out.c1
  have b0 := HO.out.c0
  have b1 := HO.out.c1
  go_upto_region 5 with (go_at_call 42; with_reducible refine (HP.out _ HW.out).mono ?_; rintro e v4 ⟨rfl, hB4⟩; have HO := Lib.hid (Oy.below HO.out hB4); have b0 := HO.out.c0; have b1 := HO.out.c1; have HX := Lib.hid (Ry.below HX.out hB4); have x0 := HX.out.c0; have x1 := HX.out.c1; have HW : Hid (Below w.heap.size w _) := Lib.hid (below_step HW.out hB4); clear hB4)
  have HLT := HX.out.lt
  obtain ⟨X4, hX4, HW, HY, HO, HX⟩ : ∃ X, (v4.alloc (.cells #[.int .i64 N, .int .i64 D] 28)) = X ∧ Hid (Below w.heap.size w X) ∧ Hid (Ry X v4.heap.size (.int .i64 N) (.int .i64 D)) ∧ Hid (Oy X w.heap.size (.slice A ns.length c) (.slice B ss.length d)) ∧ Hid (Ry X gx (.int .i64 N) (.int .i64 D)) :=
    ⟨_, rfl, Lib.hid (Below.alloc HW.out HW.out.size _), Lib.hid (Ry.new _ _ _), Lib.hid (HO.out.alloc _), Lib.hid (HX.out.alloc _)⟩
  rw [hX4]
  clear hX4 HLT
  obtain ⟨gy, hgy⟩ : ∃ g, v4.heap.size = g := ⟨_, rfl⟩
  rw [hgy] at HY ⊢
  clear hgy
  have y0 := HY.out.c0
  have y1 := HY.out.c1
  have b0 := HO.out.c0
  have b1 := HO.out.c1
  have x0 := HX.out.c0
  have x1 := HX.out.c1
  go_upto_region 6 with (go_at_call 49; with_reducible refine (HS.out _ HW.out).mono ?_; rintro e v5 ⟨S5, s5, N5, n5, rfl, ho1, ho2, hB5⟩; have HO := Lib.hid (Oy.below HO.out hB5); have b0 := HO.out.c0; have b1 := HO.out.c1; have HX := Lib.hid (Ry.below HX.out hB5); have x0 := HX.out.c0; have x1 := HX.out.c1; have HY := Lib.hid (Ry.below HY.out hB5); have y0 := HY.out.c0; have y1 := HY.out.c1; have HW : Hid (Below w.heap.size w _) := Lib.hid (below_step HW.out hB5); have HO1 := Lib.hid ho1; have HO2 := Lib.hid ho2; clear ho1 ho2; clear hB5)
  have HLT := HY.out.lt
  obtain ⟨X5, hX5, HW, HSB, HO, HX, HY, HO1, HO2⟩ : ∃ X, (v5.alloc (.cells #[.slice S5 ss.length s5, .slice N5 ns.length n5] 24)) = X ∧ Hid (Below w.heap.size w X) ∧ Hid (Oy X v5.heap.size (.slice S5 ss.length s5) (.slice N5 ns.length n5)) ∧ Hid (Oy X w.heap.size (.slice A ns.length c) (.slice B ss.length d)) ∧ Hid (Ry X gx (.int .i64 N) (.int .i64 D)) ∧ Hid (Ry X gy (.int .i64 N) (.int .i64 D)) ∧ Hid (Out X S5 s5 ss) ∧ Hid (Out X N5 n5 ns) :=
    ⟨_, rfl, Lib.hid (Below.alloc HW.out HW.out.size _), Lib.hid (Oy.new _ _ _), Lib.hid (HO.out.alloc _), Lib.hid (HX.out.alloc _), Lib.hid (HY.out.alloc _), Lib.hid (HO1.out.below (Below.alloc (Below.refl _ _) (Nat.le_refl _) _)), Lib.hid (HO2.out.below (Below.alloc (Below.refl _ _) (Nat.le_refl _) _))⟩
  rw [hX5]
  clear hX5 HLT
  obtain ⟨gs, hgs⟩ : ∃ g, v5.heap.size = g := ⟨_, rfl⟩
  rw [hgs] at HSB ⊢
  clear hgs
  have s0 := HSB.out.c0
  have s1 := HSB.out.c1
  have b0 := HO.out.c0
  have b1 := HO.out.c1
  have x0 := HX.out.c0
  have x1 := HX.out.c1
  have y0 := HY.out.c0
  have y1 := HY.out.c1
  go_upto_region 7 with (go_at_call 38; with_reducible refine (HC.out _ HW.out).mono ?_; rintro e v6 ⟨A1, c1, rfl, hq1, hB6⟩; have HO := Lib.hid (Oy.below HO.out hB6); have b0 := HO.out.c0; have b1 := HO.out.c1; have HX := Lib.hid (Ry.below HX.out hB6); have x0 := HX.out.c0; have x1 := HX.out.c1; have HY := Lib.hid (Ry.below HY.out hB6); have y0 := HY.out.c0; have y1 := HY.out.c1; have HSB := Lib.hid (Oy.below HSB.out hB6); have s0 := HSB.out.c0; have s1 := HSB.out.c1; have HO1 := Lib.hid (Out.below HO1.out hB6); have HO2 := Lib.hid (Out.below HO2.out hB6); have HW : Hid (Below w.heap.size w _) := Lib.hid (below_step HW.out hB6); have HQ1 := Lib.hid hq1; clear hq1; clear hB6)
  have hsmv := HSM.out
  go_upto_region 9 with (go_at_call 57; with_reducible refine (small_any N D _).mono ?_; rintro e v7 ⟨rfl, hB7⟩; rw [HSM.out]; have HO := Lib.hid (Oy.below HO.out hB7); have b0 := HO.out.c0; have b1 := HO.out.c1; have HX := Lib.hid (Ry.below HX.out hB7); have x0 := HX.out.c0; have x1 := HX.out.c1; have HY := Lib.hid (Ry.below HY.out hB7); have y0 := HY.out.c0; have y1 := HY.out.c1; have HSB := Lib.hid (Oy.below HSB.out hB7); have s0 := HSB.out.c0; have s1 := HSB.out.c1; have HO1 := Lib.hid (Out.below HO1.out hB7); have HO2 := Lib.hid (Out.below HO2.out hB7); have HQ1 := Lib.hid (QOut.below HQ1.out hB7); have HW : Hid (Below w.heap.size w _) := Lib.hid (below_step HW.out hB7); clear hB7)
  go_upto_region 10 with (go_at_call 40; with_reducible refine (HA2.out _ S5 s5 N5 n5 HO1.out HO2.out).mono ?_; rintro e v9 ⟨rfl, hB9⟩; have HO := Lib.hid (Oy.below HO.out hB9); have b0 := HO.out.c0; have b1 := HO.out.c1; have HX := Lib.hid (Ry.below HX.out hB9); have x0 := HX.out.c0; have x1 := HX.out.c1; have HY := Lib.hid (Ry.below HY.out hB9); have y0 := HY.out.c0; have y1 := HY.out.c1; have HSB := Lib.hid (Oy.below HSB.out hB9); have s0 := HSB.out.c0; have s1 := HSB.out.c1; have HO1 := Lib.hid (Out.below HO1.out hB9); have HO2 := Lib.hid (Out.below HO2.out hB9); have HQ1 := Lib.hid (QOut.below HQ1.out hB9); have HW : Hid (Below w.heap.size w _) := Lib.hid (below_step HW.out hB9); clear hB9)
  have HLT := HSB.out.lt
  obtain ⟨X9, hX9, HW, HZ, HO, HX, HY, HSB, HO1, HO2, HQ1⟩ : ∃ X, (v9.alloc (.cells #[.int .i64 N, .int .i64 D] 28)) = X ∧ Hid (Below w.heap.size w X) ∧ Hid (Ry X v9.heap.size (.int .i64 N) (.int .i64 D)) ∧ Hid (Oy X w.heap.size (.slice A ns.length c) (.slice B ss.length d)) ∧ Hid (Ry X gx (.int .i64 N) (.int .i64 D)) ∧ Hid (Ry X gy (.int .i64 N) (.int .i64 D)) ∧ Hid (Oy X gs (.slice S5 ss.length s5) (.slice N5 ns.length n5)) ∧ Hid (Out X S5 s5 ss) ∧ Hid (Out X N5 n5 ns) ∧ Hid (QOut X A1 c1 (cuL ns ss (ns.length + 1))) :=
    ⟨_, rfl, Lib.hid (Below.alloc HW.out HW.out.size _), Lib.hid (Ry.new _ _ _), Lib.hid (HO.out.alloc _), Lib.hid (HX.out.alloc _), Lib.hid (HY.out.alloc _), Lib.hid (HSB.out.alloc _), Lib.hid (HO1.out.below (Below.alloc (Below.refl _ _) (Nat.le_refl _) _)), Lib.hid (HO2.out.below (Below.alloc (Below.refl _ _) (Nat.le_refl _) _)), Lib.hid (HQ1.out.below (Below.alloc (Below.refl _ _) (Nat.le_refl _) _))⟩
  rw [hX9]
  clear hX9 HLT
  obtain ⟨gz, hgz⟩ : ∃ g, v9.heap.size = g := ⟨_, rfl⟩
  rw [hgz] at HZ ⊢
  clear hgz
  have z0 := HZ.out.c0
  have z1 := HZ.out.c1
  have b0 := HO.out.c0
  have b1 := HO.out.c1
  have x0 := HX.out.c0
  have x1 := HX.out.c1
  have y0 := HY.out.c0
  have y1 := HY.out.c1
  have s0 := HSB.out.c0
  have s1 := HSB.out.c1
  go_upto_region 11 with (go_at_call 49; with_reducible refine (HS2.out _ S5 s5 N5 n5 HO1.out HO2.out).mono ?_; rintro e v10 ⟨M6, m6, R6, r6, rfl, ho3, ho4, hB10⟩; have HO := Lib.hid (Oy.below HO.out hB10); have b0 := HO.out.c0; have b1 := HO.out.c1; have HX := Lib.hid (Ry.below HX.out hB10); have x0 := HX.out.c0; have x1 := HX.out.c1; have HZ := Lib.hid (Ry.below HZ.out hB10); have z0 := HZ.out.c0; have z1 := HZ.out.c1; have HQ1 := Lib.hid (QOut.below HQ1.out hB10); have HW : Hid (Below w.heap.size w _) := Lib.hid (below_step HW.out hB10); have HO3 := Lib.hid ho3; have HO4 := Lib.hid ho4; clear ho3 ho4; clear hB10)
  have HLT := HZ.out.lt
  obtain ⟨X10, hX10, HW, HTB, HO, HX, HZ, HQ1, HO3, HO4⟩ : ∃ X, (v10.alloc (.cells #[.slice M6 ns.length m6, .slice R6 ss.length r6] 24)) = X ∧ Hid (Below w.heap.size w X) ∧ Hid (Oy X v10.heap.size (.slice M6 ns.length m6) (.slice R6 ss.length r6)) ∧ Hid (Oy X w.heap.size (.slice A ns.length c) (.slice B ss.length d)) ∧ Hid (Ry X gx (.int .i64 N) (.int .i64 D)) ∧ Hid (Ry X gz (.int .i64 N) (.int .i64 D)) ∧ Hid (QOut X A1 c1 (cuL ns ss (ns.length + 1))) ∧ Hid (Out X M6 m6 ns) ∧ Hid (Out X R6 r6 ss) :=
    ⟨_, rfl, Lib.hid (Below.alloc HW.out HW.out.size _), Lib.hid (Oy.new _ _ _), Lib.hid (HO.out.alloc _), Lib.hid (HX.out.alloc _), Lib.hid (HZ.out.alloc _), Lib.hid (HQ1.out.below (Below.alloc (Below.refl _ _) (Nat.le_refl _) _)), Lib.hid (HO3.out.below (Below.alloc (Below.refl _ _) (Nat.le_refl _) _)), Lib.hid (HO4.out.below (Below.alloc (Below.refl _ _) (Nat.le_refl _) _))⟩
  rw [hX10]
  clear hX10 HLT
  obtain ⟨gt, hgt⟩ : ∃ g, v10.heap.size = g := ⟨_, rfl⟩
  rw [hgt] at HTB ⊢
  clear hgt
  have t0 := HTB.out.c0
  have t1 := HTB.out.c1
  have b0 := HO.out.c0
  have b1 := HO.out.c1
  have x0 := HX.out.c0
  have x1 := HX.out.c1
  have z0 := HZ.out.c0
  have z1 := HZ.out.c1
  go_upto_region 13 with (go_at_call 48; with_reducible refine (same_yes ns ss M6 R6 A B m6 r6 c d _ HO3.out HO4.out (HOA.out.below HW.out) (HOB.out.below HW.out)).mono ?_; rintro e v11 ⟨rfl, hB11⟩; have HO := Lib.hid (Oy.below HO.out hB11); have b0 := HO.out.c0; have b1 := HO.out.c1; have HQ1 := Lib.hid (QOut.below HQ1.out hB11); have HW : Hid (Below w.heap.size w _) := Lib.hid (below_step HW.out hB11); clear hB11)
  go_upto_region 14 with (fail)
  have HLT := HO.out.lt
  obtain ⟨X13, hX13, HW, HZE, HON, HO, HQ1⟩ : ∃ X, ((v11.alloc (.cells #[.int .i64 0, .int .i64 1] 28)).alloc (.cells #[.int .i64 1, .int .i64 1] 28)) = X ∧ Hid (Below w.heap.size w X) ∧ Hid (Ry X v11.heap.size (.int .i64 0) (.int .i64 1)) ∧ Hid (Ry X (v11.heap.size + 1) (.int .i64 1) (.int .i64 1)) ∧ Hid (Oy X w.heap.size (.slice A ns.length c) (.slice B ss.length d)) ∧ Hid (QOut X A1 c1 (cuL ns ss (ns.length + 1))) :=
    ⟨_, rfl, Lib.hid (Below.alloc (Below.alloc HW.out HW.out.size _) (by have := HW.out.size; simp; omega) _), Lib.hid ((Ry.new _ _ _).alloc _), Lib.hid (by have := Ry.new (v11.alloc (.cells #[.int .i64 0, .int .i64 1] 28)) (.int .i64 1) (.int .i64 1); simpa using this), Lib.hid ((HO.out.alloc _).alloc _), Lib.hid (HQ1.out.below ((Below.alloc (Below.refl _ _) (Nat.le_refl _) _).alloc (by simp) _))⟩
  rw [hX13]
  clear hX13 HLT
  obtain ⟨ge, hge⟩ : ∃ g, v11.heap.size = g := ⟨_, rfl⟩
  try rw [hge] at HZE HON ⊢
  clear hge
  have e0 := HZE.out.c0
  have e1 := HZE.out.c1
  have o0 := HON.out.c0
  have o1 := HON.out.c1
  have b0 := HO.out.c0
  have b1 := HO.out.c1
  have HKL : Hid (∀ W, Below X13.heap.size X13 W → (W.cell? ⟨w.heap.size, 0, none⟩ = some (.slice A ns.length c) ∧ W.cell? ⟨w.heap.size, 1, none⟩ = some (.slice B ss.length d)) ∧ (W.cell? ⟨ge, 0, none⟩ = some (.int .i64 0) ∧ W.cell? ⟨ge, 1, none⟩ = some (.int .i64 1)) ∧ (W.cell? ⟨ge + 1, 0, none⟩ = some (.int .i64 1) ∧ W.cell? ⟨ge + 1, 1, none⟩ = some (.int .i64 1)) ∧ QOut W A1 c1 (cuL ns ss (ns.length + 1)) ∧ Below w.heap.size w W) := Lib.hid fun W hW =>
    have q0 := HO.out.below hW
    have q1 := HZE.out.below hW
    have q2 := HON.out.below hW
    ⟨⟨q0.c0, q0.c1⟩, ⟨q1.c0, q1.c1⟩, ⟨q2.c0, q2.c1⟩, HQ1.out.below hW, below_step HW.out hW⟩
  go_wp2
  clear b0 b1 e0 e1 o0 o1
  go_loopw [122] (fun i wr => ∃ k : Nat, k ≤ ns.length + 1 ∧ i = .int .i64 k ∧ Hid (Below X13.heap.size X13 wr)) (fun i _ => ns.length + 1 - (intOf i).toNat)
  case atStart => exact ⟨0, Nat.zero_le _, rfl, Lib.hid (Below.refl _ _)⟩
  case round =>
    obtain ⟨k, hk, rfl, hB⟩ := hrel
    rename World => wr
    obtain ⟨⟨b0, b1⟩, ⟨e0, e1⟩, ⟨o0, o1⟩, hq, hww⟩ := HKL.out wr hB.out
    obtain ⟨g1, p1, rfl, hg1, hc1⟩ := hq.open_ (by rw [cu_len]; omega)
    by_cases hlt : k < ns.length + 1
    · have hkn : k ≤ ns.length := by omega
      obtain ⟨r0, r1, r2, r3⟩ := hc1 k _ (cu_get hlt)
      have HTk := Lib.hid (HT.out k hkn)
      have HKk := Lib.hid (HK.out k hkn)
      have hbk := HBD.out k hkn
      have hak := HAB.out k hkn
      have HPV : Hid (∀ j, k = j + 1 → (wr.cell? ⟨g1, p1 + j * 4, none⟩ = some (.int .i64 (cuQ ns ss j).1.1) ∧ wr.cell? ⟨g1, p1 + j * 4 + 1, none⟩ = some (.int .i64 (cuQ ns ss j).1.2) ∧ wr.cell? ⟨g1, p1 + j * 4 + 2, none⟩ = some (.int .i64 (cuQ ns ss j).2.1) ∧ wr.cell? ⟨g1, p1 + j * 4 + 3, none⟩ = some (.int .i64 (cuQ ns ss j).2.2)) ∧ decide ((cuQ ns ss k).1.1 * (cuQ ns ss j).1.2 < (cuQ ns ss j).1.1 * (cuQ ns ss k).1.2) = false ∧ decide ((cuQ ns ss k).2.1 * (cuQ ns ss j).2.2 < (cuQ ns ss j).2.1 * (cuQ ns ss k).2.2) = false ∧ (-2000000000 ≤ (cuQ ns ss j).1.1 ∧ (cuQ ns ss j).1.1 ≤ 2000000000) ∧ (0 ≤ (cuQ ns ss j).1.2 ∧ (cuQ ns ss j).1.2 ≤ 2000000000) ∧ (-2000000000 ≤ (cuQ ns ss j).2.1 ∧ (cuQ ns ss j).2.1 ≤ 2000000000) ∧ (0 ≤ (cuQ ns ss j).2.2 ∧ (cuQ ns ss j).2.2 ≤ 2000000000)) := Lib.hid fun j hj => by
        subst hj
        exact ⟨hc1 j _ (cu_get (by omega)), (HMO.out j (by omega)).1, (HMO.out j (by omega)).2, HBD.out j (by omega)⟩
      obtain ⟨m1, hm1⟩ : ∃ x, (cuQ ns ss k).1.1 = x := ⟨_, rfl⟩
      obtain ⟨m2, hm2⟩ : ∃ x, (cuQ ns ss k).1.2 = x := ⟨_, rfl⟩
      obtain ⟨m3, hm3⟩ : ∃ x, (cuQ ns ss k).2.1 = x := ⟨_, rfl⟩
      obtain ⟨m4, hm4⟩ : ∃ x, (cuQ ns ss k).2.2 = x := ⟨_, rfl⟩
      rw [hm1, hm2, hm3, hm4] at HKk hbk hak HPV
      rw [hm1] at r0
      rw [hm2] at r1
      rw [hm3] at r2
      rw [hm4] at r3
      clear hm1 hm2 hm3 hm4 hq hc1
      obtain ⟨f1, f2, f3, f4⟩ := hbk
      have heq := eq_pair m1 m2 m3 m4
      have hne := ne_pair m1 m2 m3 m4
      have ki : (k : Int) < (ns.length : Int) + 1 := by omega
      have HWr := Lib.hid hww
      clear hww
      obtain ⟨cs, hcs⟩ : ∃ cs, ctL ns ss k = cs := ⟨_, rfl⟩
      rw [hcs] at HTk HKk
      clear hcs
      go_upto_region 17 with (fail)
      have HBw : Hid (Below wr.heap.size wr (wr.alloc (.cells #[.int .i64 m1, .int .i64 m2, .int .i64 m3, .int .i64 m4] 47))) := Lib.hid (Below.alloc (Below.refl _ _) (Nat.le_refl _) _)
      have HXB : Hid ((wr.alloc (.cells #[.int .i64 m1, .int .i64 m2, .int .i64 m3, .int .i64 m4] 47)).heap[wr.heap.size]? = some (.cells #[.int .i64 m1, .int .i64 m2, .int .i64 m3, .int .i64 m4] 47 (0, 0))) := Lib.hid (heap_alloc_new wr _)
      obtain ⟨U1, hU1⟩ : ∃ X, wr.alloc (.cells #[.int .i64 m1, .int .i64 m2, .int .i64 m3, .int .i64 m4] 47) = X := ⟨_, rfl⟩
      rw [hU1] at HBw HXB ⊢
      clear hU1
      have hxl : wr.heap.size < U1.heap.size := (Array.getElem?_eq_some_iff.1 HXB.out).1
      clear b0 b1 e0 e1 o0 o1
      have HK1 := Lib.hid fun (W : World) (hW : Below U1.heap.size U1 W) => (HKL.out W (below_step hB.out (below_step HBw.out hW))).1
      obtain ⟨b0, b1⟩ := HK1.out U1 (Below.refl _ _)
      go_upto_region 18 with (go_at_call 26; with_reducible refine (HTk.out _ (below_step HWr.out HBw.out)).mono ?_; rintro e u2 ⟨A', c', rfl, hoc, hb2⟩; have HU2 := Lib.hid hb2; have HOC := Lib.hid hoc; clear hb2 hoc b0 b1)
      obtain ⟨b0, b1⟩ := HK1.out u2 HU2.out
      go_upto_region 19 with (go_at_call 53; with_reducible refine (HKk.out _ A' c' (below_step (below_step HWr.out HBw.out) HU2.out) HOC.out).mono ?_; rintro e u3 ⟨rfl, hb3⟩; have HU3 := Lib.hid (below_step HU2.out hb3); clear hb3 b0 b1)
      have HNB : Hid (((u3.alloc (.cells #[.int .i64 m1, .int .i64 m2] 28)).alloc (.cells #[.int .i64 m3, .int .i64 m4] 28)).heap[u3.heap.size]? = some (.cells #[.int .i64 m1, .int .i64 m2] 28 (0, 0))) := Lib.hid (heap_alloc2_old _ _ _)
      have HSG : Hid (((u3.alloc (.cells #[.int .i64 m1, .int .i64 m2] 28)).alloc (.cells #[.int .i64 m3, .int .i64 m4] 28)).heap[u3.heap.size + 1]? = some (.cells #[.int .i64 m3, .int .i64 m4] 28 (0, 0))) := Lib.hid (heap_alloc2_new _ _ _)
      have HU4 : Hid (Below U1.heap.size U1 ((u3.alloc (.cells #[.int .i64 m1, .int .i64 m2] 28)).alloc (.cells #[.int .i64 m3, .int .i64 m4] 28))) := Lib.hid (Below.alloc (Below.alloc HU3.out HU3.out.size _) (by have := HU3.out.size; simp; omega) _)
      obtain ⟨U4, hU4⟩ : ∃ X, (u3.alloc (.cells #[.int .i64 m1, .int .i64 m2] 28)).alloc (.cells #[.int .i64 m3, .int .i64 m4] 28) = X := ⟨_, rfl⟩
      rw [hU4] at HNB HSG HU4 ⊢
      clear hU4
      have l1 : u3.heap.size < U4.heap.size := (Array.getElem?_eq_some_iff.1 HNB.out).1
      have l2 : u3.heap.size + 1 < U4.heap.size := (Array.getElem?_eq_some_iff.1 HSG.out).1
      have hX : Below U4.heap.size U4 U4 := Below.refl _ _
      have HEND := Lib.hid fun (W : World) (hW : Below U4.heap.size U4 W) => (below_step (below_step hB.out HBw.out) (below_step HU4.out hW) : Below X13.heap.size X13 W)
      clear r0 r1 r2 r3
      have HSX : Hid (∀ W, Below U4.heap.size U4 W → W.cell? ⟨wr.heap.size, 0, none⟩ = some (.int .i64 m1) ∧ W.cell? ⟨wr.heap.size, 1, none⟩ = some (.int .i64 m2) ∧ W.cell? ⟨wr.heap.size, 2, none⟩ = some (.int .i64 m3) ∧ W.cell? ⟨wr.heap.size, 3, none⟩ = some (.int .i64 m4) ∧ W.cell? ⟨u3.heap.size, 0, none⟩ = some (.int .i64 m1) ∧ W.cell? ⟨u3.heap.size, 1, none⟩ = some (.int .i64 m2) ∧ W.cell? ⟨u3.heap.size + 1, 0, none⟩ = some (.int .i64 m3) ∧ W.cell? ⟨u3.heap.size + 1, 1, none⟩ = some (.int .i64 m4)) := Lib.hid fun W hW =>
        have q0 := (hW.block _ (Nat.lt_of_lt_of_le hxl HU4.out.size)).trans ((HU4.out.block _ hxl).trans HXB.out)
        have q1 := (hW.block _ l1).trans HNB.out
        have q2 := (hW.block _ l2).trans HSG.out
        ⟨blk_cell q0 0 rfl, blk_cell q0 1 rfl, blk_cell q0 2 rfl, blk_cell q0 3 rfl, blk_cell q1 0 rfl, blk_cell q1 1 rfl, blk_cell q2 0 rfl, blk_cell q2 1 rfl⟩
      clear hX
      rcases Nat.eq_zero_or_pos k with hk0 | hk0
      · have hkz : decide ((0 : Int) < (k : Int)) = false := decide_eq_false (by omega)
        have hkz2 : decide (0 < k) = false := decide_eq_false (by omega)
        have hkz3 : decide ((k : Int) > (0 : Int)) = false := decide_eq_false (by omega)
        clear hk0
        have HLa : Hid (∀ V : World, Calls Try.prog 54 #[.agg #[.int .i64 m3, .int .i64 m4], .agg #[.int .i64 m1, .int .i64 m2]] V fun e w' => e = .returned (.bool false) ∧ Below V.heap.size V w') := Lib.hid fun V => by
          have := lessR_any m3 m4 m1 m2 V f3 f4 f1 f2
          rw [hak] at this
          exact this
        have y0 : ∀ g : Gw U4, g.v.cell? ⟨wr.heap.size, 0, none⟩ = some (.int .i64 m1) := fun g => (HSX.out g.v g.h).1
        have y1 : ∀ g : Gw U4, g.v.cell? ⟨wr.heap.size, 1, none⟩ = some (.int .i64 m2) := fun g => (HSX.out g.v g.h).2.1
        have y2 : ∀ g : Gw U4, g.v.cell? ⟨wr.heap.size, 2, none⟩ = some (.int .i64 m3) := fun g => (HSX.out g.v g.h).2.2.1
        have y3 : ∀ g : Gw U4, g.v.cell? ⟨wr.heap.size, 3, none⟩ = some (.int .i64 m4) := fun g => (HSX.out g.v g.h).2.2.2.1
        have y4 : ∀ g : Gw U4, g.v.cell? ⟨u3.heap.size, 0, none⟩ = some (.int .i64 m1) := fun g => (HSX.out g.v g.h).2.2.2.2.1
        have y5 : ∀ g : Gw U4, g.v.cell? ⟨u3.heap.size, 1, none⟩ = some (.int .i64 m2) := fun g => (HSX.out g.v g.h).2.2.2.2.2.1
        have y6 : ∀ g : Gw U4, g.v.cell? ⟨u3.heap.size + 1, 0, none⟩ = some (.int .i64 m3) := fun g => (HSX.out g.v g.h).2.2.2.2.2.2.1
        have y7 : ∀ g : Gw U4, g.v.cell? ⟨u3.heap.size + 1, 1, none⟩ = some (.int .i64 m4) := fun g => (HSX.out g.v g.h).2.2.2.2.2.2.2
        go_wp2
        refine wp_region_grow (by kernel_rfl) (by kernel_rfl) ?_
        repeat (go_big_quiet_step ((first
          | (go_at_call 54; with_reducible exact Calls.grow_of (HLa.out _))
          | fail)))
        refine wpQuiet_nil ?_
        rintro _ ⟨gq, rfl⟩
        have hX : Below U4.heap.size U4 gq.v := gq.h
        generalize gq.v = V1 at hX ⊢
        clear y0 y1 y2 y3 y4 y5 y6 y7
        go_wp2
        go_roundw
        case rel => exact ⟨k + 1, by omega, by go_num, Lib.hid (HEND.out _ (by first | with_reducible exact hX | with_reducible exact Below.drew hX | exact below_drewN hX _))⟩
        case measure => simp [intOf]; omega
      · have hkz : decide ((0 : Int) < (k : Int)) = true := decide_eq_true (by omega)
        have hkz2 : decide (0 < k) = true := decide_eq_true (by omega)
        have hkz3 : decide ((k : Int) > (0 : Int)) = true := decide_eq_true (by omega)
        obtain ⟨j, hj⟩ : ∃ j, k = j + 1 := ⟨k - 1, by omega⟩
        have hwj : IntKind.i64.wrap ((k : Int) - 1) = (j : Int) := by rw [IntWalk.i64_in _ (by omega)]; omega
        obtain ⟨hpc, hm1, hm2, h1, h2, h3, h4⟩ := HPV.out j hj
        have HPC := Lib.hid hpc
        clear hpc
        generalize (cuQ ns ss j).1.1 = j1 at *
        generalize (cuQ ns ss j).1.2 = j2 at *
        generalize (cuQ ns ss j).2.1 = j3 at *
        generalize (cuQ ns ss j).2.2 = j4 at *
        have jn : (j : Int) < (ns.length : Int) + 1 := by omega
        have jn2 : j < ns.length + 1 := by omega
        have jn0 : (0 : Int) ≤ (j : Int) := by omega
        have HSY : Hid (∀ W, Below U4.heap.size U4 W → W.cell? ⟨g1, p1 + j * 4, none⟩ = some (.int .i64 j1) ∧ W.cell? ⟨g1, p1 + j * 4 + 1, none⟩ = some (.int .i64 j2) ∧ W.cell? ⟨g1, p1 + j * 4 + 2, none⟩ = some (.int .i64 j3) ∧ W.cell? ⟨g1, p1 + j * 4 + 3, none⟩ = some (.int .i64 j4) ∧ W.cell? ⟨wr.heap.size, 0, none⟩ = some (.int .i64 m1) ∧ W.cell? ⟨wr.heap.size, 1, none⟩ = some (.int .i64 m2) ∧ W.cell? ⟨wr.heap.size, 2, none⟩ = some (.int .i64 m3) ∧ W.cell? ⟨wr.heap.size, 3, none⟩ = some (.int .i64 m4) ∧ W.cell? ⟨u3.heap.size, 0, none⟩ = some (.int .i64 m1) ∧ W.cell? ⟨u3.heap.size, 1, none⟩ = some (.int .i64 m2) ∧ W.cell? ⟨u3.heap.size + 1, 0, none⟩ = some (.int .i64 m3) ∧ W.cell? ⟨u3.heap.size + 1, 1, none⟩ = some (.int .i64 m4)) := Lib.hid fun W hW =>
          have q := below_step (below_step HBw.out HU4.out) hW
          ⟨(q.cell (p := ⟨g1, p1 + j * 4, none⟩) hg1).trans HPC.out.1, (q.cell (p := ⟨g1, p1 + j * 4 + 1, none⟩) hg1).trans HPC.out.2.1, (q.cell (p := ⟨g1, p1 + j * 4 + 2, none⟩) hg1).trans HPC.out.2.2.1, (q.cell (p := ⟨g1, p1 + j * 4 + 3, none⟩) hg1).trans HPC.out.2.2.2, HSX.out W hW⟩
        clear hj
        have HLa : Hid (∀ V : World, Calls Try.prog 54 #[.agg #[.int .i64 m3, .int .i64 m4], .agg #[.int .i64 m1, .int .i64 m2]] V fun e w' => e = .returned (.bool false) ∧ Below V.heap.size V w') := Lib.hid fun V => by
          have := lessR_any m3 m4 m1 m2 V f3 f4 f1 f2
          rw [hak] at this
          exact this
        have HLb : Hid (∀ V : World, Calls Try.prog 54 #[.agg #[.int .i64 m1, .int .i64 m2], .agg #[.int .i64 j1, .int .i64 j2]] V fun e w' => e = .returned (.bool false) ∧ Below V.heap.size V w') := Lib.hid fun V => by
          have := lessR_any m1 m2 j1 j2 V f1 f2 h1 h2
          rw [hm1] at this
          exact this
        have HLc : Hid (∀ V : World, Calls Try.prog 54 #[.agg #[.int .i64 m3, .int .i64 m4], .agg #[.int .i64 j3, .int .i64 j4]] V fun e w' => e = .returned (.bool false) ∧ Below V.heap.size V w') := Lib.hid fun V => by
          have := lessR_any m3 m4 j3 j4 V f3 f4 h3 h4
          rw [hm2] at this
          exact this
        have y0 : ∀ g : Gw U4, g.v.cell? ⟨g1, p1 + j * 4, none⟩ = some (.int .i64 j1) := fun g => (HSY.out g.v g.h).1
        have y1 : ∀ g : Gw U4, g.v.cell? ⟨g1, p1 + j * 4 + 1, none⟩ = some (.int .i64 j2) := fun g => (HSY.out g.v g.h).2.1
        have y2 : ∀ g : Gw U4, g.v.cell? ⟨g1, p1 + j * 4 + 2, none⟩ = some (.int .i64 j3) := fun g => (HSY.out g.v g.h).2.2.1
        have y3 : ∀ g : Gw U4, g.v.cell? ⟨g1, p1 + j * 4 + 3, none⟩ = some (.int .i64 j4) := fun g => (HSY.out g.v g.h).2.2.2.1
        have y4 : ∀ g : Gw U4, g.v.cell? ⟨wr.heap.size, 0, none⟩ = some (.int .i64 m1) := fun g => (HSY.out g.v g.h).2.2.2.2.1
        have y5 : ∀ g : Gw U4, g.v.cell? ⟨wr.heap.size, 1, none⟩ = some (.int .i64 m2) := fun g => (HSY.out g.v g.h).2.2.2.2.2.1
        have y6 : ∀ g : Gw U4, g.v.cell? ⟨wr.heap.size, 2, none⟩ = some (.int .i64 m3) := fun g => (HSY.out g.v g.h).2.2.2.2.2.2.1
        have y7 : ∀ g : Gw U4, g.v.cell? ⟨wr.heap.size, 3, none⟩ = some (.int .i64 m4) := fun g => (HSY.out g.v g.h).2.2.2.2.2.2.2.1
        have y8 : ∀ g : Gw U4, g.v.cell? ⟨u3.heap.size, 0, none⟩ = some (.int .i64 m1) := fun g => (HSY.out g.v g.h).2.2.2.2.2.2.2.2.1
        have y9 : ∀ g : Gw U4, g.v.cell? ⟨u3.heap.size, 1, none⟩ = some (.int .i64 m2) := fun g => (HSY.out g.v g.h).2.2.2.2.2.2.2.2.2.1
        have y10 : ∀ g : Gw U4, g.v.cell? ⟨u3.heap.size + 1, 0, none⟩ = some (.int .i64 m3) := fun g => (HSY.out g.v g.h).2.2.2.2.2.2.2.2.2.2.1
        have y11 : ∀ g : Gw U4, g.v.cell? ⟨u3.heap.size + 1, 1, none⟩ = some (.int .i64 m4) := fun g => (HSY.out g.v g.h).2.2.2.2.2.2.2.2.2.2.2
        go_wp2
        refine wp_region_grow (by kernel_rfl) (by kernel_rfl) ?_
        repeat (go_big_quiet_step ((first
          | (go_at_call 54; with_reducible exact Calls.grow_of (HLa.out _))
          | (go_at_call 54; with_reducible exact Calls.grow_of (HLb.out _))
          | (go_at_call 54; with_reducible exact Calls.grow_of (HLc.out _))
          | fail)))
        refine wpQuiet_nil ?_
        rintro _ ⟨gq, rfl⟩
        have hX : Below U4.heap.size U4 gq.v := gq.h
        generalize gq.v = V1 at hX ⊢
        clear y0 y1 y2 y3 y4 y5 y6 y7 y8 y9 y10 y11
        go_wp2
        go_roundw
        case rel => exact ⟨k + 1, by omega, by go_num, Lib.hid (HEND.out _ (by first | with_reducible exact hX | with_reducible exact Below.drew hX | exact below_drewN hX _))⟩
        case measure => simp [intOf]; omega
    · obtain rfl : k = ns.length + 1 := by omega
      obtain ⟨r0, r1, r2, r3⟩ := hc1 0 _ (cu_get (by omega))
      obtain ⟨t0, t1, t2, t3⟩ := hc1 ns.length _ (cu_get (by omega))
      rw [HFI.out] at r0 r1 r2 r3
      rw [HLA.out] at t0 t1 t2 t3
      rw [Nat.zero_mul, Nat.add_zero] at r0 r1 r2 r3
      clear hq hc1
      dsimp only at r0 r1 r2 r3 t0 t1 t2 t3
      have heq := eq_pair 0 1 0 1
      have heq2 := eq_pair 1 1 1 1
      have hwl : IntKind.i64.wrap ((ns.length : Int) + 1 - 1) = (ns.length : Int) := by rw [IntWalk.i64_in _ (by omega)]; omega
      have hwl2 : IntKind.i64.wrap (ns.length : Int) = (ns.length : Int) := IntWalk.i64_in _ (by omega)
      have kn0 : (0 : Int) < (ns.length : Int) + 1 := by omega
      have kn1 : (ns.length : Int) < (ns.length : Int) + 1 := by omega
      have hX : Below wr.heap.size wr wr := Below.refl _ _
      have HWr := Lib.hid hww
      clear hww
      go_upto_region 22 with (fail)
      have HSY : Hid (∀ W, Below wr.heap.size wr W → W.cell? ⟨g1, p1, none⟩ = some (.int .i64 0) ∧ W.cell? ⟨g1, p1 + 1, none⟩ = some (.int .i64 1) ∧ W.cell? ⟨g1, p1 + 2, none⟩ = some (.int .i64 0) ∧ W.cell? ⟨g1, p1 + 3, none⟩ = some (.int .i64 1) ∧ W.cell? ⟨g1, p1 + ns.length * 4, none⟩ = some (.int .i64 1) ∧ W.cell? ⟨g1, p1 + ns.length * 4 + 1, none⟩ = some (.int .i64 1) ∧ W.cell? ⟨g1, p1 + ns.length * 4 + 2, none⟩ = some (.int .i64 1) ∧ W.cell? ⟨g1, p1 + ns.length * 4 + 3, none⟩ = some (.int .i64 1) ∧ W.cell? ⟨ge, 0, none⟩ = some (.int .i64 0) ∧ W.cell? ⟨ge, 1, none⟩ = some (.int .i64 1) ∧ W.cell? ⟨ge + 1, 0, none⟩ = some (.int .i64 1) ∧ W.cell? ⟨ge + 1, 1, none⟩ = some (.int .i64 1)) := Lib.hid fun W hW =>
        have q := HKL.out W (below_step hB.out hW)
        ⟨(hW.cell (p := ⟨g1, p1, none⟩) hg1).trans r0, (hW.cell (p := ⟨g1, p1 + 1, none⟩) hg1).trans r1, (hW.cell (p := ⟨g1, p1 + 2, none⟩) hg1).trans r2, (hW.cell (p := ⟨g1, p1 + 3, none⟩) hg1).trans r3, (hW.cell (p := ⟨g1, p1 + ns.length * 4, none⟩) hg1).trans t0, (hW.cell (p := ⟨g1, p1 + ns.length * 4 + 1, none⟩) hg1).trans t1, (hW.cell (p := ⟨g1, p1 + ns.length * 4 + 2, none⟩) hg1).trans t2, (hW.cell (p := ⟨g1, p1 + ns.length * 4 + 3, none⟩) hg1).trans t3, q.2.1.1, q.2.1.2, q.2.2.1.1, q.2.2.1.2⟩
      have y0 : ∀ g : Gw wr, g.v.cell? ⟨g1, p1, none⟩ = some (.int .i64 0) := fun g => (HSY.out g.v g.h).1
      have y1 : ∀ g : Gw wr, g.v.cell? ⟨g1, p1 + 1, none⟩ = some (.int .i64 1) := fun g => (HSY.out g.v g.h).2.1
      have y2 : ∀ g : Gw wr, g.v.cell? ⟨g1, p1 + 2, none⟩ = some (.int .i64 0) := fun g => (HSY.out g.v g.h).2.2.1
      have y3 : ∀ g : Gw wr, g.v.cell? ⟨g1, p1 + 3, none⟩ = some (.int .i64 1) := fun g => (HSY.out g.v g.h).2.2.2.1
      have y4 : ∀ g : Gw wr, g.v.cell? ⟨g1, p1 + ns.length * 4, none⟩ = some (.int .i64 1) := fun g => (HSY.out g.v g.h).2.2.2.2.1
      have y5 : ∀ g : Gw wr, g.v.cell? ⟨g1, p1 + ns.length * 4 + 1, none⟩ = some (.int .i64 1) := fun g => (HSY.out g.v g.h).2.2.2.2.2.1
      have y6 : ∀ g : Gw wr, g.v.cell? ⟨g1, p1 + ns.length * 4 + 2, none⟩ = some (.int .i64 1) := fun g => (HSY.out g.v g.h).2.2.2.2.2.2.1
      have y7 : ∀ g : Gw wr, g.v.cell? ⟨g1, p1 + ns.length * 4 + 3, none⟩ = some (.int .i64 1) := fun g => (HSY.out g.v g.h).2.2.2.2.2.2.2.1
      have y8 : ∀ g : Gw wr, g.v.cell? ⟨ge, 0, none⟩ = some (.int .i64 0) := fun g => (HSY.out g.v g.h).2.2.2.2.2.2.2.2.1
      have y9 : ∀ g : Gw wr, g.v.cell? ⟨ge, 1, none⟩ = some (.int .i64 1) := fun g => (HSY.out g.v g.h).2.2.2.2.2.2.2.2.2.1
      have y10 : ∀ g : Gw wr, g.v.cell? ⟨ge + 1, 0, none⟩ = some (.int .i64 1) := fun g => (HSY.out g.v g.h).2.2.2.2.2.2.2.2.2.2.1
      have y11 : ∀ g : Gw wr, g.v.cell? ⟨ge + 1, 1, none⟩ = some (.int .i64 1) := fun g => (HSY.out g.v g.h).2.2.2.2.2.2.2.2.2.2.2
      go_wp2
      refine wp_region_grow (by kernel_rfl) (by kernel_rfl) ?_
      repeat (go_big_quiet_step ((first
        | (go_at_call 16; with_reducible exact Calls.grow_of (awake_any _))
        | fail)))
      refine wpQuiet_nil ?_
      rintro _ ⟨gq, rfl⟩
      have hX : Below wr.heap.size wr gq.v := gq.h
      generalize gq.v = V1 at hX ⊢
      clear y0 y1 y2 y3 y4 y5 y6 y7 y8 y9 y10 y11
      go_wp2
      go_ret
      exact ⟨rfl, below_step HWr.out (by first | with_reducible exact hX | with_reducible exact Below.drew hX | exact below_drewN hX _)⟩
end Go.Proofs.Ytolpbbabmcpdkaa
