/-
  The walk of ConeTurns: it returns true, whatever it is given.
-/
import Derived.Test.YtmlkdjcjfkfdiaaAlike
import Derived.Test.YtmlkdjcjfkfdiaaLawMoves
import Derived.Test.YtmlkdjcjfkfdiaaBefores
import Derived.Test.YtmlkdjcjfkfdiaaGrow
import Derived.Deep.CutRange
namespace Go.Proofs.Ytmlkdjcjfkfdiaa
open Go.RowKit Go.Shelf

theorem blk_cell {w : World} {g : Nat} {cs : Array Value} {t : TypeId} (h : w.heap[g]? = some (.cells cs t (0, 0))) (i : Nat) {u : Value} (hu : cs[i]? = some u) : w.cell? ⟨g, i, none⟩ = some u := (cell_of_row w g i cs t (0, 0) h).trans hu
theorem blk_frozen {w : World} {g : Nat} {t : TypeId} {cs : Array Value} (h : w.heap[g]? = some (.cells cs t (0, 0))) (i : Nat) : w.frozen? ⟨g, i, none⟩ = false := by
  simp [World.frozen?, h]
theorem heap_alloc2_old (w : World) (x y : Obj) : ((w.alloc x).alloc y).heap[w.heap.size]? = some x := (Below.heap_alloc (w.alloc x) y w.heap.size (by simp)).trans (heap_alloc_new w x)
theorem heap_alloc2_new (w : World) (x y : Obj) : ((w.alloc x).alloc y).heap[w.heap.size + 1]? = some y := by
  have := heap_alloc_new (w.alloc x) y
  simpa using this
theorem two_new (w : World) (xs ys : Array Value) (s t : TypeId) : ∃ W0, W0 = (w.alloc (.cells xs s)).alloc (.cells ys t) ∧ Hid (Below w.heap.size w W0) ∧ Hid (W0.heap[w.heap.size]? = some (.cells xs s (0, 0))) ∧ Hid (W0.heap[w.heap.size + 1]? = some (.cells ys t (0, 0))) :=
  ⟨_, rfl, ((Below.refl _ _).alloc (Nat.le_refl _) _).alloc (by simp) _, heap_alloc2_old w _ _, heap_alloc2_new w _ _⟩
/-- A box of 56. -/
def Bp (W : World) (g : Nat) (u v : Value) : Prop := W.heap[g]? = some (.cells #[u, v] 56 (0, 0))
section
variable {W V : World} {g g' : Nat} {u v a b : Value}
theorem Bp.lt (h : Bp W g u v) : g < W.heap.size := (Array.getElem?_eq_some_iff.1 h).1
theorem Bp.below (h : Bp W g u v) (hb : Below W.heap.size W V) : Bp V g u v := (hb.block g h.lt).trans h
theorem Bp.alloc (h : Bp W g u v) (o : Obj) : Bp (W.alloc o) g u v := (Below.heap_alloc W o g h.lt).trans h
theorem Bp.new (W : World) (u v : Value) : Bp (W.alloc (.cells #[u, v] 56)) W.heap.size u v := heap_alloc_new W _
theorem Bp.f (h : Bp W g u v) (i : Nat) : W.frozen? ⟨g, i, none⟩ = false := blk_frozen h i
theorem Bp.c0 (h : Bp W g u v) : W.cell? ⟨g, 0, none⟩ = some u := blk_cell h 0 rfl
theorem Bp.c1 (h : Bp W g u v) : W.cell? ⟨g, 1, none⟩ = some v := blk_cell h 1 rfl
end
/-- A box of 57. -/
def Xp (W : World) (g : Nat) (u v : Value) : Prop := W.heap[g]? = some (.cells #[u, v] 57 (0, 0))
section
variable {W V : World} {g g' : Nat} {u v a b : Value}
theorem Xp.lt (h : Xp W g u v) : g < W.heap.size := (Array.getElem?_eq_some_iff.1 h).1
theorem Xp.below (h : Xp W g u v) (hb : Below W.heap.size W V) : Xp V g u v := (hb.block g h.lt).trans h
theorem Xp.alloc (h : Xp W g u v) (o : Obj) : Xp (W.alloc o) g u v := (Below.heap_alloc W o g h.lt).trans h
theorem Xp.new (W : World) (u v : Value) : Xp (W.alloc (.cells #[u, v] 57)) W.heap.size u v := heap_alloc_new W _
theorem Xp.f (h : Xp W g u v) (i : Nat) : W.frozen? ⟨g, i, none⟩ = false := blk_frozen h i
theorem Xp.c0 (h : Xp W g u v) : W.cell? ⟨g, 0, none⟩ = some u := blk_cell h 0 rfl
theorem Xp.c1 (h : Xp W g u v) : W.cell? ⟨g, 1, none⟩ = some v := blk_cell h 1 rfl
end

abbrev SaysTu (f : FuncId) (args : Array Value) (w : World) (x : Bool) : Prop := ∀ W, Below w.heap.size w W → Calls Try.prog f args W fun e w' => e = .returned (.bool x) ∧ Below W.heap.size W w'

set_option maxRecDepth 100000 in
set_option maxHeartbeats 4000000 in
theorem turns_long (ms : List (Int × Int)) (A : Option Addr) (c : Nat) (p t xa xb : Int) (w : World)
    (hL : SaysTu 15 #[.slice A ms.length c] w true) :
    Calls Try.prog 12 #[.slice A ms.length c, .agg #[.int .i64 p, .int .i64 t], .agg #[.int .u8 xa, .int .u8 xb]] w fun e w' => e = .returned (.bool true) ∧ Below w.heap.size w w' := by
  have HL := Lib.hid hL
  clear hL
  obtain ⟨W0, hW0, HW, HP, HX⟩ := two_new w #[.int .i64 p, .int .i64 t] #[.int .u8 xa, .int .u8 xb] 56 57
  have HP : Hid (Bp W0 w.heap.size (.int .i64 p) (.int .i64 t)) := HP
  have HX : Hid (Xp W0 (w.heap.size + 1) (.int .u8 xa) (.int .u8 xb)) := HX
  have p0 := HP.out.c0
  have p1 := HP.out.c1
  have x0 := HX.out.c0
  have x1 := HX.out.c1
  go_enter Try.func12, Try.ntmps12
  go_wp2_with (first
    | (go_at_call 15; with_reducible refine (HL.out _ (by repeat (first | with_reducible exact Below.refl _ _ | with_reducible assumption | refine below_drewN ?_ _ | with_reducible refine Below.drew ?_ | (refine Below.setCell ?_ (by first | (simp; done) | (simp; omega) | omega) _) | (refine Below.alloc ?_ (by first | (simp; done) | (simp; omega) | omega) _)))).mono ?_; rintro e v1 ⟨rfl, hB1⟩; rw [← hW0] at hB1; have HP := Lib.hid (Bp.below HP.out hB1); have p0 := HP.out.c0; have p1 := HP.out.c1; have HX := Lib.hid (Xp.below HX.out hB1); have x0 := HX.out.c0; have x1 := HX.out.c1; have HW : Hid (Below w.heap.size w _) := Lib.hid (below_step HW.out hB1); clear hB1)
    | (go_at_call 16; refine (sane_any _).mono ?_; rintro e v15 ⟨rfl, hB15⟩; have HW : Hid (Below w.heap.size w _) := Lib.hid (below_step HW.out hB15); clear hB15)
    | fail)
  go_ret
  exact ⟨rfl, HW.out⟩

set_option maxRecDepth 100000 in
set_option maxHeartbeats 4000000 in
theorem turns_bad (ms : List (Int × Int)) (A : Option Addr) (c : Nat) (p t xa xb : Int) (w : World)
    (hL : SaysTu 15 #[.slice A ms.length c] w false)
    (hV : SaysTu 22 #[.slice A ms.length c] w false) :
    Calls Try.prog 12 #[.slice A ms.length c, .agg #[.int .i64 p, .int .i64 t], .agg #[.int .u8 xa, .int .u8 xb]] w fun e w' => e = .returned (.bool true) ∧ Below w.heap.size w w' := by
  have HL := Lib.hid hL
  have HV := Lib.hid hV
  clear hL hV
  obtain ⟨W0, hW0, HW, HP, HX⟩ := two_new w #[.int .i64 p, .int .i64 t] #[.int .u8 xa, .int .u8 xb] 56 57
  have HP : Hid (Bp W0 w.heap.size (.int .i64 p) (.int .i64 t)) := HP
  have HX : Hid (Xp W0 (w.heap.size + 1) (.int .u8 xa) (.int .u8 xb)) := HX
  have p0 := HP.out.c0
  have p1 := HP.out.c1
  have x0 := HX.out.c0
  have x1 := HX.out.c1
  go_enter Try.func12, Try.ntmps12
  go_wp2_with (first
    | (go_at_call 15; with_reducible refine (HL.out _ (by repeat (first | with_reducible exact Below.refl _ _ | with_reducible assumption | refine below_drewN ?_ _ | with_reducible refine Below.drew ?_ | (refine Below.setCell ?_ (by first | (simp; done) | (simp; omega) | omega) _) | (refine Below.alloc ?_ (by first | (simp; done) | (simp; omega) | omega) _)))).mono ?_; rintro e v1 ⟨rfl, hB1⟩; rw [← hW0] at hB1; have HP := Lib.hid (Bp.below HP.out hB1); have p0 := HP.out.c0; have p1 := HP.out.c1; have HX := Lib.hid (Xp.below HX.out hB1); have x0 := HX.out.c0; have x1 := HX.out.c1; have HW : Hid (Below w.heap.size w _) := Lib.hid (below_step HW.out hB1); clear hB1)
    | (go_at_call 22; with_reducible refine (HV.out _ HW.out).mono ?_; rintro e v2 ⟨rfl, hB2⟩; have HP := Lib.hid (Bp.below HP.out hB2); have p0 := HP.out.c0; have p1 := HP.out.c1; have HX := Lib.hid (Xp.below HX.out hB2); have x0 := HX.out.c0; have x1 := HX.out.c1; have HW : Hid (Below w.heap.size w _) := Lib.hid (below_step HW.out hB2); clear hB2)
    | (go_at_call 16; refine (sane_any _).mono ?_; rintro e v15 ⟨rfl, hB15⟩; have HW : Hid (Below w.heap.size w _) := Lib.hid (below_step HW.out hB15); clear hB15)
    | fail)
  go_ret
  exact ⟨rfl, HW.out⟩

set_option maxRecDepth 100000 in
set_option maxHeartbeats 4000000 in
theorem turns_no (ms ts : List (Int × Int)) (A : Option Addr) (c a b : Nat) (p t xa xb : Int) (y : Bool) (w : World)
    (hL : SaysTu 15 #[.slice A ms.length c] w false)
    (hV : SaysTu 22 #[.slice A ms.length c] w true)
    (hT : ∀ W, Below w.heap.size w W → Calls Try.prog 51 #[.slice A ms.length c] W fun e w' => ∃ A' c', e = .returned (.tuple #[.slice A' ms.length c', .int .i64 0]) ∧ Clk w' A' c' ts ∧ Below W.heap.size W w')
    (hTT : ∀ W A' c', Clk W A' c' ts → Calls Try.prog 51 #[.slice A' ms.length c'] W fun e w' => ∃ A' c', e = .returned (.tuple #[.slice A' ms.length c', .int .i64 0]) ∧ Clk w' A' c' ms ∧ Below W.heap.size W w')
    (hS : ∀ W A' c', Below w.heap.size w W → Clk W A' c' ms → Calls Try.prog 53 #[.slice A' ms.length c', .slice A ms.length c] W fun e w' => e = .returned (.bool true) ∧ Below W.heap.size W w')
    (hA : ∀ W A' c', Below w.heap.size w W → Clk W A' c' ts → Calls Try.prog 55 #[.slice A ms.length c, .slice A' ms.length c'] W fun e w' => e = .returned (.bool true) ∧ Below W.heap.size W w')
    (hB : ∀ W, Below w.heap.size w W → Calls Try.prog 17 #[.slice A ms.length c, .int .i64 a, .int .i64 b] W fun e w' => e = .returned (.tuple #[.bool y, .int .i64 0]) ∧ Below W.heap.size W w')
    (hBt : ∀ W A' c', Clk W A' c' ts → Calls Try.prog 17 #[.slice A' ms.length c', .int .i64 b, .int .i64 a] W fun e w' => e = .returned (.tuple #[.bool y, .int .i64 0]) ∧ Below W.heap.size W w')
    (hM : ∀ W, Below w.heap.size w W → Calls Try.prog 49 #[.slice A ms.length c, .int .i64 p, .int .i64 t] W fun e w' => ∃ A' c', e = .returned (.tuple #[.slice A' 0 c', .int .i64 2]) ∧ Below W.heap.size W w') (hn1 : 1 ≤ ms.length) (hn2 : ms.length ≤ 14) (ha : xa % (ms.length : Int) = (a : Int)) (hb : xb % (ms.length : Int) = (b : Int)) (ha0 : 0 ≤ xa ∧ xa ≤ 255) (hb0 : 0 ≤ xb ∧ xb ≤ 255) :
    Calls Try.prog 12 #[.slice A ms.length c, .agg #[.int .i64 p, .int .i64 t], .agg #[.int .u8 xa, .int .u8 xb]] w fun e w' => e = .returned (.bool true) ∧ Below w.heap.size w w' := by
  have HL := Lib.hid hL
  have HV := Lib.hid hV
  have HT := Lib.hid hT
  have HTT := Lib.hid hTT
  have HS := Lib.hid hS
  have HA := Lib.hid hA
  have HB := Lib.hid hB
  have HBt := Lib.hid hBt
  have HM := Lib.hid hM
  have hz : decide ((ms.length : Int) = 0) = false := decide_eq_false (by omega)
  cases y
  all_goals
    clear hL hV hT hTT hS hA hB hBt hM
    obtain ⟨W0, hW0, HW, HP, HX⟩ := two_new w #[.int .i64 p, .int .i64 t] #[.int .u8 xa, .int .u8 xb] 56 57
    have HP : Hid (Bp W0 w.heap.size (.int .i64 p) (.int .i64 t)) := HP
    have HX : Hid (Xp W0 (w.heap.size + 1) (.int .u8 xa) (.int .u8 xb)) := HX
    have p0 := HP.out.c0
    have p1 := HP.out.c1
    have x0 := HX.out.c0
    have x1 := HX.out.c1
    go_enter Try.func12, Try.ntmps12
    go_upto_region 7 with (first
      | (go_at_call 15; with_reducible refine (HL.out _ (by repeat (first | with_reducible exact Below.refl _ _ | with_reducible assumption | refine below_drewN ?_ _ | with_reducible refine Below.drew ?_ | (refine Below.setCell ?_ (by first | (simp; done) | (simp; omega) | omega) _) | (refine Below.alloc ?_ (by first | (simp; done) | (simp; omega) | omega) _)))).mono ?_; rintro e v1 ⟨rfl, hB1⟩; rw [← hW0] at hB1; have HP := Lib.hid (Bp.below HP.out hB1); have p0 := HP.out.c0; have p1 := HP.out.c1; have HX := Lib.hid (Xp.below HX.out hB1); have x0 := HX.out.c0; have x1 := HX.out.c1; have HW : Hid (Below w.heap.size w _) := Lib.hid (below_step HW.out hB1); clear hB1)
      | (go_at_call 22; with_reducible refine (HV.out _ HW.out).mono ?_; rintro e v2 ⟨rfl, hB2⟩; have HP := Lib.hid (Bp.below HP.out hB2); have p0 := HP.out.c0; have p1 := HP.out.c1; have HX := Lib.hid (Xp.below HX.out hB2); have x0 := HX.out.c0; have x1 := HX.out.c1; have HW : Hid (Below w.heap.size w _) := Lib.hid (below_step HW.out hB2); clear hB2)
      | (go_at_call 51; with_reducible refine (HT.out _ HW.out).mono ?_; rintro e v3 ⟨A3, c3, rfl, ho, hB3⟩; have HP := Lib.hid (Bp.below HP.out hB3); have p0 := HP.out.c0; have p1 := HP.out.c1; have HX := Lib.hid (Xp.below HX.out hB3); have x0 := HX.out.c0; have x1 := HX.out.c1; have HW : Hid (Below w.heap.size w _) := Lib.hid (below_step HW.out hB3); have HO3 := Lib.hid ho; clear ho; clear hB3)
      | (go_at_call 51; with_reducible refine (HTT.out _ A3 c3 HO3.out).mono ?_; rintro e v4 ⟨A4, c4, rfl, ho, hB4⟩; have HP := Lib.hid (Bp.below HP.out hB4); have p0 := HP.out.c0; have p1 := HP.out.c1; have HX := Lib.hid (Xp.below HX.out hB4); have x0 := HX.out.c0; have x1 := HX.out.c1; have HO3 := Lib.hid (Clk.below HO3.out hB4); have HW : Hid (Below w.heap.size w _) := Lib.hid (below_step HW.out hB4); have HO4 := Lib.hid ho; clear ho; clear hB4)
      | (go_at_call 53; with_reducible refine (HS.out _ A4 c4 HW.out HO4.out).mono ?_; rintro e v5 ⟨rfl, hB5⟩; have HP := Lib.hid (Bp.below HP.out hB5); have p0 := HP.out.c0; have p1 := HP.out.c1; have HX := Lib.hid (Xp.below HX.out hB5); have x0 := HX.out.c0; have x1 := HX.out.c1; have HO3 := Lib.hid (Clk.below HO3.out hB5); have HO4 := Lib.hid (Clk.below HO4.out hB5); have HW : Hid (Below w.heap.size w _) := Lib.hid (below_step HW.out hB5); clear hB5)
      | (go_at_call 55; with_reducible refine (HA.out _ A3 c3 HW.out HO3.out).mono ?_; rintro e v6 ⟨rfl, hB6⟩; have HP := Lib.hid (Bp.below HP.out hB6); have p0 := HP.out.c0; have p1 := HP.out.c1; have HX := Lib.hid (Xp.below HX.out hB6); have x0 := HX.out.c0; have x1 := HX.out.c1; have HO3 := Lib.hid (Clk.below HO3.out hB6); have HO4 := Lib.hid (Clk.below HO4.out hB6); have HW : Hid (Below w.heap.size w _) := Lib.hid (below_step HW.out hB6); clear hB6)
      | fail)
    have y0 : ∀ g : Gw v6, g.v.cell? ⟨(w.heap.size + 1), 0, none⟩ = some (.int .u8 xa) := fun g => (HX.out.below g.h).c0
    have y1 : ∀ g : Gw v6, g.v.cell? ⟨(w.heap.size + 1), 1, none⟩ = some (.int .u8 xb) := fun g => (HX.out.below g.h).c1
    go_wp2
    refine wp_region_grow (by kernel_rfl) (by kernel_rfl) ?_
    repeat (go_big_quiet_step ((first
      | fail)))
    refine wpQuiet_nil ?_
    rintro _ ⟨gq, rfl⟩
    have hX : Below v6.heap.size v6 gq.v := gq.h
    generalize gq.v = V7 at hX ⊢
    have HP := Lib.hid (Bp.below HP.out hX)
    have HX := Lib.hid (Xp.below HX.out hX)
    have HO3 := Lib.hid (Clk.below HO3.out hX)
    have HO4 := Lib.hid (Clk.below HO4.out hX)
    have HW : Hid (Below w.heap.size w _) := Lib.hid (below_step HW.out hX)
    clear hX y0 y1
    have p0 := HP.out.c0
    have p1 := HP.out.c1
    have x0 := HX.out.c0
    have x1 := HX.out.c1
    go_wp2_with (first
      | (go_at_call 17; with_reducible refine (HB.out _ HW.out).mono ?_; rintro e v7 ⟨rfl, hB7⟩; have HP := Lib.hid (Bp.below HP.out hB7); have p0 := HP.out.c0; have p1 := HP.out.c1; have HX := Lib.hid (Xp.below HX.out hB7); have x0 := HX.out.c0; have x1 := HX.out.c1; have HO3 := Lib.hid (Clk.below HO3.out hB7); have HO4 := Lib.hid (Clk.below HO4.out hB7); have HW : Hid (Below w.heap.size w _) := Lib.hid (below_step HW.out hB7); clear hB7)
      | (go_at_call 17; with_reducible refine (HBt.out _ A3 c3 HO3.out).mono ?_; rintro e v8 ⟨rfl, hB8⟩; have HP := Lib.hid (Bp.below HP.out hB8); have p0 := HP.out.c0; have p1 := HP.out.c1; have HX := Lib.hid (Xp.below HX.out hB8); have x0 := HX.out.c0; have x1 := HX.out.c1; have HO3 := Lib.hid (Clk.below HO3.out hB8); have HO4 := Lib.hid (Clk.below HO4.out hB8); have HW : Hid (Below w.heap.size w _) := Lib.hid (below_step HW.out hB8); clear hB8)
      | (go_at_call 49; with_reducible refine (HM.out _ HW.out).mono ?_; rintro e v9 ⟨A9, c9, rfl, hB9⟩; have HP := Lib.hid (Bp.below HP.out hB9); have p0 := HP.out.c0; have p1 := HP.out.c1; have HX := Lib.hid (Xp.below HX.out hB9); have x0 := HX.out.c0; have x1 := HX.out.c1; have HO3 := Lib.hid (Clk.below HO3.out hB9); have HO4 := Lib.hid (Clk.below HO4.out hB9); have HW : Hid (Below w.heap.size w _) := Lib.hid (below_step HW.out hB9); clear hB9)
      | (go_at_call 16; refine (sane_any _).mono ?_; rintro e v15 ⟨rfl, hB15⟩; have HW : Hid (Below w.heap.size w _) := Lib.hid (below_step HW.out hB15); clear hB15)
      | fail)
    go_ret
    exact ⟨rfl, HW.out⟩

set_option maxRecDepth 100000 in
set_option maxHeartbeats 4000000 in
theorem turns_yes (ms ts ns : List (Int × Int)) (A : Option Addr) (c a b : Nat) (p t xa xb : Int) (y : Bool) (w : World)
    (hL : SaysTu 15 #[.slice A ms.length c] w false)
    (hV : SaysTu 22 #[.slice A ms.length c] w true)
    (hT : ∀ W, Below w.heap.size w W → Calls Try.prog 51 #[.slice A ms.length c] W fun e w' => ∃ A' c', e = .returned (.tuple #[.slice A' ms.length c', .int .i64 0]) ∧ Clk w' A' c' ts ∧ Below W.heap.size W w')
    (hTT : ∀ W A' c', Clk W A' c' ts → Calls Try.prog 51 #[.slice A' ms.length c'] W fun e w' => ∃ A' c', e = .returned (.tuple #[.slice A' ms.length c', .int .i64 0]) ∧ Clk w' A' c' ms ∧ Below W.heap.size W w')
    (hS : ∀ W A' c', Below w.heap.size w W → Clk W A' c' ms → Calls Try.prog 53 #[.slice A' ms.length c', .slice A ms.length c] W fun e w' => e = .returned (.bool true) ∧ Below W.heap.size W w')
    (hA : ∀ W A' c', Below w.heap.size w W → Clk W A' c' ts → Calls Try.prog 55 #[.slice A ms.length c, .slice A' ms.length c'] W fun e w' => e = .returned (.bool true) ∧ Below W.heap.size W w')
    (hB : ∀ W, Below w.heap.size w W → Calls Try.prog 17 #[.slice A ms.length c, .int .i64 a, .int .i64 b] W fun e w' => e = .returned (.tuple #[.bool y, .int .i64 0]) ∧ Below W.heap.size W w')
    (hBt : ∀ W A' c', Clk W A' c' ts → Calls Try.prog 17 #[.slice A' ms.length c', .int .i64 b, .int .i64 a] W fun e w' => e = .returned (.tuple #[.bool y, .int .i64 0]) ∧ Below W.heap.size W w')
    (hM : ∀ W, Below w.heap.size w W → Calls Try.prog 49 #[.slice A ms.length c, .int .i64 p, .int .i64 t] W fun e w' => ∃ A' c', e = .returned (.tuple #[.slice A' ms.length c', .int .i64 0]) ∧ Clk w' A' c' ns ∧ Below W.heap.size W w')
    (hMB : ∀ W A' c', Clk W A' c' ns → Calls Try.prog 17 #[.slice A' ms.length c', .int .i64 a, .int .i64 b] W fun e w' => e = .returned (.tuple #[.bool y, .int .i64 0]) ∧ Below W.heap.size W w')
    (hMM : ∀ W A' c', Clk W A' c' ns → Calls Try.prog 49 #[.slice A' ms.length c', .int .i64 (-p), .int .i64 (-t)] W fun e w' => ∃ A' c', e = .returned (.tuple #[.slice A' ms.length c', .int .i64 0]) ∧ Clk w' A' c' ms ∧ Below W.heap.size W w')
    (hMA : ∀ W A' c', Below w.heap.size w W → Clk W A' c' ns → Calls Try.prog 55 #[.slice A ms.length c, .slice A' ms.length c'] W fun e w' => e = .returned (.bool true) ∧ Below W.heap.size W w') (hn1 : 1 ≤ ms.length) (hn2 : ms.length ≤ 14) (ha : xa % (ms.length : Int) = (a : Int)) (hb : xb % (ms.length : Int) = (b : Int)) (ha0 : 0 ≤ xa ∧ xa ≤ 255) (hb0 : 0 ≤ xb ∧ xb ≤ 255) (hp : -2000 ≤ p ∧ p ≤ 2000) (ht : -2000 ≤ t ∧ t ≤ 2000) :
    Calls Try.prog 12 #[.slice A ms.length c, .agg #[.int .i64 p, .int .i64 t], .agg #[.int .u8 xa, .int .u8 xb]] w fun e w' => e = .returned (.bool true) ∧ Below w.heap.size w w' := by
  have HL := Lib.hid hL
  have HV := Lib.hid hV
  have HT := Lib.hid hT
  have HTT := Lib.hid hTT
  have HS := Lib.hid hS
  have HA := Lib.hid hA
  have HB := Lib.hid hB
  have HBt := Lib.hid hBt
  have HM := Lib.hid hM
  have HMB := Lib.hid hMB
  have HMM := Lib.hid hMM
  have HMA := Lib.hid hMA
  have hz : decide ((ms.length : Int) = 0) = false := decide_eq_false (by omega)
  have ep : IntKind.i64.wrap (-p) = -p := IntWalk.i64_in _ (by omega)
  have et : IntKind.i64.wrap (-t) = -t := IntWalk.i64_in _ (by omega)
  cases y
  all_goals
    clear hL hV hT hTT hS hA hB hBt hM hMB hMM hMA
    obtain ⟨W0, hW0, HW, HP, HX⟩ := two_new w #[.int .i64 p, .int .i64 t] #[.int .u8 xa, .int .u8 xb] 56 57
    have HP : Hid (Bp W0 w.heap.size (.int .i64 p) (.int .i64 t)) := HP
    have HX : Hid (Xp W0 (w.heap.size + 1) (.int .u8 xa) (.int .u8 xb)) := HX
    have p0 := HP.out.c0
    have p1 := HP.out.c1
    have x0 := HX.out.c0
    have x1 := HX.out.c1
    go_enter Try.func12, Try.ntmps12
    go_upto_region 7 with (first
      | (go_at_call 15; with_reducible refine (HL.out _ (by repeat (first | with_reducible exact Below.refl _ _ | with_reducible assumption | refine below_drewN ?_ _ | with_reducible refine Below.drew ?_ | (refine Below.setCell ?_ (by first | (simp; done) | (simp; omega) | omega) _) | (refine Below.alloc ?_ (by first | (simp; done) | (simp; omega) | omega) _)))).mono ?_; rintro e v1 ⟨rfl, hB1⟩; rw [← hW0] at hB1; have HP := Lib.hid (Bp.below HP.out hB1); have p0 := HP.out.c0; have p1 := HP.out.c1; have HX := Lib.hid (Xp.below HX.out hB1); have x0 := HX.out.c0; have x1 := HX.out.c1; have HW : Hid (Below w.heap.size w _) := Lib.hid (below_step HW.out hB1); clear hB1)
      | (go_at_call 22; with_reducible refine (HV.out _ HW.out).mono ?_; rintro e v2 ⟨rfl, hB2⟩; have HP := Lib.hid (Bp.below HP.out hB2); have p0 := HP.out.c0; have p1 := HP.out.c1; have HX := Lib.hid (Xp.below HX.out hB2); have x0 := HX.out.c0; have x1 := HX.out.c1; have HW : Hid (Below w.heap.size w _) := Lib.hid (below_step HW.out hB2); clear hB2)
      | (go_at_call 51; with_reducible refine (HT.out _ HW.out).mono ?_; rintro e v3 ⟨A3, c3, rfl, ho, hB3⟩; have HP := Lib.hid (Bp.below HP.out hB3); have p0 := HP.out.c0; have p1 := HP.out.c1; have HX := Lib.hid (Xp.below HX.out hB3); have x0 := HX.out.c0; have x1 := HX.out.c1; have HW : Hid (Below w.heap.size w _) := Lib.hid (below_step HW.out hB3); have HO3 := Lib.hid ho; clear ho; clear hB3)
      | (go_at_call 51; with_reducible refine (HTT.out _ A3 c3 HO3.out).mono ?_; rintro e v4 ⟨A4, c4, rfl, ho, hB4⟩; have HP := Lib.hid (Bp.below HP.out hB4); have p0 := HP.out.c0; have p1 := HP.out.c1; have HX := Lib.hid (Xp.below HX.out hB4); have x0 := HX.out.c0; have x1 := HX.out.c1; have HO3 := Lib.hid (Clk.below HO3.out hB4); have HW : Hid (Below w.heap.size w _) := Lib.hid (below_step HW.out hB4); have HO4 := Lib.hid ho; clear ho; clear hB4)
      | (go_at_call 53; with_reducible refine (HS.out _ A4 c4 HW.out HO4.out).mono ?_; rintro e v5 ⟨rfl, hB5⟩; have HP := Lib.hid (Bp.below HP.out hB5); have p0 := HP.out.c0; have p1 := HP.out.c1; have HX := Lib.hid (Xp.below HX.out hB5); have x0 := HX.out.c0; have x1 := HX.out.c1; have HO3 := Lib.hid (Clk.below HO3.out hB5); have HO4 := Lib.hid (Clk.below HO4.out hB5); have HW : Hid (Below w.heap.size w _) := Lib.hid (below_step HW.out hB5); clear hB5)
      | (go_at_call 55; with_reducible refine (HA.out _ A3 c3 HW.out HO3.out).mono ?_; rintro e v6 ⟨rfl, hB6⟩; have HP := Lib.hid (Bp.below HP.out hB6); have p0 := HP.out.c0; have p1 := HP.out.c1; have HX := Lib.hid (Xp.below HX.out hB6); have x0 := HX.out.c0; have x1 := HX.out.c1; have HO3 := Lib.hid (Clk.below HO3.out hB6); have HO4 := Lib.hid (Clk.below HO4.out hB6); have HW : Hid (Below w.heap.size w _) := Lib.hid (below_step HW.out hB6); clear hB6)
      | fail)
    have y0 : ∀ g : Gw v6, g.v.cell? ⟨(w.heap.size + 1), 0, none⟩ = some (.int .u8 xa) := fun g => (HX.out.below g.h).c0
    have y1 : ∀ g : Gw v6, g.v.cell? ⟨(w.heap.size + 1), 1, none⟩ = some (.int .u8 xb) := fun g => (HX.out.below g.h).c1
    go_wp2
    refine wp_region_grow (by kernel_rfl) (by kernel_rfl) ?_
    repeat (go_big_quiet_step ((first
      | fail)))
    refine wpQuiet_nil ?_
    rintro _ ⟨gq, rfl⟩
    have hX : Below v6.heap.size v6 gq.v := gq.h
    generalize gq.v = V7 at hX ⊢
    have HP := Lib.hid (Bp.below HP.out hX)
    have HX := Lib.hid (Xp.below HX.out hX)
    have HO3 := Lib.hid (Clk.below HO3.out hX)
    have HO4 := Lib.hid (Clk.below HO4.out hX)
    have HW : Hid (Below w.heap.size w _) := Lib.hid (below_step HW.out hX)
    clear hX y0 y1
    have p0 := HP.out.c0
    have p1 := HP.out.c1
    have x0 := HX.out.c0
    have x1 := HX.out.c1
    go_wp2_with (first
      | (go_at_call 17; with_reducible refine (HB.out _ HW.out).mono ?_; rintro e v7 ⟨rfl, hB7⟩; have HP := Lib.hid (Bp.below HP.out hB7); have p0 := HP.out.c0; have p1 := HP.out.c1; have HX := Lib.hid (Xp.below HX.out hB7); have x0 := HX.out.c0; have x1 := HX.out.c1; have HO3 := Lib.hid (Clk.below HO3.out hB7); have HO4 := Lib.hid (Clk.below HO4.out hB7); have HW : Hid (Below w.heap.size w _) := Lib.hid (below_step HW.out hB7); clear hB7)
      | (go_at_call 17; with_reducible refine (HBt.out _ A3 c3 HO3.out).mono ?_; rintro e v8 ⟨rfl, hB8⟩; have HP := Lib.hid (Bp.below HP.out hB8); have p0 := HP.out.c0; have p1 := HP.out.c1; have HX := Lib.hid (Xp.below HX.out hB8); have x0 := HX.out.c0; have x1 := HX.out.c1; have HO3 := Lib.hid (Clk.below HO3.out hB8); have HO4 := Lib.hid (Clk.below HO4.out hB8); have HW : Hid (Below w.heap.size w _) := Lib.hid (below_step HW.out hB8); clear hB8)
      | (go_at_call 49; with_reducible refine (HM.out _ HW.out).mono ?_; rintro e v9 ⟨A9, c9, rfl, ho, hB9⟩; have HP := Lib.hid (Bp.below HP.out hB9); have p0 := HP.out.c0; have p1 := HP.out.c1; have HX := Lib.hid (Xp.below HX.out hB9); have x0 := HX.out.c0; have x1 := HX.out.c1; have HO3 := Lib.hid (Clk.below HO3.out hB9); have HO4 := Lib.hid (Clk.below HO4.out hB9); have HW : Hid (Below w.heap.size w _) := Lib.hid (below_step HW.out hB9); have HO9 := Lib.hid ho; clear ho; clear hB9)
      | (go_at_call 17; with_reducible refine (HMB.out _ A9 c9 HO9.out).mono ?_; rintro e v10 ⟨rfl, hB10⟩; have HP := Lib.hid (Bp.below HP.out hB10); have p0 := HP.out.c0; have p1 := HP.out.c1; have HX := Lib.hid (Xp.below HX.out hB10); have x0 := HX.out.c0; have x1 := HX.out.c1; have HO3 := Lib.hid (Clk.below HO3.out hB10); have HO4 := Lib.hid (Clk.below HO4.out hB10); have HO9 := Lib.hid (Clk.below HO9.out hB10); have HW : Hid (Below w.heap.size w _) := Lib.hid (below_step HW.out hB10); clear hB10)
      | (go_at_call 49; with_reducible refine (HMM.out _ A9 c9 HO9.out).mono ?_; rintro e v11 ⟨A11, c11, rfl, ho, hB11⟩; have HP := Lib.hid (Bp.below HP.out hB11); have p0 := HP.out.c0; have p1 := HP.out.c1; have HX := Lib.hid (Xp.below HX.out hB11); have x0 := HX.out.c0; have x1 := HX.out.c1; have HO3 := Lib.hid (Clk.below HO3.out hB11); have HO4 := Lib.hid (Clk.below HO4.out hB11); have HO9 := Lib.hid (Clk.below HO9.out hB11); have HW : Hid (Below w.heap.size w _) := Lib.hid (below_step HW.out hB11); have HO11 := Lib.hid ho; clear ho; clear hB11)
      | (go_at_call 53; with_reducible refine (HS.out _ A11 c11 HW.out HO11.out).mono ?_; rintro e v12 ⟨rfl, hB12⟩; have HP := Lib.hid (Bp.below HP.out hB12); have p0 := HP.out.c0; have p1 := HP.out.c1; have HX := Lib.hid (Xp.below HX.out hB12); have x0 := HX.out.c0; have x1 := HX.out.c1; have HO3 := Lib.hid (Clk.below HO3.out hB12); have HO4 := Lib.hid (Clk.below HO4.out hB12); have HO9 := Lib.hid (Clk.below HO9.out hB12); have HO11 := Lib.hid (Clk.below HO11.out hB12); have HW : Hid (Below w.heap.size w _) := Lib.hid (below_step HW.out hB12); clear hB12)
      | (go_at_call 55; with_reducible refine (HMA.out _ A9 c9 HW.out HO9.out).mono ?_; rintro e v13 ⟨rfl, hB13⟩; have HP := Lib.hid (Bp.below HP.out hB13); have p0 := HP.out.c0; have p1 := HP.out.c1; have HX := Lib.hid (Xp.below HX.out hB13); have x0 := HX.out.c0; have x1 := HX.out.c1; have HO3 := Lib.hid (Clk.below HO3.out hB13); have HO4 := Lib.hid (Clk.below HO4.out hB13); have HO9 := Lib.hid (Clk.below HO9.out hB13); have HO11 := Lib.hid (Clk.below HO11.out hB13); have HW : Hid (Below w.heap.size w _) := Lib.hid (below_step HW.out hB13); clear hB13)
      | (go_at_call 16; refine (sane_any _).mono ?_; rintro e v15 ⟨rfl, hB15⟩; have HW : Hid (Below w.heap.size w _) := Lib.hid (below_step HW.out hB15); clear hB15)
      | fail)
    go_ret
    exact ⟨rfl, HW.out⟩

theorem before_told (ms : List (Int × Int)) (A : Option Addr) (c : Nat) (a b : Nat) (w : World) (h : Clk w A c ms) (hv : vhB ms = true) (ha : a < ms.length) (hb : b < ms.length) :
    Calls Try.prog 17 #[.slice A ms.length c, .int .i64 a, .int .i64 b] w fun e w' => e = .returned (.tuple #[.bool (befI ms a b), .int .i64 0]) ∧ Below w.heap.size w w' :=
  (coneBefore_any ms A c a b w h).mono fun e w' ⟨x, E, he, hB, hy⟩ => by
    obtain ⟨hy1, hy2⟩ := hy.out
    have h1 : hasB ms (a : Int) = true := decide_eq_true (by omega)
    have h2 : hasB ms (b : Int) = true := decide_eq_true (by omega)
    unfold beforeF at hy1
    unfold beforeE at hy2
    rw [hv, h1, h2] at hy1 hy2
    simp only [Bool.true_and, Bool.and_self, if_true] at hy1 hy2
    subst hy1 hy2
    exact ⟨he, hB⟩
theorem turned_told (ms : List (Int × Int)) (A : Option Addr) (c : Nat) (w : World) (h : Clk w A c ms) (hv : vhB ms = true) :
    Calls Try.prog 51 #[.slice A ms.length c] w fun e w' => ∃ A' c', e = .returned (.tuple #[.slice A' ms.length c', .int .i64 0]) ∧ Clk w' A' c' (ms.map turnH) ∧ Below w.heap.size w w' :=
  (coneTurned_any ms A c w h).mono fun e w' ⟨A', c', ys, E, he, hO, hB, hy⟩ => by
    obtain ⟨hy1, hy2⟩ := hy.out
    unfold turnedF at hy1
    unfold hitsE at hy2
    rw [if_pos hv] at hy1 hy2
    subst hy1 hy2
    rw [List.length_map] at he
    exact ⟨A', c', he, hO, hB⟩
theorem moved_told (ms : List (Int × Int)) (A : Option Addr) (c : Nat) (p t : Int) (w : World) (h : Clk w A c ms) (hv : vhB ms = true) (ho : okMv ms p t = true) :
    Calls Try.prog 49 #[.slice A ms.length c, .int .i64 p, .int .i64 t] w fun e w' => ∃ A' c', e = .returned (.tuple #[.slice A' ms.length c', .int .i64 0]) ∧ Clk w' A' c' (ms.map (moveH p t)) ∧ Below w.heap.size w w' :=
  (moved_any ms A c p t w h).mono fun e w' ⟨A', c', ys, E, he, hO, hB, hy⟩ => by
    obtain ⟨hy1, hy2⟩ := hy.out
    unfold movedF at hy1
    unfold movedE at hy2
    rw [hv, ho] at hy1 hy2
    simp only [Bool.and_self, if_true] at hy1 hy2
    subst hy1 hy2
    rw [List.length_map] at he
    exact ⟨A', c', he, hO, hB⟩
theorem moved_none (ms : List (Int × Int)) (A : Option Addr) (c : Nat) (p t : Int) (w : World) (h : Clk w A c ms) (hv : vhB ms = true) (ho : okMv ms p t = false) :
    Calls Try.prog 49 #[.slice A ms.length c, .int .i64 p, .int .i64 t] w fun e w' => ∃ A' c', e = .returned (.tuple #[.slice A' 0 c', .int .i64 2]) ∧ Below w.heap.size w w' :=
  (moved_any ms A c p t w h).mono fun e w' ⟨A', c', ys, E, he, hO, hB, hy⟩ => by
    obtain ⟨hy1, hy2⟩ := hy.out
    unfold movedF at hy1
    unfold movedE at hy2
    rw [hv, ho] at hy1 hy2
    simp only [Bool.true_and, Bool.false_eq_true, if_false, if_true] at hy1 hy2
    subst hy1 hy2
    exact ⟨A', c', he, hB⟩
theorem coneTurns_walk (ms : List (Int × Int)) (A : Option Addr) (c : Nat) (p t xa xb : Int) (w : World) (hA : Marks w A ms) (hc : ms.length ≤ c) (hc0 : c ≤ maxLen) (_hp : (Lit.int .i64 p).wf = true) (_ht : (Lit.int .i64 t).wf = true) (hxa : (Lit.int .u8 xa).wf = true) (hxb : (Lit.int .u8 xb).wf = true) :
    Calls Try.prog 12 #[.slice A ms.length c, .agg #[.int .i64 p, .int .i64 t], .agg #[.int .u8 xa, .int .u8 xb]] w fun e w' => e = .returned (.bool true) ∧ Below w.heap.size w w' := by
  have hh : Clk w A c ms := ⟨hA, hc, hc0⟩
  have ha2 : 0 ≤ xa ∧ xa ≤ 255 := by
    have h2 : (decide (0 ≤ xa) && decide (xa ≤ 255)) = true := hxa
    simpa using h2
  have hb2 : 0 ≤ xb ∧ xb ≤ 255 := by
    have h2 : (decide (0 ≤ xb) && decide (xb ≤ 255)) = true := hxb
    simpa using h2
  have L1 : SaysTu 15 #[.slice A ms.length c] w (decide (40 < ms.length)) := fun W _ => (lawLong_any ms A c W).mono fun e w' ⟨he, hw⟩ => ⟨he, by rw [← hw]; exact Below.refl _ _⟩
  have V1 : SaysTu 22 #[.slice A ms.length c] w (vhB ms) := fun W hW => (refValid_any ms A c W (hA.below hW) hh.len).mono fun e w' ⟨he, n, hw⟩ => ⟨he, by rw [hw]; exact below_drewN (Below.refl _ _) n⟩
  cases hl : decide (40 < ms.length) with
  | true => rw [hl] at L1; exact turns_long ms A c p t xa xb w L1
  | false =>
    rw [hl] at L1
    cases hv : vhB ms with
    | false => rw [hv] at V1; exact turns_bad ms A c p t xa xb w L1 V1
    | true =>
      rw [hv] at V1
      obtain ⟨hn1, hn2⟩ := vh_parts hv
      have hvt := vh_turn hv
      have htl : (ms.map turnH).length = ms.length := List.length_map ..
      obtain ⟨a, ha⟩ : ∃ a : Nat, xa % (ms.length : Int) = a := ⟨(xa % (ms.length : Int)).toNat, by have := Int.emod_nonneg xa (show (ms.length : Int) ≠ 0 by omega); omega⟩
      obtain ⟨b, hb⟩ : ∃ b : Nat, xb % (ms.length : Int) = b := ⟨(xb % (ms.length : Int)).toNat, by have := Int.emod_nonneg xb (show (ms.length : Int) ≠ 0 by omega); omega⟩
      have hal : a < ms.length := by have := Int.emod_lt_of_pos xa (show 0 < (ms.length : Int) by omega); omega
      have hbl : b < ms.length := by have := Int.emod_lt_of_pos xb (show 0 < (ms.length : Int) by omega); omega
      have ia : (a : Int) ∈ allL ms.length := List.mem_map.2 ⟨a, List.mem_range.2 hal, rfl⟩
      have ib : (b : Int) ∈ allL ms.length := List.mem_map.2 ⟨b, List.mem_range.2 hbl, rfl⟩
      have T1 := fun W (hW : Below w.heap.size w W) => turned_told ms A c W (hh.below hW) hv
      have TT : ∀ W A' c', Clk W A' c' (ms.map turnH) → Calls Try.prog 51 #[.slice A' ms.length c'] W fun e w' => ∃ A' c', e = .returned (.tuple #[.slice A' ms.length c', .int .i64 0]) ∧ Clk w' A' c' ms ∧ Below W.heap.size W w' := fun W A' c' h => by
        have := turned_told (ms.map turnH) A' c' W h hvt
        rw [htl, turn_turn] at this
        exact this
      have S1 := fun W A' c' (hW : Below w.heap.size w W) (h : Clk W A' c' ms) => sameHits_same ms A' A c' c W h.marks (hA.below hW) hh.len
      have A1 : ∀ W A' c', Below w.heap.size w W → Clk W A' c' (ms.map turnH) → Calls Try.prog 55 #[.slice A ms.length c, .slice A' ms.length c'] W fun e w' => e = .returned (.bool true) ∧ Below W.heap.size W w' := fun W A' c' hW h => by
        have := alike_true ms (ms.map turnH) A A' c c' W (hh.below hW) h hv hvt (turn_alike hn1)
        rw [htl] at this
        exact this
      have B1 := fun W (hW : Below w.heap.size w W) => before_told ms A c a b W (hh.below hW) hv hal hbl
      have Bt : ∀ W A' c', Clk W A' c' (ms.map turnH) → Calls Try.prog 17 #[.slice A' ms.length c', .int .i64 b, .int .i64 a] W fun e w' => e = .returned (.tuple #[.bool (befI ms a b), .int .i64 0]) ∧ Below W.heap.size W w' := fun W A' c' h => by
        have := before_told (ms.map turnH) A' c' b a W h hvt (by omega) (by omega)
        rw [htl, (rev_turn ms).bef b ib a ia] at this
        exact this
      cases ho : okMv ms p t with
      | false =>
        have M1 := fun W (hW : Below w.heap.size w W) => moved_none ms A c p t W (hh.below hW) hv ho
        exact turns_no ms (ms.map turnH) A c a b p t xa xb (befI ms a b) w L1 V1 T1 TT S1 A1 B1 Bt M1 hn1 hn2 ha hb ha2 hb2
      | true =>
        have hvm := vh_move hv ho
        have hml : (ms.map (moveH p t)).length = ms.length := List.length_map ..
        have M1 := fun W (hW : Below w.heap.size w W) => moved_told ms A c p t W (hh.below hW) hv ho
        have MB : ∀ W A' c', Clk W A' c' (ms.map (moveH p t)) → Calls Try.prog 17 #[.slice A' ms.length c', .int .i64 a, .int .i64 b] W fun e w' => e = .returned (.tuple #[.bool (befI ms a b), .int .i64 0]) ∧ Below W.heap.size W w' := fun W A' c' h => by
          have := before_told (ms.map (moveH p t)) A' c' a b W h hvm (by omega) (by omega)
          rw [hml, befI, hAt_map _ ia, hAt_map _ ib, bef_move] at this
          exact this
        have MM : ∀ W A' c', Clk W A' c' (ms.map (moveH p t)) → Calls Try.prog 49 #[.slice A' ms.length c', .int .i64 (-p), .int .i64 (-t)] W fun e w' => ∃ A' c', e = .returned (.tuple #[.slice A' ms.length c', .int .i64 0]) ∧ Clk w' A' c' ms ∧ Below W.heap.size W w' := fun W A' c' h => by
          have := moved_told (ms.map (moveH p t)) A' c' (-p) (-t) W h hvm (ok_back hv p t)
          rw [hml, move_back] at this
          exact this
        have MA : ∀ W A' c', Below w.heap.size w W → Clk W A' c' (ms.map (moveH p t)) → Calls Try.prog 55 #[.slice A ms.length c, .slice A' ms.length c'] W fun e w' => e = .returned (.bool true) ∧ Below W.heap.size W w' := fun W A' c' hW h => by
          have := alike_true ms (ms.map (moveH p t)) A A' c c' W (hh.below hW) h hv hvm (move_alike hn1 p t)
          rw [hml] at this
          exact this
        obtain ⟨hp, ht⟩ := ok_small hv ho
        exact turns_yes ms (ms.map turnH) (ms.map (moveH p t)) A c a b p t xa xb (befI ms a b) w L1 V1 T1 TT S1 A1 B1 Bt M1 MB MM MA hn1 hn2 ha hb ha2 hb2 hp ht
end Go.Proofs.Ytmlkdjcjfkfdiaa
