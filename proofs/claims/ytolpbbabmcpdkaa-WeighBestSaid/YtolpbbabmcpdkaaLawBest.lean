/-
  The walk of WeighBest: it returns true, whatever it is given.
-/
import Derived.Test.YtolpbbabmcpdkaaBestG
import Derived.Test.YtolpbbabmcpdkaaKeptLaw
import Derived.Test.YtolpbbabmcpdkaaWProves
import Derived.Test.YtolpbbabmcpdkaaGrow
import Derived.Test.YtolpbbabmcpdkaaSane
import Derived.Deep.CutRange
set_option linter.unusedVariables false
set_option linter.unusedSimpArgs false
namespace Go.Proofs.Ytolpbbabmcpdkaa
open Go.RowKit Go.Shelf

/-- A box of 24. -/
def Ou (W : World) (g : Nat) (u v : Value) : Prop := W.heap[g]? = some (.cells #[u, v] 24 (0, 0))
section
variable {W V : World} {g g' : Nat} {u v a b : Value}
theorem Ou.lt (h : Ou W g u v) : g < W.heap.size := (Array.getElem?_eq_some_iff.1 h).1
theorem Ou.below (h : Ou W g u v) (hb : Below W.heap.size W V) : Ou V g u v := (hb.block g h.lt).trans h
theorem Ou.alloc (h : Ou W g u v) (o : Obj) : Ou (W.alloc o) g u v := (Below.heap_alloc W o g h.lt).trans h
theorem Ou.new (W : World) (u v : Value) : Ou (W.alloc (.cells #[u, v] 24)) W.heap.size u v := heap_alloc_new W _
theorem Ou.c0 (h : Ou W g u v) : W.cell? ⟨g, 0, none⟩ = some u := blk_cell h 0 rfl
theorem Ou.c1 (h : Ou W g u v) : W.cell? ⟨g, 1, none⟩ = some v := blk_cell h 1 rfl
end
/-- A box of 28. -/
def Ru (W : World) (g : Nat) (u v : Value) : Prop := W.heap[g]? = some (.cells #[u, v] 28 (0, 0))
section
variable {W V : World} {g g' : Nat} {u v a b : Value}
theorem Ru.lt (h : Ru W g u v) : g < W.heap.size := (Array.getElem?_eq_some_iff.1 h).1
theorem Ru.below (h : Ru W g u v) (hb : Below W.heap.size W V) : Ru V g u v := (hb.block g h.lt).trans h
theorem Ru.alloc (h : Ru W g u v) (o : Obj) : Ru (W.alloc o) g u v := (Below.heap_alloc W o g h.lt).trans h
theorem Ru.new (W : World) (u v : Value) : Ru (W.alloc (.cells #[u, v] 28)) W.heap.size u v := heap_alloc_new W _
theorem Ru.c0 (h : Ru W g u v) : W.cell? ⟨g, 0, none⟩ = some u := blk_cell h 0 rfl
theorem Ru.c1 (h : Ru W g u v) : W.cell? ⟨g, 1, none⟩ = some v := blk_cell h 1 rfl
end

abbrev SaysU (f : FuncId) (args : Array Value) (w : World) (x : Bool) : Prop := ∀ W, Below w.heap.size w W → Calls Try.prog f args W fun e w' => e = .returned (.bool x) ∧ Below W.heap.size W w'
abbrev KeptU (ov : Value) (cs : List Int) (w : World) (N D S T : Int) : Prop := ∀ W A' c', Below w.heap.size w W → Out W A' c' cs → Calls Try.prog 53 #[ov, .slice A' cs.length c'] W fun e w' => e = .returned (.tuple #[.agg #[.int .i64 N, .int .i64 D], .agg #[.int .i64 S, .int .i64 T], .bool true]) ∧ Below W.heap.size W w'

set_option maxRecDepth 100000 in
set_option maxHeartbeats 16000000 in
theorem best_tn (ns ss own row best cs : List Int) (A B C : Option Addr) (c d e1 n : Nat) (kk : Int) (N1 D1 S1 T1 N2 D2 P Q : Int) (w : World)
    (hL : SaysU 15 #[(.agg #[.slice A ns.length c, .slice B ss.length d])] w false)
    (hV : SaysU 22 #[(.agg #[.slice A ns.length c, .slice B ss.length d])] w true)
    (hT : ∀ W, Below w.heap.size w W → Calls Try.prog 26 #[(.agg #[.slice A ns.length c, .slice B ss.length d]), .int .i64 n] W fun e w' => ∃ A' c', e = .returned (.tuple #[.slice A' own.length c', .int .i64 0]) ∧ Out w' A' c' own ∧ Below W.heap.size W w')
    (hP : ∀ W, Below w.heap.size w W → Calls Try.prog 28 #[(.agg #[.slice A ns.length c, .slice B ss.length d]), .int .i64 n] W fun e w' => e = .returned (.tuple #[.agg #[.int .i64 P, .int .i64 Q], .int .i64 0]) ∧ Below W.heap.size W w')
    (hR : ∀ W, Below w.heap.size w W → Calls Try.prog 23 #[(.agg #[.slice A ns.length c, .slice B ss.length d])] W fun e w' => ∃ A' c', e = .returned (.tuple #[.slice A' row.length c', .int .i64 0]) ∧ Out w' A' c' row ∧ Below W.heap.size W w')
    (hK1 : KeptU (.agg #[.slice A ns.length c, .slice B ss.length d]) own w N1 D1 S1 T1)
    (hB : ∀ W, Below w.heap.size w W → Calls Try.prog 30 #[(.agg #[.slice A ns.length c, .slice B ss.length d]), (.agg #[.int .i64 N1, .int .i64 D1])] W fun e w' => ∃ A' c', e = .returned (.tuple #[.slice A' best.length c', .int .i64 0]) ∧ Out w' A' c' best ∧ Below W.heap.size W w')
    (hK2 : KeptU (.agg #[.slice A ns.length c, .slice B ss.length d]) best w N2 D2 S1 T1)
    (hPr : ∀ W A' c', Below w.heap.size w W → Out W A' c' own → Calls Try.prog 36 #[(.agg #[.slice A ns.length c, .slice B ss.length d]), .slice A' own.length c', (.agg #[.int .i64 P, .int .i64 Q])] W fun e w' => e = .returned (.tuple #[.bool true, .int .i64 0]) ∧ Below W.heap.size W w')
    (hI : SaysU 55 #[(.agg #[.slice A ns.length c, .slice B ss.length d]), .slice C cs.length e1] w false)
    (hna : Ints w A ns) (hnp : 0 < ns.length) (hrl : row.length = ns.length) (hol : own.length = n) (hn1 : 1 ≤ n) (hn2 : n ≤ ns.length) (hn10 : ns.length ≤ 10) (hcl : decide (60 < (cs.length : Int)) = false) (hkn : 1 + kk % (ns.length : Int) = (n : Int)) (hk0 : 0 ≤ kk ∧ kk ≤ 255) (m1 : smB N1 D1 = true) (m2 : smB S1 T1 = true) (m3 : smB N2 D2 = true) (hl1 : decide (N1 * D2 < N2 * D1) = false) (hl2 : decide (S1 * T1 < S1 * T1) = false) :
    Calls Try.prog 8 #[(.agg #[.slice A ns.length c, .slice B ss.length d]), .int .u8 kk, .slice C cs.length e1] w fun e w' => e = .returned (.bool true) ∧ Below w.heap.size w w' := by
  have HL := Lib.hid hL
  have HV := Lib.hid hV
  have HT := Lib.hid hT
  have HP := Lib.hid hP
  have HR := Lib.hid hR
  have HK1 := Lib.hid hK1
  have HB := Lib.hid hB
  have HK2 := Lib.hid hK2
  have HPr := Lib.hid hPr
  have HI := Lib.hid hI
  obtain ⟨m1a, m1b, m1c, m1d⟩ := sm_of m1
  obtain ⟨m2a, m2b, m2c, m2d⟩ := sm_of m2
  obtain ⟨m3a, m3b, m3c, m3d⟩ := sm_of m3
  have HLa : Hid (∀ V : World, Calls Try.prog 54 #[.agg #[.int .i64 N1, .int .i64 D1], .agg #[.int .i64 N2, .int .i64 D2]] V fun e w' => e = .returned (.bool false) ∧ Below V.heap.size V w') := Lib.hid fun V => by
    have := lessR_any N1 D1 N2 D2 V (by omega) (by omega) (by omega) (by omega)
    rw [hl1] at this
    exact this
  have HLb : Hid (∀ V : World, Calls Try.prog 54 #[.agg #[.int .i64 S1, .int .i64 T1], .agg #[.int .i64 S1, .int .i64 T1]] V fun e w' => e = .returned (.bool false) ∧ Below V.heap.size V w') := Lib.hid fun V => by
    have := lessR_any S1 T1 S1 T1 V (by omega) (by omega) (by omega) (by omega)
    rw [hl2] at this
    exact this
  have hw1 : IntKind.i64.wrap (1 + kk % (ns.length : Int)) = (n : Int) := by rw [IntWalk.i64_in _ (by omega)]; exact hkn
  have hnz : decide ((ns.length : Int) = 0) = false := decide_eq_false (by omega)
  have HRL := Lib.hid hrl
  have HOL := Lib.hid hol
  have HNA := Lib.hid hna
  clear hL hV hT hP hR hK1 hB hK2 hPr hI hl1 hl2 hrl hol hna m1 m1a m1b m1c m1d m2 m2a m2b m2c m2d m3 m3a m3b m3c m3d
  obtain ⟨W0, hW0, HW, HO, z0⟩ := one_new w #[.slice A ns.length c, .slice B ss.length d] 24
  have HO : Hid (Ou W0 w.heap.size (.slice A ns.length c) (.slice B ss.length d)) := HO
  clear z0
  have b0 := HO.out.c0
  have b1 := HO.out.c1
  go_enter Try.func8, Try.ntmps8
  go_upto_region 4 with (first
    | (go_at_call 15; with_reducible refine (HL.out _ (by repeat (first | with_reducible exact Below.refl _ _ | with_reducible assumption | refine below_drewN ?_ _ | with_reducible refine Below.drew ?_ | (refine Below.setCell ?_ (by first | (simp; done) | (simp; omega) | omega) _) | (refine Below.alloc ?_ (by first | (simp; done) | (simp; omega) | omega) _)))).mono ?_; rintro e v1 ⟨rfl, hB1⟩; rw [← hW0] at hB1; have HO := Lib.hid (Ou.below HO.out hB1); have b0 := HO.out.c0; have b1 := HO.out.c1; have HW : Hid (Below w.heap.size w _) := Lib.hid (below_step HW.out hB1); clear hB1)
    | (go_at_call 22; with_reducible refine (HV.out _ HW.out).mono ?_; rintro e v2 ⟨rfl, hB2⟩; have HO := Lib.hid (Ou.below HO.out hB2); have b0 := HO.out.c0; have b1 := HO.out.c1; have HW : Hid (Below w.heap.size w _) := Lib.hid (below_step HW.out hB2); clear hB2)
    | fail)
  go_upto_region 5 with (go_at_call 26; with_reducible refine (HT.out _ HW.out).mono ?_; rintro e v3 ⟨A3, c3, rfl, ho, hB3⟩; have HO := Lib.hid (Ou.below HO.out hB3); have b0 := HO.out.c0; have b1 := HO.out.c1; have HW : Hid (Below w.heap.size w _) := Lib.hid (below_step HW.out hB3); have HO3 := Lib.hid ho; clear ho; clear hB3)
  go_upto_region 6 with (go_at_call 28; with_reducible refine (HP.out _ HW.out).mono ?_; rintro e v4 ⟨rfl, hB4⟩; have HO := Lib.hid (Ou.below HO.out hB4); have b0 := HO.out.c0; have b1 := HO.out.c1; have HO3 := Lib.hid (Out.below HO3.out hB4); have HW : Hid (Below w.heap.size w _) := Lib.hid (below_step HW.out hB4); clear hB4)
  have HLT := HO.out.lt
  obtain ⟨X4, hX4, HW, HX, HO, HO3⟩ : ∃ X, (v4.alloc (.cells #[.int .i64 P, .int .i64 Q] 28)) = X ∧ Hid (Below w.heap.size w X) ∧ Hid (Ru X v4.heap.size (.int .i64 P) (.int .i64 Q)) ∧ Hid (Ou X w.heap.size (.slice A ns.length c) (.slice B ss.length d)) ∧ Hid (Out X A3 c3 own) :=
    ⟨_, rfl, Lib.hid (Below.alloc HW.out HW.out.size _), Lib.hid (Ru.new _ _ _), Lib.hid (HO.out.alloc _), Lib.hid (HO3.out.below (Below.alloc (Below.refl _ _) (Nat.le_refl _) _))⟩
  rw [hX4]
  clear hX4 HLT
  obtain ⟨gx, hgx⟩ : ∃ g, v4.heap.size = g := ⟨_, rfl⟩
  try rw [hgx] at HX ⊢
  clear hgx
  have b0 := HO.out.c0
  have b1 := HO.out.c1
  have x0 := HX.out.c0
  have x1 := HX.out.c1
  go_upto_region 7 with (go_at_call 23; with_reducible refine (HR.out _ HW.out).mono ?_; rintro e v5 ⟨A5, c5, rfl, ho, hB5⟩; have HO := Lib.hid (Ou.below HO.out hB5); have b0 := HO.out.c0; have b1 := HO.out.c1; have HO3 := Lib.hid (Out.below HO3.out hB5); have HX := Lib.hid (Ru.below HX.out hB5); have x0 := HX.out.c0; have x1 := HX.out.c1; have HW : Hid (Below w.heap.size w _) := Lib.hid (below_step HW.out hB5); have HO5 := Lib.hid ho; clear ho; clear hB5)
  have hrl := HRL.out
  have hol := HOL.out
  rw [hrl, hol]
  clear hrl hol
  have hK1 := HK1.out
  unfold KeptU at hK1
  rw [HOL.out] at hK1
  have HK1 := Lib.hid hK1
  clear hK1
  have hPr := HPr.out
  rw [HOL.out] at hPr
  have HPr := Lib.hid hPr
  clear hPr
  go_upto_region 9 with (fail)
  go_upto_region 10 with (go_at_call 53; with_reducible refine (HK1.out _ A3 c3 HW.out HO3.out).mono ?_; rintro e v6 ⟨rfl, hB6⟩; have HO := Lib.hid (Ou.below HO.out hB6); have b0 := HO.out.c0; have b1 := HO.out.c1; have HO3 := Lib.hid (Out.below HO3.out hB6); have HX := Lib.hid (Ru.below HX.out hB6); have x0 := HX.out.c0; have x1 := HX.out.c1; have HO5 := Lib.hid (Out.below HO5.out hB6); have HW : Hid (Below w.heap.size w _) := Lib.hid (below_step HW.out hB6); clear hB6)
  have HLT := HX.out.lt
  obtain ⟨X6, hX6, HW, HN, HS, HO, HO3, HX, HO5⟩ : ∃ X, ((v6.alloc (.cells #[.int .i64 N1, .int .i64 D1] 28)).alloc (.cells #[.int .i64 S1, .int .i64 T1] 28)) = X ∧ Hid (Below w.heap.size w X) ∧ Hid (Ru X v6.heap.size (.int .i64 N1) (.int .i64 D1)) ∧ Hid (Ru X (v6.heap.size + 1) (.int .i64 S1) (.int .i64 T1)) ∧ Hid (Ou X w.heap.size (.slice A ns.length c) (.slice B ss.length d)) ∧ Hid (Out X A3 c3 own) ∧ Hid (Ru X gx (.int .i64 P) (.int .i64 Q)) ∧ Hid (Out X A5 c5 row) :=
    ⟨_, rfl, Lib.hid (Below.alloc (Below.alloc HW.out HW.out.size _) (by have := HW.out.size; simp; omega) _), Lib.hid ((Ru.new _ _ _).alloc _), Lib.hid (by have := Ru.new (v6.alloc (.cells #[.int .i64 N1, .int .i64 D1] 28)) (.int .i64 S1) (.int .i64 T1); simpa using this), Lib.hid ((HO.out.alloc _).alloc _), Lib.hid (HO3.out.below ((Below.alloc (Below.refl _ _) (Nat.le_refl _) _).alloc (by simp) _)), Lib.hid ((HX.out.alloc _).alloc _), Lib.hid (HO5.out.below ((Below.alloc (Below.refl _ _) (Nat.le_refl _) _).alloc (by simp) _))⟩
  rw [hX6]
  clear hX6 HLT
  obtain ⟨gn, hgn⟩ : ∃ g, v6.heap.size = g := ⟨_, rfl⟩
  try rw [hgn] at HN HS ⊢
  clear hgn
  have b0 := HO.out.c0
  have b1 := HO.out.c1
  have x0 := HX.out.c0
  have x1 := HX.out.c1
  have n0 := HN.out.c0
  have n1 := HN.out.c1
  have s0 := HS.out.c0
  have s1 := HS.out.c1
  go_upto_region 11 with (go_at_call 30; with_reducible refine (HB.out _ HW.out).mono ?_; rintro e v7 ⟨A7, c7, rfl, ho, hB7⟩; have HO := Lib.hid (Ou.below HO.out hB7); have b0 := HO.out.c0; have b1 := HO.out.c1; have HO3 := Lib.hid (Out.below HO3.out hB7); have HX := Lib.hid (Ru.below HX.out hB7); have x0 := HX.out.c0; have x1 := HX.out.c1; have HO5 := Lib.hid (Out.below HO5.out hB7); have HN := Lib.hid (Ru.below HN.out hB7); have n0 := HN.out.c0; have n1 := HN.out.c1; have HS := Lib.hid (Ru.below HS.out hB7); have s0 := HS.out.c0; have s1 := HS.out.c1; have HW : Hid (Below w.heap.size w _) := Lib.hid (below_step HW.out hB7); have HO7 := Lib.hid ho; clear ho; clear hB7)
  go_upto_region 12 with (go_at_call 53; with_reducible refine (HK2.out _ A7 c7 HW.out HO7.out).mono ?_; rintro e v8 ⟨rfl, hB8⟩; have HO := Lib.hid (Ou.below HO.out hB8); have b0 := HO.out.c0; have b1 := HO.out.c1; have HO3 := Lib.hid (Out.below HO3.out hB8); have HX := Lib.hid (Ru.below HX.out hB8); have x0 := HX.out.c0; have x1 := HX.out.c1; have HO5 := Lib.hid (Out.below HO5.out hB8); have HN := Lib.hid (Ru.below HN.out hB8); have n0 := HN.out.c0; have n1 := HN.out.c1; have HS := Lib.hid (Ru.below HS.out hB8); have s0 := HS.out.c0; have s1 := HS.out.c1; have HO7 := Lib.hid (Out.below HO7.out hB8); have HW : Hid (Below w.heap.size w _) := Lib.hid (below_step HW.out hB8); clear hB8)
  have HLT := HS.out.lt
  obtain ⟨X8, hX8, HW, HM, HT2, HO, HO3, HX, HO5, HN, HS, HO7⟩ : ∃ X, ((v8.alloc (.cells #[.int .i64 N2, .int .i64 D2] 28)).alloc (.cells #[.int .i64 S1, .int .i64 T1] 28)) = X ∧ Hid (Below w.heap.size w X) ∧ Hid (Ru X v8.heap.size (.int .i64 N2) (.int .i64 D2)) ∧ Hid (Ru X (v8.heap.size + 1) (.int .i64 S1) (.int .i64 T1)) ∧ Hid (Ou X w.heap.size (.slice A ns.length c) (.slice B ss.length d)) ∧ Hid (Out X A3 c3 own) ∧ Hid (Ru X gx (.int .i64 P) (.int .i64 Q)) ∧ Hid (Out X A5 c5 row) ∧ Hid (Ru X gn (.int .i64 N1) (.int .i64 D1)) ∧ Hid (Ru X (gn + 1) (.int .i64 S1) (.int .i64 T1)) ∧ Hid (Out X A7 c7 best) :=
    ⟨_, rfl, Lib.hid (Below.alloc (Below.alloc HW.out HW.out.size _) (by have := HW.out.size; simp; omega) _), Lib.hid ((Ru.new _ _ _).alloc _), Lib.hid (by have := Ru.new (v8.alloc (.cells #[.int .i64 N2, .int .i64 D2] 28)) (.int .i64 S1) (.int .i64 T1); simpa using this), Lib.hid ((HO.out.alloc _).alloc _), Lib.hid (HO3.out.below ((Below.alloc (Below.refl _ _) (Nat.le_refl _) _).alloc (by simp) _)), Lib.hid ((HX.out.alloc _).alloc _), Lib.hid (HO5.out.below ((Below.alloc (Below.refl _ _) (Nat.le_refl _) _).alloc (by simp) _)), Lib.hid ((HN.out.alloc _).alloc _), Lib.hid ((HS.out.alloc _).alloc _), Lib.hid (HO7.out.below ((Below.alloc (Below.refl _ _) (Nat.le_refl _) _).alloc (by simp) _))⟩
  rw [hX8]
  clear hX8 HLT
  obtain ⟨gm, hgm⟩ : ∃ g, v8.heap.size = g := ⟨_, rfl⟩
  try rw [hgm] at HM HT2 ⊢
  clear hgm
  have b0 := HO.out.c0
  have b1 := HO.out.c1
  have x0 := HX.out.c0
  have x1 := HX.out.c1
  have n0 := HN.out.c0
  have n1 := HN.out.c1
  have s0 := HS.out.c0
  have s1 := HS.out.c1
  have p0 := HM.out.c0
  have p1 := HM.out.c1
  have q0 := HT2.out.c0
  have q1 := HT2.out.c1
  clear HO7
  go_upto_region 15 with (first
    | (go_at_call 54; with_reducible refine (HLa.out _).mono ?_; rintro e v9a ⟨rfl, hB9a⟩; have HO := Lib.hid (Ou.below HO.out hB9a); have b0 := HO.out.c0; have b1 := HO.out.c1; have HO3 := Lib.hid (Out.below HO3.out hB9a); have HX := Lib.hid (Ru.below HX.out hB9a); have x0 := HX.out.c0; have x1 := HX.out.c1; have HO5 := Lib.hid (Out.below HO5.out hB9a); have HN := Lib.hid (Ru.below HN.out hB9a); have n0 := HN.out.c0; have n1 := HN.out.c1; have HS := Lib.hid (Ru.below HS.out hB9a); have s0 := HS.out.c0; have s1 := HS.out.c1; have HM := Lib.hid (Ru.below HM.out hB9a); have p0 := HM.out.c0; have p1 := HM.out.c1; have HT2 := Lib.hid (Ru.below HT2.out hB9a); have q0 := HT2.out.c0; have q1 := HT2.out.c1; have HW : Hid (Below w.heap.size w _) := Lib.hid (below_step HW.out hB9a); clear hB9a)
    | (go_at_call 54; with_reducible refine (HLb.out _).mono ?_; rintro e v9b ⟨rfl, hB9b⟩; have HO := Lib.hid (Ou.below HO.out hB9b); have b0 := HO.out.c0; have b1 := HO.out.c1; have HO3 := Lib.hid (Out.below HO3.out hB9b); have HX := Lib.hid (Ru.below HX.out hB9b); have x0 := HX.out.c0; have x1 := HX.out.c1; have HO5 := Lib.hid (Out.below HO5.out hB9b); have HN := Lib.hid (Ru.below HN.out hB9b); have n0 := HN.out.c0; have n1 := HN.out.c1; have HS := Lib.hid (Ru.below HS.out hB9b); have s0 := HS.out.c0; have s1 := HS.out.c1; have HM := Lib.hid (Ru.below HM.out hB9b); have p0 := HM.out.c0; have p1 := HM.out.c1; have HT2 := Lib.hid (Ru.below HT2.out hB9b); have q0 := HT2.out.c0; have q1 := HT2.out.c1; have HW : Hid (Below w.heap.size w _) := Lib.hid (below_step HW.out hB9b); clear hB9b)
    | fail)
  go_upto_region 16 with (go_at_call 36; with_reducible refine (HPr.out _ A3 c3 HW.out HO3.out).mono ?_; rintro e v10 ⟨rfl, hB10⟩; have HO := Lib.hid (Ou.below HO.out hB10); have b0 := HO.out.c0; have b1 := HO.out.c1; have HO3 := Lib.hid (Out.below HO3.out hB10); have HX := Lib.hid (Ru.below HX.out hB10); have x0 := HX.out.c0; have x1 := HX.out.c1; have HO5 := Lib.hid (Out.below HO5.out hB10); have HN := Lib.hid (Ru.below HN.out hB10); have n0 := HN.out.c0; have n1 := HN.out.c1; have HS := Lib.hid (Ru.below HS.out hB10); have s0 := HS.out.c0; have s1 := HS.out.c1; have HM := Lib.hid (Ru.below HM.out hB10); have p0 := HM.out.c0; have p1 := HM.out.c1; have HT2 := Lib.hid (Ru.below HT2.out hB10); have q0 := HT2.out.c0; have q1 := HT2.out.c1; have HW : Hid (Below w.heap.size w _) := Lib.hid (below_step HW.out hB10); clear hB10)
  go_upto_region 21 with (fail)
  go_wp2_with (first
    | (go_at_call 55; with_reducible refine (HI.out _ HW.out).mono ?_; rintro e v12 ⟨rfl, hB12⟩; have HO := Lib.hid (Ou.below HO.out hB12); have b0 := HO.out.c0; have b1 := HO.out.c1; have HO3 := Lib.hid (Out.below HO3.out hB12); have HX := Lib.hid (Ru.below HX.out hB12); have x0 := HX.out.c0; have x1 := HX.out.c1; have HO5 := Lib.hid (Out.below HO5.out hB12); have HN := Lib.hid (Ru.below HN.out hB12); have n0 := HN.out.c0; have n1 := HN.out.c1; have HS := Lib.hid (Ru.below HS.out hB12); have s0 := HS.out.c0; have s1 := HS.out.c1; have HM := Lib.hid (Ru.below HM.out hB12); have p0 := HM.out.c0; have p1 := HM.out.c1; have HT2 := Lib.hid (Ru.below HT2.out hB12); have q0 := HT2.out.c0; have q1 := HT2.out.c1; have HW : Hid (Below w.heap.size w _) := Lib.hid (below_step HW.out hB12); clear hB12)
    | (go_at_call 16; refine (awake_any _).mono ?_; rintro e v13 ⟨rfl, hB13⟩; have HW : Hid (Below w.heap.size w _) := Lib.hid (below_step HW.out hB13); clear hB13)
    | fail)
  go_ret
  exact ⟨rfl, HW.out⟩

set_option maxRecDepth 100000 in
set_option maxHeartbeats 16000000 in
theorem best_tx (ns ss own row best cs : List Int) (A B C : Option Addr) (c d e1 n : Nat) (kk : Int) (N1 D1 S1 T1 N2 D2 P Q N3 D3 S3 T3 : Int) (w : World)
    (hL : SaysU 15 #[(.agg #[.slice A ns.length c, .slice B ss.length d])] w false)
    (hV : SaysU 22 #[(.agg #[.slice A ns.length c, .slice B ss.length d])] w true)
    (hT : ∀ W, Below w.heap.size w W → Calls Try.prog 26 #[(.agg #[.slice A ns.length c, .slice B ss.length d]), .int .i64 n] W fun e w' => ∃ A' c', e = .returned (.tuple #[.slice A' own.length c', .int .i64 0]) ∧ Out w' A' c' own ∧ Below W.heap.size W w')
    (hP : ∀ W, Below w.heap.size w W → Calls Try.prog 28 #[(.agg #[.slice A ns.length c, .slice B ss.length d]), .int .i64 n] W fun e w' => e = .returned (.tuple #[.agg #[.int .i64 P, .int .i64 Q], .int .i64 0]) ∧ Below W.heap.size W w')
    (hR : ∀ W, Below w.heap.size w W → Calls Try.prog 23 #[(.agg #[.slice A ns.length c, .slice B ss.length d])] W fun e w' => ∃ A' c', e = .returned (.tuple #[.slice A' row.length c', .int .i64 0]) ∧ Out w' A' c' row ∧ Below W.heap.size W w')
    (hK1 : KeptU (.agg #[.slice A ns.length c, .slice B ss.length d]) own w N1 D1 S1 T1)
    (hB : ∀ W, Below w.heap.size w W → Calls Try.prog 30 #[(.agg #[.slice A ns.length c, .slice B ss.length d]), (.agg #[.int .i64 N1, .int .i64 D1])] W fun e w' => ∃ A' c', e = .returned (.tuple #[.slice A' best.length c', .int .i64 0]) ∧ Out w' A' c' best ∧ Below W.heap.size W w')
    (hK2 : KeptU (.agg #[.slice A ns.length c, .slice B ss.length d]) best w N2 D2 S1 T1)
    (hPr : ∀ W A' c', Below w.heap.size w W → Out W A' c' own → Calls Try.prog 36 #[(.agg #[.slice A ns.length c, .slice B ss.length d]), .slice A' own.length c', (.agg #[.int .i64 P, .int .i64 Q])] W fun e w' => e = .returned (.tuple #[.bool true, .int .i64 0]) ∧ Below W.heap.size W w')
    (hI : SaysU 55 #[(.agg #[.slice A ns.length c, .slice B ss.length d]), .slice C cs.length e1] w true)
    (hK3 : ∀ W, Below w.heap.size w W → Calls Try.prog 53 #[(.agg #[.slice A ns.length c, .slice B ss.length d]), .slice C cs.length e1] W fun e w' => e = .returned (.tuple #[.agg #[.int .i64 N3, .int .i64 D3], .agg #[.int .i64 S3, .int .i64 T3], .bool true]) ∧ Below W.heap.size W w')
    (hna : Ints w A ns) (hnp : 0 < ns.length) (hrl : row.length = ns.length) (hol : own.length = n) (hn1 : 1 ≤ n) (hn2 : n ≤ ns.length) (hn10 : ns.length ≤ 10) (hcl : decide (60 < (cs.length : Int)) = false) (hkn : 1 + kk % (ns.length : Int) = (n : Int)) (hk0 : 0 ≤ kk ∧ kk ≤ 255) (m1 : smB N1 D1 = true) (m2 : smB S1 T1 = true) (m3 : smB N2 D2 = true) (m5 : smB N3 D3 = true) (m6 : smB S3 T3 = true) (hl1 : decide (N1 * D2 < N2 * D1) = false) (hl2 : decide (S1 * T1 < S1 * T1) = false) (hl3 : decide (N1 * D3 < N3 * D1) = true) :
    Calls Try.prog 8 #[(.agg #[.slice A ns.length c, .slice B ss.length d]), .int .u8 kk, .slice C cs.length e1] w fun e w' => e = .returned (.bool true) ∧ Below w.heap.size w w' := by
  have HL := Lib.hid hL
  have HV := Lib.hid hV
  have HT := Lib.hid hT
  have HP := Lib.hid hP
  have HR := Lib.hid hR
  have HK1 := Lib.hid hK1
  have HB := Lib.hid hB
  have HK2 := Lib.hid hK2
  have HPr := Lib.hid hPr
  have HI := Lib.hid hI
  have HK3 := Lib.hid hK3
  obtain ⟨m1a, m1b, m1c, m1d⟩ := sm_of m1
  obtain ⟨m2a, m2b, m2c, m2d⟩ := sm_of m2
  obtain ⟨m3a, m3b, m3c, m3d⟩ := sm_of m3
  obtain ⟨m5a, m5b, m5c, m5d⟩ := sm_of m5
  obtain ⟨m6a, m6b, m6c, m6d⟩ := sm_of m6
  have HLa : Hid (∀ V : World, Calls Try.prog 54 #[.agg #[.int .i64 N1, .int .i64 D1], .agg #[.int .i64 N2, .int .i64 D2]] V fun e w' => e = .returned (.bool false) ∧ Below V.heap.size V w') := Lib.hid fun V => by
    have := lessR_any N1 D1 N2 D2 V (by omega) (by omega) (by omega) (by omega)
    rw [hl1] at this
    exact this
  have HLb : Hid (∀ V : World, Calls Try.prog 54 #[.agg #[.int .i64 S1, .int .i64 T1], .agg #[.int .i64 S1, .int .i64 T1]] V fun e w' => e = .returned (.bool false) ∧ Below V.heap.size V w') := Lib.hid fun V => by
    have := lessR_any S1 T1 S1 T1 V (by omega) (by omega) (by omega) (by omega)
    rw [hl2] at this
    exact this
  have HLc : Hid (∀ V : World, Calls Try.prog 54 #[.agg #[.int .i64 N1, .int .i64 D1], .agg #[.int .i64 N3, .int .i64 D3]] V fun e w' => e = .returned (.bool true) ∧ Below V.heap.size V w') := Lib.hid fun V => by
    have := lessR_any N1 D1 N3 D3 V (by omega) (by omega) (by omega) (by omega)
    rw [hl3] at this
    exact this
  have hw1 : IntKind.i64.wrap (1 + kk % (ns.length : Int)) = (n : Int) := by rw [IntWalk.i64_in _ (by omega)]; exact hkn
  have hnz : decide ((ns.length : Int) = 0) = false := decide_eq_false (by omega)
  have HRL := Lib.hid hrl
  have HOL := Lib.hid hol
  have HNA := Lib.hid hna
  clear hL hV hT hP hR hK1 hB hK2 hPr hI hK3 hl1 hl2 hrl hol hna m1 m1a m1b m1c m1d m2 m2a m2b m2c m2d m3 m3a m3b m3c m3d m5 m5a m5b m5c m5d m6 m6a m6b m6c m6d hl3
  obtain ⟨W0, hW0, HW, HO, z0⟩ := one_new w #[.slice A ns.length c, .slice B ss.length d] 24
  have HO : Hid (Ou W0 w.heap.size (.slice A ns.length c) (.slice B ss.length d)) := HO
  clear z0
  have b0 := HO.out.c0
  have b1 := HO.out.c1
  go_enter Try.func8, Try.ntmps8
  go_upto_region 4 with (first
    | (go_at_call 15; with_reducible refine (HL.out _ (by repeat (first | with_reducible exact Below.refl _ _ | with_reducible assumption | refine below_drewN ?_ _ | with_reducible refine Below.drew ?_ | (refine Below.setCell ?_ (by first | (simp; done) | (simp; omega) | omega) _) | (refine Below.alloc ?_ (by first | (simp; done) | (simp; omega) | omega) _)))).mono ?_; rintro e v1 ⟨rfl, hB1⟩; rw [← hW0] at hB1; have HO := Lib.hid (Ou.below HO.out hB1); have b0 := HO.out.c0; have b1 := HO.out.c1; have HW : Hid (Below w.heap.size w _) := Lib.hid (below_step HW.out hB1); clear hB1)
    | (go_at_call 22; with_reducible refine (HV.out _ HW.out).mono ?_; rintro e v2 ⟨rfl, hB2⟩; have HO := Lib.hid (Ou.below HO.out hB2); have b0 := HO.out.c0; have b1 := HO.out.c1; have HW : Hid (Below w.heap.size w _) := Lib.hid (below_step HW.out hB2); clear hB2)
    | fail)
  go_upto_region 5 with (go_at_call 26; with_reducible refine (HT.out _ HW.out).mono ?_; rintro e v3 ⟨A3, c3, rfl, ho, hB3⟩; have HO := Lib.hid (Ou.below HO.out hB3); have b0 := HO.out.c0; have b1 := HO.out.c1; have HW : Hid (Below w.heap.size w _) := Lib.hid (below_step HW.out hB3); have HO3 := Lib.hid ho; clear ho; clear hB3)
  go_upto_region 6 with (go_at_call 28; with_reducible refine (HP.out _ HW.out).mono ?_; rintro e v4 ⟨rfl, hB4⟩; have HO := Lib.hid (Ou.below HO.out hB4); have b0 := HO.out.c0; have b1 := HO.out.c1; have HO3 := Lib.hid (Out.below HO3.out hB4); have HW : Hid (Below w.heap.size w _) := Lib.hid (below_step HW.out hB4); clear hB4)
  have HLT := HO.out.lt
  obtain ⟨X4, hX4, HW, HX, HO, HO3⟩ : ∃ X, (v4.alloc (.cells #[.int .i64 P, .int .i64 Q] 28)) = X ∧ Hid (Below w.heap.size w X) ∧ Hid (Ru X v4.heap.size (.int .i64 P) (.int .i64 Q)) ∧ Hid (Ou X w.heap.size (.slice A ns.length c) (.slice B ss.length d)) ∧ Hid (Out X A3 c3 own) :=
    ⟨_, rfl, Lib.hid (Below.alloc HW.out HW.out.size _), Lib.hid (Ru.new _ _ _), Lib.hid (HO.out.alloc _), Lib.hid (HO3.out.below (Below.alloc (Below.refl _ _) (Nat.le_refl _) _))⟩
  rw [hX4]
  clear hX4 HLT
  obtain ⟨gx, hgx⟩ : ∃ g, v4.heap.size = g := ⟨_, rfl⟩
  try rw [hgx] at HX ⊢
  clear hgx
  have b0 := HO.out.c0
  have b1 := HO.out.c1
  have x0 := HX.out.c0
  have x1 := HX.out.c1
  go_upto_region 7 with (go_at_call 23; with_reducible refine (HR.out _ HW.out).mono ?_; rintro e v5 ⟨A5, c5, rfl, ho, hB5⟩; have HO := Lib.hid (Ou.below HO.out hB5); have b0 := HO.out.c0; have b1 := HO.out.c1; have HO3 := Lib.hid (Out.below HO3.out hB5); have HX := Lib.hid (Ru.below HX.out hB5); have x0 := HX.out.c0; have x1 := HX.out.c1; have HW : Hid (Below w.heap.size w _) := Lib.hid (below_step HW.out hB5); have HO5 := Lib.hid ho; clear ho; clear hB5)
  have hrl := HRL.out
  have hol := HOL.out
  rw [hrl, hol]
  clear hrl hol
  have hK1 := HK1.out
  unfold KeptU at hK1
  rw [HOL.out] at hK1
  have HK1 := Lib.hid hK1
  clear hK1
  have hPr := HPr.out
  rw [HOL.out] at hPr
  have HPr := Lib.hid hPr
  clear hPr
  go_upto_region 9 with (fail)
  go_upto_region 10 with (go_at_call 53; with_reducible refine (HK1.out _ A3 c3 HW.out HO3.out).mono ?_; rintro e v6 ⟨rfl, hB6⟩; have HO := Lib.hid (Ou.below HO.out hB6); have b0 := HO.out.c0; have b1 := HO.out.c1; have HO3 := Lib.hid (Out.below HO3.out hB6); have HX := Lib.hid (Ru.below HX.out hB6); have x0 := HX.out.c0; have x1 := HX.out.c1; have HO5 := Lib.hid (Out.below HO5.out hB6); have HW : Hid (Below w.heap.size w _) := Lib.hid (below_step HW.out hB6); clear hB6)
  have HLT := HX.out.lt
  obtain ⟨X6, hX6, HW, HN, HS, HO, HO3, HX, HO5⟩ : ∃ X, ((v6.alloc (.cells #[.int .i64 N1, .int .i64 D1] 28)).alloc (.cells #[.int .i64 S1, .int .i64 T1] 28)) = X ∧ Hid (Below w.heap.size w X) ∧ Hid (Ru X v6.heap.size (.int .i64 N1) (.int .i64 D1)) ∧ Hid (Ru X (v6.heap.size + 1) (.int .i64 S1) (.int .i64 T1)) ∧ Hid (Ou X w.heap.size (.slice A ns.length c) (.slice B ss.length d)) ∧ Hid (Out X A3 c3 own) ∧ Hid (Ru X gx (.int .i64 P) (.int .i64 Q)) ∧ Hid (Out X A5 c5 row) :=
    ⟨_, rfl, Lib.hid (Below.alloc (Below.alloc HW.out HW.out.size _) (by have := HW.out.size; simp; omega) _), Lib.hid ((Ru.new _ _ _).alloc _), Lib.hid (by have := Ru.new (v6.alloc (.cells #[.int .i64 N1, .int .i64 D1] 28)) (.int .i64 S1) (.int .i64 T1); simpa using this), Lib.hid ((HO.out.alloc _).alloc _), Lib.hid (HO3.out.below ((Below.alloc (Below.refl _ _) (Nat.le_refl _) _).alloc (by simp) _)), Lib.hid ((HX.out.alloc _).alloc _), Lib.hid (HO5.out.below ((Below.alloc (Below.refl _ _) (Nat.le_refl _) _).alloc (by simp) _))⟩
  rw [hX6]
  clear hX6 HLT
  obtain ⟨gn, hgn⟩ : ∃ g, v6.heap.size = g := ⟨_, rfl⟩
  try rw [hgn] at HN HS ⊢
  clear hgn
  have b0 := HO.out.c0
  have b1 := HO.out.c1
  have x0 := HX.out.c0
  have x1 := HX.out.c1
  have n0 := HN.out.c0
  have n1 := HN.out.c1
  have s0 := HS.out.c0
  have s1 := HS.out.c1
  go_upto_region 11 with (go_at_call 30; with_reducible refine (HB.out _ HW.out).mono ?_; rintro e v7 ⟨A7, c7, rfl, ho, hB7⟩; have HO := Lib.hid (Ou.below HO.out hB7); have b0 := HO.out.c0; have b1 := HO.out.c1; have HO3 := Lib.hid (Out.below HO3.out hB7); have HX := Lib.hid (Ru.below HX.out hB7); have x0 := HX.out.c0; have x1 := HX.out.c1; have HO5 := Lib.hid (Out.below HO5.out hB7); have HN := Lib.hid (Ru.below HN.out hB7); have n0 := HN.out.c0; have n1 := HN.out.c1; have HS := Lib.hid (Ru.below HS.out hB7); have s0 := HS.out.c0; have s1 := HS.out.c1; have HW : Hid (Below w.heap.size w _) := Lib.hid (below_step HW.out hB7); have HO7 := Lib.hid ho; clear ho; clear hB7)
  go_upto_region 12 with (go_at_call 53; with_reducible refine (HK2.out _ A7 c7 HW.out HO7.out).mono ?_; rintro e v8 ⟨rfl, hB8⟩; have HO := Lib.hid (Ou.below HO.out hB8); have b0 := HO.out.c0; have b1 := HO.out.c1; have HO3 := Lib.hid (Out.below HO3.out hB8); have HX := Lib.hid (Ru.below HX.out hB8); have x0 := HX.out.c0; have x1 := HX.out.c1; have HO5 := Lib.hid (Out.below HO5.out hB8); have HN := Lib.hid (Ru.below HN.out hB8); have n0 := HN.out.c0; have n1 := HN.out.c1; have HS := Lib.hid (Ru.below HS.out hB8); have s0 := HS.out.c0; have s1 := HS.out.c1; have HO7 := Lib.hid (Out.below HO7.out hB8); have HW : Hid (Below w.heap.size w _) := Lib.hid (below_step HW.out hB8); clear hB8)
  have HLT := HS.out.lt
  obtain ⟨X8, hX8, HW, HM, HT2, HO, HO3, HX, HO5, HN, HS, HO7⟩ : ∃ X, ((v8.alloc (.cells #[.int .i64 N2, .int .i64 D2] 28)).alloc (.cells #[.int .i64 S1, .int .i64 T1] 28)) = X ∧ Hid (Below w.heap.size w X) ∧ Hid (Ru X v8.heap.size (.int .i64 N2) (.int .i64 D2)) ∧ Hid (Ru X (v8.heap.size + 1) (.int .i64 S1) (.int .i64 T1)) ∧ Hid (Ou X w.heap.size (.slice A ns.length c) (.slice B ss.length d)) ∧ Hid (Out X A3 c3 own) ∧ Hid (Ru X gx (.int .i64 P) (.int .i64 Q)) ∧ Hid (Out X A5 c5 row) ∧ Hid (Ru X gn (.int .i64 N1) (.int .i64 D1)) ∧ Hid (Ru X (gn + 1) (.int .i64 S1) (.int .i64 T1)) ∧ Hid (Out X A7 c7 best) :=
    ⟨_, rfl, Lib.hid (Below.alloc (Below.alloc HW.out HW.out.size _) (by have := HW.out.size; simp; omega) _), Lib.hid ((Ru.new _ _ _).alloc _), Lib.hid (by have := Ru.new (v8.alloc (.cells #[.int .i64 N2, .int .i64 D2] 28)) (.int .i64 S1) (.int .i64 T1); simpa using this), Lib.hid ((HO.out.alloc _).alloc _), Lib.hid (HO3.out.below ((Below.alloc (Below.refl _ _) (Nat.le_refl _) _).alloc (by simp) _)), Lib.hid ((HX.out.alloc _).alloc _), Lib.hid (HO5.out.below ((Below.alloc (Below.refl _ _) (Nat.le_refl _) _).alloc (by simp) _)), Lib.hid ((HN.out.alloc _).alloc _), Lib.hid ((HS.out.alloc _).alloc _), Lib.hid (HO7.out.below ((Below.alloc (Below.refl _ _) (Nat.le_refl _) _).alloc (by simp) _))⟩
  rw [hX8]
  clear hX8 HLT
  obtain ⟨gm, hgm⟩ : ∃ g, v8.heap.size = g := ⟨_, rfl⟩
  try rw [hgm] at HM HT2 ⊢
  clear hgm
  have b0 := HO.out.c0
  have b1 := HO.out.c1
  have x0 := HX.out.c0
  have x1 := HX.out.c1
  have n0 := HN.out.c0
  have n1 := HN.out.c1
  have s0 := HS.out.c0
  have s1 := HS.out.c1
  have p0 := HM.out.c0
  have p1 := HM.out.c1
  have q0 := HT2.out.c0
  have q1 := HT2.out.c1
  clear HO7
  go_upto_region 15 with (first
    | (go_at_call 54; with_reducible refine (HLa.out _).mono ?_; rintro e v9a ⟨rfl, hB9a⟩; have HO := Lib.hid (Ou.below HO.out hB9a); have b0 := HO.out.c0; have b1 := HO.out.c1; have HO3 := Lib.hid (Out.below HO3.out hB9a); have HX := Lib.hid (Ru.below HX.out hB9a); have x0 := HX.out.c0; have x1 := HX.out.c1; have HO5 := Lib.hid (Out.below HO5.out hB9a); have HN := Lib.hid (Ru.below HN.out hB9a); have n0 := HN.out.c0; have n1 := HN.out.c1; have HS := Lib.hid (Ru.below HS.out hB9a); have s0 := HS.out.c0; have s1 := HS.out.c1; have HM := Lib.hid (Ru.below HM.out hB9a); have p0 := HM.out.c0; have p1 := HM.out.c1; have HT2 := Lib.hid (Ru.below HT2.out hB9a); have q0 := HT2.out.c0; have q1 := HT2.out.c1; have HW : Hid (Below w.heap.size w _) := Lib.hid (below_step HW.out hB9a); clear hB9a)
    | (go_at_call 54; with_reducible refine (HLb.out _).mono ?_; rintro e v9b ⟨rfl, hB9b⟩; have HO := Lib.hid (Ou.below HO.out hB9b); have b0 := HO.out.c0; have b1 := HO.out.c1; have HO3 := Lib.hid (Out.below HO3.out hB9b); have HX := Lib.hid (Ru.below HX.out hB9b); have x0 := HX.out.c0; have x1 := HX.out.c1; have HO5 := Lib.hid (Out.below HO5.out hB9b); have HN := Lib.hid (Ru.below HN.out hB9b); have n0 := HN.out.c0; have n1 := HN.out.c1; have HS := Lib.hid (Ru.below HS.out hB9b); have s0 := HS.out.c0; have s1 := HS.out.c1; have HM := Lib.hid (Ru.below HM.out hB9b); have p0 := HM.out.c0; have p1 := HM.out.c1; have HT2 := Lib.hid (Ru.below HT2.out hB9b); have q0 := HT2.out.c0; have q1 := HT2.out.c1; have HW : Hid (Below w.heap.size w _) := Lib.hid (below_step HW.out hB9b); clear hB9b)
    | fail)
  go_upto_region 16 with (go_at_call 36; with_reducible refine (HPr.out _ A3 c3 HW.out HO3.out).mono ?_; rintro e v10 ⟨rfl, hB10⟩; have HO := Lib.hid (Ou.below HO.out hB10); have b0 := HO.out.c0; have b1 := HO.out.c1; have HO3 := Lib.hid (Out.below HO3.out hB10); have HX := Lib.hid (Ru.below HX.out hB10); have x0 := HX.out.c0; have x1 := HX.out.c1; have HO5 := Lib.hid (Out.below HO5.out hB10); have HN := Lib.hid (Ru.below HN.out hB10); have n0 := HN.out.c0; have n1 := HN.out.c1; have HS := Lib.hid (Ru.below HS.out hB10); have s0 := HS.out.c0; have s1 := HS.out.c1; have HM := Lib.hid (Ru.below HM.out hB10); have p0 := HM.out.c0; have p1 := HM.out.c1; have HT2 := Lib.hid (Ru.below HT2.out hB10); have q0 := HT2.out.c0; have q1 := HT2.out.c1; have HW : Hid (Below w.heap.size w _) := Lib.hid (below_step HW.out hB10); clear hB10)
  go_upto_region 21 with (fail)
  go_upto_region 23 with (go_at_call 55; with_reducible refine (HI.out _ HW.out).mono ?_; rintro e v12 ⟨rfl, hB12⟩; have HO := Lib.hid (Ou.below HO.out hB12); have b0 := HO.out.c0; have b1 := HO.out.c1; have HO3 := Lib.hid (Out.below HO3.out hB12); have HX := Lib.hid (Ru.below HX.out hB12); have x0 := HX.out.c0; have x1 := HX.out.c1; have HO5 := Lib.hid (Out.below HO5.out hB12); have HN := Lib.hid (Ru.below HN.out hB12); have n0 := HN.out.c0; have n1 := HN.out.c1; have HS := Lib.hid (Ru.below HS.out hB12); have s0 := HS.out.c0; have s1 := HS.out.c1; have HM := Lib.hid (Ru.below HM.out hB12); have p0 := HM.out.c0; have p1 := HM.out.c1; have HT2 := Lib.hid (Ru.below HT2.out hB12); have q0 := HT2.out.c0; have q1 := HT2.out.c1; have HW : Hid (Below w.heap.size w _) := Lib.hid (below_step HW.out hB12); clear hB12)
  go_upto_region 24 with (go_at_call 53; with_reducible refine (HK3.out _ HW.out).mono ?_; rintro e v14 ⟨rfl, hB14⟩; have HO := Lib.hid (Ou.below HO.out hB14); have b0 := HO.out.c0; have b1 := HO.out.c1; have HO3 := Lib.hid (Out.below HO3.out hB14); have HX := Lib.hid (Ru.below HX.out hB14); have x0 := HX.out.c0; have x1 := HX.out.c1; have HO5 := Lib.hid (Out.below HO5.out hB14); have HN := Lib.hid (Ru.below HN.out hB14); have n0 := HN.out.c0; have n1 := HN.out.c1; have HS := Lib.hid (Ru.below HS.out hB14); have s0 := HS.out.c0; have s1 := HS.out.c1; have HM := Lib.hid (Ru.below HM.out hB14); have p0 := HM.out.c0; have p1 := HM.out.c1; have HT2 := Lib.hid (Ru.below HT2.out hB14); have q0 := HT2.out.c0; have q1 := HT2.out.c1; have HW : Hid (Below w.heap.size w _) := Lib.hid (below_step HW.out hB14); clear hB14)
  have HLT := HT2.out.lt
  obtain ⟨X14, hX14, HW, HA3, HB3, HO, HO3, HX, HO5, HN, HS, HM, HT2⟩ : ∃ X, ((v14.alloc (.cells #[.int .i64 N3, .int .i64 D3] 28)).alloc (.cells #[.int .i64 S3, .int .i64 T3] 28)) = X ∧ Hid (Below w.heap.size w X) ∧ Hid (Ru X v14.heap.size (.int .i64 N3) (.int .i64 D3)) ∧ Hid (Ru X (v14.heap.size + 1) (.int .i64 S3) (.int .i64 T3)) ∧ Hid (Ou X w.heap.size (.slice A ns.length c) (.slice B ss.length d)) ∧ Hid (Out X A3 c3 own) ∧ Hid (Ru X gx (.int .i64 P) (.int .i64 Q)) ∧ Hid (Out X A5 c5 row) ∧ Hid (Ru X gn (.int .i64 N1) (.int .i64 D1)) ∧ Hid (Ru X (gn + 1) (.int .i64 S1) (.int .i64 T1)) ∧ Hid (Ru X gm (.int .i64 N2) (.int .i64 D2)) ∧ Hid (Ru X (gm + 1) (.int .i64 S1) (.int .i64 T1)) :=
    ⟨_, rfl, Lib.hid (Below.alloc (Below.alloc HW.out HW.out.size _) (by have := HW.out.size; simp; omega) _), Lib.hid ((Ru.new _ _ _).alloc _), Lib.hid (by have := Ru.new (v14.alloc (.cells #[.int .i64 N3, .int .i64 D3] 28)) (.int .i64 S3) (.int .i64 T3); simpa using this), Lib.hid ((HO.out.alloc _).alloc _), Lib.hid (HO3.out.below ((Below.alloc (Below.refl _ _) (Nat.le_refl _) _).alloc (by simp) _)), Lib.hid ((HX.out.alloc _).alloc _), Lib.hid (HO5.out.below ((Below.alloc (Below.refl _ _) (Nat.le_refl _) _).alloc (by simp) _)), Lib.hid ((HN.out.alloc _).alloc _), Lib.hid ((HS.out.alloc _).alloc _), Lib.hid ((HM.out.alloc _).alloc _), Lib.hid ((HT2.out.alloc _).alloc _)⟩
  rw [hX14]
  clear hX14 HLT
  obtain ⟨gt, hgt⟩ : ∃ g, v14.heap.size = g := ⟨_, rfl⟩
  try rw [hgt] at HA3 HB3 ⊢
  clear hgt
  have b0 := HO.out.c0
  have b1 := HO.out.c1
  have x0 := HX.out.c0
  have x1 := HX.out.c1
  have n0 := HN.out.c0
  have n1 := HN.out.c1
  have s0 := HS.out.c0
  have s1 := HS.out.c1
  have p0 := HM.out.c0
  have p1 := HM.out.c1
  have q0 := HT2.out.c0
  have q1 := HT2.out.c1
  have a0 := HA3.out.c0
  have a1 := HA3.out.c1
  have f0 := HB3.out.c0
  have f1 := HB3.out.c1
  go_wp2_with (first
    | (go_at_call 54; with_reducible refine (HLc.out _).mono ?_; rintro e v9c ⟨rfl, hB9c⟩; have HO := Lib.hid (Ou.below HO.out hB9c); have b0 := HO.out.c0; have b1 := HO.out.c1; have HO3 := Lib.hid (Out.below HO3.out hB9c); have HX := Lib.hid (Ru.below HX.out hB9c); have x0 := HX.out.c0; have x1 := HX.out.c1; have HO5 := Lib.hid (Out.below HO5.out hB9c); have HN := Lib.hid (Ru.below HN.out hB9c); have n0 := HN.out.c0; have n1 := HN.out.c1; have HS := Lib.hid (Ru.below HS.out hB9c); have s0 := HS.out.c0; have s1 := HS.out.c1; have HM := Lib.hid (Ru.below HM.out hB9c); have p0 := HM.out.c0; have p1 := HM.out.c1; have HT2 := Lib.hid (Ru.below HT2.out hB9c); have q0 := HT2.out.c0; have q1 := HT2.out.c1; have HA3 := Lib.hid (Ru.below HA3.out hB9c); have a0 := HA3.out.c0; have a1 := HA3.out.c1; have HB3 := Lib.hid (Ru.below HB3.out hB9c); have f0 := HB3.out.c0; have f1 := HB3.out.c1; have HW : Hid (Below w.heap.size w _) := Lib.hid (below_step HW.out hB9c); clear hB9c)
    | (go_at_call 16; refine (awake_any _).mono ?_; rintro e v13 ⟨rfl, hB13⟩; have HW : Hid (Below w.heap.size w _) := Lib.hid (below_step HW.out hB13); clear hB13)
    | fail)
  go_ret
  exact ⟨rfl, HW.out⟩

set_option maxRecDepth 100000 in
set_option maxHeartbeats 16000000 in
theorem best_ty (ns ss own row best cs : List Int) (A B C : Option Addr) (c d e1 n : Nat) (kk : Int) (N1 D1 S1 T1 N2 D2 P Q N3 D3 S3 T3 : Int) (w : World)
    (hL : SaysU 15 #[(.agg #[.slice A ns.length c, .slice B ss.length d])] w false)
    (hV : SaysU 22 #[(.agg #[.slice A ns.length c, .slice B ss.length d])] w true)
    (hT : ∀ W, Below w.heap.size w W → Calls Try.prog 26 #[(.agg #[.slice A ns.length c, .slice B ss.length d]), .int .i64 n] W fun e w' => ∃ A' c', e = .returned (.tuple #[.slice A' own.length c', .int .i64 0]) ∧ Out w' A' c' own ∧ Below W.heap.size W w')
    (hP : ∀ W, Below w.heap.size w W → Calls Try.prog 28 #[(.agg #[.slice A ns.length c, .slice B ss.length d]), .int .i64 n] W fun e w' => e = .returned (.tuple #[.agg #[.int .i64 P, .int .i64 Q], .int .i64 0]) ∧ Below W.heap.size W w')
    (hR : ∀ W, Below w.heap.size w W → Calls Try.prog 23 #[(.agg #[.slice A ns.length c, .slice B ss.length d])] W fun e w' => ∃ A' c', e = .returned (.tuple #[.slice A' row.length c', .int .i64 0]) ∧ Out w' A' c' row ∧ Below W.heap.size W w')
    (hK1 : KeptU (.agg #[.slice A ns.length c, .slice B ss.length d]) own w N1 D1 S1 T1)
    (hB : ∀ W, Below w.heap.size w W → Calls Try.prog 30 #[(.agg #[.slice A ns.length c, .slice B ss.length d]), (.agg #[.int .i64 N1, .int .i64 D1])] W fun e w' => ∃ A' c', e = .returned (.tuple #[.slice A' best.length c', .int .i64 0]) ∧ Out w' A' c' best ∧ Below W.heap.size W w')
    (hK2 : KeptU (.agg #[.slice A ns.length c, .slice B ss.length d]) best w N2 D2 S1 T1)
    (hPr : ∀ W A' c', Below w.heap.size w W → Out W A' c' own → Calls Try.prog 36 #[(.agg #[.slice A ns.length c, .slice B ss.length d]), .slice A' own.length c', (.agg #[.int .i64 P, .int .i64 Q])] W fun e w' => e = .returned (.tuple #[.bool true, .int .i64 0]) ∧ Below W.heap.size W w')
    (hI : SaysU 55 #[(.agg #[.slice A ns.length c, .slice B ss.length d]), .slice C cs.length e1] w true)
    (hK3 : ∀ W, Below w.heap.size w W → Calls Try.prog 53 #[(.agg #[.slice A ns.length c, .slice B ss.length d]), .slice C cs.length e1] W fun e w' => e = .returned (.tuple #[.agg #[.int .i64 N3, .int .i64 D3], .agg #[.int .i64 S3, .int .i64 T3], .bool true]) ∧ Below W.heap.size W w')
    (hna : Ints w A ns) (hnp : 0 < ns.length) (hrl : row.length = ns.length) (hol : own.length = n) (hn1 : 1 ≤ n) (hn2 : n ≤ ns.length) (hn10 : ns.length ≤ 10) (hcl : decide (60 < (cs.length : Int)) = false) (hkn : 1 + kk % (ns.length : Int) = (n : Int)) (hk0 : 0 ≤ kk ∧ kk ≤ 255) (m1 : smB N1 D1 = true) (m2 : smB S1 T1 = true) (m3 : smB N2 D2 = true) (m5 : smB N3 D3 = true) (m6 : smB S3 T3 = true) (hl1 : decide (N1 * D2 < N2 * D1) = false) (hl2 : decide (S1 * T1 < S1 * T1) = false) (hl3 : decide (N1 * D3 < N3 * D1) = false) (hl4 : decide (S1 * T3 < S3 * T1) = false) :
    Calls Try.prog 8 #[(.agg #[.slice A ns.length c, .slice B ss.length d]), .int .u8 kk, .slice C cs.length e1] w fun e w' => e = .returned (.bool true) ∧ Below w.heap.size w w' := by
  have HL := Lib.hid hL
  have HV := Lib.hid hV
  have HT := Lib.hid hT
  have HP := Lib.hid hP
  have HR := Lib.hid hR
  have HK1 := Lib.hid hK1
  have HB := Lib.hid hB
  have HK2 := Lib.hid hK2
  have HPr := Lib.hid hPr
  have HI := Lib.hid hI
  have HK3 := Lib.hid hK3
  obtain ⟨m1a, m1b, m1c, m1d⟩ := sm_of m1
  obtain ⟨m2a, m2b, m2c, m2d⟩ := sm_of m2
  obtain ⟨m3a, m3b, m3c, m3d⟩ := sm_of m3
  obtain ⟨m5a, m5b, m5c, m5d⟩ := sm_of m5
  obtain ⟨m6a, m6b, m6c, m6d⟩ := sm_of m6
  have HLa : Hid (∀ V : World, Calls Try.prog 54 #[.agg #[.int .i64 N1, .int .i64 D1], .agg #[.int .i64 N2, .int .i64 D2]] V fun e w' => e = .returned (.bool false) ∧ Below V.heap.size V w') := Lib.hid fun V => by
    have := lessR_any N1 D1 N2 D2 V (by omega) (by omega) (by omega) (by omega)
    rw [hl1] at this
    exact this
  have HLb : Hid (∀ V : World, Calls Try.prog 54 #[.agg #[.int .i64 S1, .int .i64 T1], .agg #[.int .i64 S1, .int .i64 T1]] V fun e w' => e = .returned (.bool false) ∧ Below V.heap.size V w') := Lib.hid fun V => by
    have := lessR_any S1 T1 S1 T1 V (by omega) (by omega) (by omega) (by omega)
    rw [hl2] at this
    exact this
  have HLc : Hid (∀ V : World, Calls Try.prog 54 #[.agg #[.int .i64 N1, .int .i64 D1], .agg #[.int .i64 N3, .int .i64 D3]] V fun e w' => e = .returned (.bool false) ∧ Below V.heap.size V w') := Lib.hid fun V => by
    have := lessR_any N1 D1 N3 D3 V (by omega) (by omega) (by omega) (by omega)
    rw [hl3] at this
    exact this
  have HLd : Hid (∀ V : World, Calls Try.prog 54 #[.agg #[.int .i64 S1, .int .i64 T1], .agg #[.int .i64 S3, .int .i64 T3]] V fun e w' => e = .returned (.bool false) ∧ Below V.heap.size V w') := Lib.hid fun V => by
    have := lessR_any S1 T1 S3 T3 V (by omega) (by omega) (by omega) (by omega)
    rw [hl4] at this
    exact this
  have hw1 : IntKind.i64.wrap (1 + kk % (ns.length : Int)) = (n : Int) := by rw [IntWalk.i64_in _ (by omega)]; exact hkn
  have hnz : decide ((ns.length : Int) = 0) = false := decide_eq_false (by omega)
  have HRL := Lib.hid hrl
  have HOL := Lib.hid hol
  have HNA := Lib.hid hna
  clear hL hV hT hP hR hK1 hB hK2 hPr hI hK3 hl1 hl2 hrl hol hna m1 m1a m1b m1c m1d m2 m2a m2b m2c m2d m3 m3a m3b m3c m3d m5 m5a m5b m5c m5d m6 m6a m6b m6c m6d hl3 hl4
  obtain ⟨W0, hW0, HW, HO, z0⟩ := one_new w #[.slice A ns.length c, .slice B ss.length d] 24
  have HO : Hid (Ou W0 w.heap.size (.slice A ns.length c) (.slice B ss.length d)) := HO
  clear z0
  have b0 := HO.out.c0
  have b1 := HO.out.c1
  go_enter Try.func8, Try.ntmps8
  go_upto_region 4 with (first
    | (go_at_call 15; with_reducible refine (HL.out _ (by repeat (first | with_reducible exact Below.refl _ _ | with_reducible assumption | refine below_drewN ?_ _ | with_reducible refine Below.drew ?_ | (refine Below.setCell ?_ (by first | (simp; done) | (simp; omega) | omega) _) | (refine Below.alloc ?_ (by first | (simp; done) | (simp; omega) | omega) _)))).mono ?_; rintro e v1 ⟨rfl, hB1⟩; rw [← hW0] at hB1; have HO := Lib.hid (Ou.below HO.out hB1); have b0 := HO.out.c0; have b1 := HO.out.c1; have HW : Hid (Below w.heap.size w _) := Lib.hid (below_step HW.out hB1); clear hB1)
    | (go_at_call 22; with_reducible refine (HV.out _ HW.out).mono ?_; rintro e v2 ⟨rfl, hB2⟩; have HO := Lib.hid (Ou.below HO.out hB2); have b0 := HO.out.c0; have b1 := HO.out.c1; have HW : Hid (Below w.heap.size w _) := Lib.hid (below_step HW.out hB2); clear hB2)
    | fail)
  go_upto_region 5 with (go_at_call 26; with_reducible refine (HT.out _ HW.out).mono ?_; rintro e v3 ⟨A3, c3, rfl, ho, hB3⟩; have HO := Lib.hid (Ou.below HO.out hB3); have b0 := HO.out.c0; have b1 := HO.out.c1; have HW : Hid (Below w.heap.size w _) := Lib.hid (below_step HW.out hB3); have HO3 := Lib.hid ho; clear ho; clear hB3)
  go_upto_region 6 with (go_at_call 28; with_reducible refine (HP.out _ HW.out).mono ?_; rintro e v4 ⟨rfl, hB4⟩; have HO := Lib.hid (Ou.below HO.out hB4); have b0 := HO.out.c0; have b1 := HO.out.c1; have HO3 := Lib.hid (Out.below HO3.out hB4); have HW : Hid (Below w.heap.size w _) := Lib.hid (below_step HW.out hB4); clear hB4)
  have HLT := HO.out.lt
  obtain ⟨X4, hX4, HW, HX, HO, HO3⟩ : ∃ X, (v4.alloc (.cells #[.int .i64 P, .int .i64 Q] 28)) = X ∧ Hid (Below w.heap.size w X) ∧ Hid (Ru X v4.heap.size (.int .i64 P) (.int .i64 Q)) ∧ Hid (Ou X w.heap.size (.slice A ns.length c) (.slice B ss.length d)) ∧ Hid (Out X A3 c3 own) :=
    ⟨_, rfl, Lib.hid (Below.alloc HW.out HW.out.size _), Lib.hid (Ru.new _ _ _), Lib.hid (HO.out.alloc _), Lib.hid (HO3.out.below (Below.alloc (Below.refl _ _) (Nat.le_refl _) _))⟩
  rw [hX4]
  clear hX4 HLT
  obtain ⟨gx, hgx⟩ : ∃ g, v4.heap.size = g := ⟨_, rfl⟩
  try rw [hgx] at HX ⊢
  clear hgx
  have b0 := HO.out.c0
  have b1 := HO.out.c1
  have x0 := HX.out.c0
  have x1 := HX.out.c1
  go_upto_region 7 with (go_at_call 23; with_reducible refine (HR.out _ HW.out).mono ?_; rintro e v5 ⟨A5, c5, rfl, ho, hB5⟩; have HO := Lib.hid (Ou.below HO.out hB5); have b0 := HO.out.c0; have b1 := HO.out.c1; have HO3 := Lib.hid (Out.below HO3.out hB5); have HX := Lib.hid (Ru.below HX.out hB5); have x0 := HX.out.c0; have x1 := HX.out.c1; have HW : Hid (Below w.heap.size w _) := Lib.hid (below_step HW.out hB5); have HO5 := Lib.hid ho; clear ho; clear hB5)
  have hrl := HRL.out
  have hol := HOL.out
  rw [hrl, hol]
  clear hrl hol
  have hK1 := HK1.out
  unfold KeptU at hK1
  rw [HOL.out] at hK1
  have HK1 := Lib.hid hK1
  clear hK1
  have hPr := HPr.out
  rw [HOL.out] at hPr
  have HPr := Lib.hid hPr
  clear hPr
  go_upto_region 9 with (fail)
  go_upto_region 10 with (go_at_call 53; with_reducible refine (HK1.out _ A3 c3 HW.out HO3.out).mono ?_; rintro e v6 ⟨rfl, hB6⟩; have HO := Lib.hid (Ou.below HO.out hB6); have b0 := HO.out.c0; have b1 := HO.out.c1; have HO3 := Lib.hid (Out.below HO3.out hB6); have HX := Lib.hid (Ru.below HX.out hB6); have x0 := HX.out.c0; have x1 := HX.out.c1; have HO5 := Lib.hid (Out.below HO5.out hB6); have HW : Hid (Below w.heap.size w _) := Lib.hid (below_step HW.out hB6); clear hB6)
  have HLT := HX.out.lt
  obtain ⟨X6, hX6, HW, HN, HS, HO, HO3, HX, HO5⟩ : ∃ X, ((v6.alloc (.cells #[.int .i64 N1, .int .i64 D1] 28)).alloc (.cells #[.int .i64 S1, .int .i64 T1] 28)) = X ∧ Hid (Below w.heap.size w X) ∧ Hid (Ru X v6.heap.size (.int .i64 N1) (.int .i64 D1)) ∧ Hid (Ru X (v6.heap.size + 1) (.int .i64 S1) (.int .i64 T1)) ∧ Hid (Ou X w.heap.size (.slice A ns.length c) (.slice B ss.length d)) ∧ Hid (Out X A3 c3 own) ∧ Hid (Ru X gx (.int .i64 P) (.int .i64 Q)) ∧ Hid (Out X A5 c5 row) :=
    ⟨_, rfl, Lib.hid (Below.alloc (Below.alloc HW.out HW.out.size _) (by have := HW.out.size; simp; omega) _), Lib.hid ((Ru.new _ _ _).alloc _), Lib.hid (by have := Ru.new (v6.alloc (.cells #[.int .i64 N1, .int .i64 D1] 28)) (.int .i64 S1) (.int .i64 T1); simpa using this), Lib.hid ((HO.out.alloc _).alloc _), Lib.hid (HO3.out.below ((Below.alloc (Below.refl _ _) (Nat.le_refl _) _).alloc (by simp) _)), Lib.hid ((HX.out.alloc _).alloc _), Lib.hid (HO5.out.below ((Below.alloc (Below.refl _ _) (Nat.le_refl _) _).alloc (by simp) _))⟩
  rw [hX6]
  clear hX6 HLT
  obtain ⟨gn, hgn⟩ : ∃ g, v6.heap.size = g := ⟨_, rfl⟩
  try rw [hgn] at HN HS ⊢
  clear hgn
  have b0 := HO.out.c0
  have b1 := HO.out.c1
  have x0 := HX.out.c0
  have x1 := HX.out.c1
  have n0 := HN.out.c0
  have n1 := HN.out.c1
  have s0 := HS.out.c0
  have s1 := HS.out.c1
  go_upto_region 11 with (go_at_call 30; with_reducible refine (HB.out _ HW.out).mono ?_; rintro e v7 ⟨A7, c7, rfl, ho, hB7⟩; have HO := Lib.hid (Ou.below HO.out hB7); have b0 := HO.out.c0; have b1 := HO.out.c1; have HO3 := Lib.hid (Out.below HO3.out hB7); have HX := Lib.hid (Ru.below HX.out hB7); have x0 := HX.out.c0; have x1 := HX.out.c1; have HO5 := Lib.hid (Out.below HO5.out hB7); have HN := Lib.hid (Ru.below HN.out hB7); have n0 := HN.out.c0; have n1 := HN.out.c1; have HS := Lib.hid (Ru.below HS.out hB7); have s0 := HS.out.c0; have s1 := HS.out.c1; have HW : Hid (Below w.heap.size w _) := Lib.hid (below_step HW.out hB7); have HO7 := Lib.hid ho; clear ho; clear hB7)
  go_upto_region 12 with (go_at_call 53; with_reducible refine (HK2.out _ A7 c7 HW.out HO7.out).mono ?_; rintro e v8 ⟨rfl, hB8⟩; have HO := Lib.hid (Ou.below HO.out hB8); have b0 := HO.out.c0; have b1 := HO.out.c1; have HO3 := Lib.hid (Out.below HO3.out hB8); have HX := Lib.hid (Ru.below HX.out hB8); have x0 := HX.out.c0; have x1 := HX.out.c1; have HO5 := Lib.hid (Out.below HO5.out hB8); have HN := Lib.hid (Ru.below HN.out hB8); have n0 := HN.out.c0; have n1 := HN.out.c1; have HS := Lib.hid (Ru.below HS.out hB8); have s0 := HS.out.c0; have s1 := HS.out.c1; have HO7 := Lib.hid (Out.below HO7.out hB8); have HW : Hid (Below w.heap.size w _) := Lib.hid (below_step HW.out hB8); clear hB8)
  have HLT := HS.out.lt
  obtain ⟨X8, hX8, HW, HM, HT2, HO, HO3, HX, HO5, HN, HS, HO7⟩ : ∃ X, ((v8.alloc (.cells #[.int .i64 N2, .int .i64 D2] 28)).alloc (.cells #[.int .i64 S1, .int .i64 T1] 28)) = X ∧ Hid (Below w.heap.size w X) ∧ Hid (Ru X v8.heap.size (.int .i64 N2) (.int .i64 D2)) ∧ Hid (Ru X (v8.heap.size + 1) (.int .i64 S1) (.int .i64 T1)) ∧ Hid (Ou X w.heap.size (.slice A ns.length c) (.slice B ss.length d)) ∧ Hid (Out X A3 c3 own) ∧ Hid (Ru X gx (.int .i64 P) (.int .i64 Q)) ∧ Hid (Out X A5 c5 row) ∧ Hid (Ru X gn (.int .i64 N1) (.int .i64 D1)) ∧ Hid (Ru X (gn + 1) (.int .i64 S1) (.int .i64 T1)) ∧ Hid (Out X A7 c7 best) :=
    ⟨_, rfl, Lib.hid (Below.alloc (Below.alloc HW.out HW.out.size _) (by have := HW.out.size; simp; omega) _), Lib.hid ((Ru.new _ _ _).alloc _), Lib.hid (by have := Ru.new (v8.alloc (.cells #[.int .i64 N2, .int .i64 D2] 28)) (.int .i64 S1) (.int .i64 T1); simpa using this), Lib.hid ((HO.out.alloc _).alloc _), Lib.hid (HO3.out.below ((Below.alloc (Below.refl _ _) (Nat.le_refl _) _).alloc (by simp) _)), Lib.hid ((HX.out.alloc _).alloc _), Lib.hid (HO5.out.below ((Below.alloc (Below.refl _ _) (Nat.le_refl _) _).alloc (by simp) _)), Lib.hid ((HN.out.alloc _).alloc _), Lib.hid ((HS.out.alloc _).alloc _), Lib.hid (HO7.out.below ((Below.alloc (Below.refl _ _) (Nat.le_refl _) _).alloc (by simp) _))⟩
  rw [hX8]
  clear hX8 HLT
  obtain ⟨gm, hgm⟩ : ∃ g, v8.heap.size = g := ⟨_, rfl⟩
  try rw [hgm] at HM HT2 ⊢
  clear hgm
  have b0 := HO.out.c0
  have b1 := HO.out.c1
  have x0 := HX.out.c0
  have x1 := HX.out.c1
  have n0 := HN.out.c0
  have n1 := HN.out.c1
  have s0 := HS.out.c0
  have s1 := HS.out.c1
  have p0 := HM.out.c0
  have p1 := HM.out.c1
  have q0 := HT2.out.c0
  have q1 := HT2.out.c1
  clear HO7
  go_upto_region 15 with (first
    | (go_at_call 54; with_reducible refine (HLa.out _).mono ?_; rintro e v9a ⟨rfl, hB9a⟩; have HO := Lib.hid (Ou.below HO.out hB9a); have b0 := HO.out.c0; have b1 := HO.out.c1; have HO3 := Lib.hid (Out.below HO3.out hB9a); have HX := Lib.hid (Ru.below HX.out hB9a); have x0 := HX.out.c0; have x1 := HX.out.c1; have HO5 := Lib.hid (Out.below HO5.out hB9a); have HN := Lib.hid (Ru.below HN.out hB9a); have n0 := HN.out.c0; have n1 := HN.out.c1; have HS := Lib.hid (Ru.below HS.out hB9a); have s0 := HS.out.c0; have s1 := HS.out.c1; have HM := Lib.hid (Ru.below HM.out hB9a); have p0 := HM.out.c0; have p1 := HM.out.c1; have HT2 := Lib.hid (Ru.below HT2.out hB9a); have q0 := HT2.out.c0; have q1 := HT2.out.c1; have HW : Hid (Below w.heap.size w _) := Lib.hid (below_step HW.out hB9a); clear hB9a)
    | (go_at_call 54; with_reducible refine (HLb.out _).mono ?_; rintro e v9b ⟨rfl, hB9b⟩; have HO := Lib.hid (Ou.below HO.out hB9b); have b0 := HO.out.c0; have b1 := HO.out.c1; have HO3 := Lib.hid (Out.below HO3.out hB9b); have HX := Lib.hid (Ru.below HX.out hB9b); have x0 := HX.out.c0; have x1 := HX.out.c1; have HO5 := Lib.hid (Out.below HO5.out hB9b); have HN := Lib.hid (Ru.below HN.out hB9b); have n0 := HN.out.c0; have n1 := HN.out.c1; have HS := Lib.hid (Ru.below HS.out hB9b); have s0 := HS.out.c0; have s1 := HS.out.c1; have HM := Lib.hid (Ru.below HM.out hB9b); have p0 := HM.out.c0; have p1 := HM.out.c1; have HT2 := Lib.hid (Ru.below HT2.out hB9b); have q0 := HT2.out.c0; have q1 := HT2.out.c1; have HW : Hid (Below w.heap.size w _) := Lib.hid (below_step HW.out hB9b); clear hB9b)
    | fail)
  go_upto_region 16 with (go_at_call 36; with_reducible refine (HPr.out _ A3 c3 HW.out HO3.out).mono ?_; rintro e v10 ⟨rfl, hB10⟩; have HO := Lib.hid (Ou.below HO.out hB10); have b0 := HO.out.c0; have b1 := HO.out.c1; have HO3 := Lib.hid (Out.below HO3.out hB10); have HX := Lib.hid (Ru.below HX.out hB10); have x0 := HX.out.c0; have x1 := HX.out.c1; have HO5 := Lib.hid (Out.below HO5.out hB10); have HN := Lib.hid (Ru.below HN.out hB10); have n0 := HN.out.c0; have n1 := HN.out.c1; have HS := Lib.hid (Ru.below HS.out hB10); have s0 := HS.out.c0; have s1 := HS.out.c1; have HM := Lib.hid (Ru.below HM.out hB10); have p0 := HM.out.c0; have p1 := HM.out.c1; have HT2 := Lib.hid (Ru.below HT2.out hB10); have q0 := HT2.out.c0; have q1 := HT2.out.c1; have HW : Hid (Below w.heap.size w _) := Lib.hid (below_step HW.out hB10); clear hB10)
  go_upto_region 21 with (fail)
  go_upto_region 23 with (go_at_call 55; with_reducible refine (HI.out _ HW.out).mono ?_; rintro e v12 ⟨rfl, hB12⟩; have HO := Lib.hid (Ou.below HO.out hB12); have b0 := HO.out.c0; have b1 := HO.out.c1; have HO3 := Lib.hid (Out.below HO3.out hB12); have HX := Lib.hid (Ru.below HX.out hB12); have x0 := HX.out.c0; have x1 := HX.out.c1; have HO5 := Lib.hid (Out.below HO5.out hB12); have HN := Lib.hid (Ru.below HN.out hB12); have n0 := HN.out.c0; have n1 := HN.out.c1; have HS := Lib.hid (Ru.below HS.out hB12); have s0 := HS.out.c0; have s1 := HS.out.c1; have HM := Lib.hid (Ru.below HM.out hB12); have p0 := HM.out.c0; have p1 := HM.out.c1; have HT2 := Lib.hid (Ru.below HT2.out hB12); have q0 := HT2.out.c0; have q1 := HT2.out.c1; have HW : Hid (Below w.heap.size w _) := Lib.hid (below_step HW.out hB12); clear hB12)
  go_upto_region 24 with (go_at_call 53; with_reducible refine (HK3.out _ HW.out).mono ?_; rintro e v14 ⟨rfl, hB14⟩; have HO := Lib.hid (Ou.below HO.out hB14); have b0 := HO.out.c0; have b1 := HO.out.c1; have HO3 := Lib.hid (Out.below HO3.out hB14); have HX := Lib.hid (Ru.below HX.out hB14); have x0 := HX.out.c0; have x1 := HX.out.c1; have HO5 := Lib.hid (Out.below HO5.out hB14); have HN := Lib.hid (Ru.below HN.out hB14); have n0 := HN.out.c0; have n1 := HN.out.c1; have HS := Lib.hid (Ru.below HS.out hB14); have s0 := HS.out.c0; have s1 := HS.out.c1; have HM := Lib.hid (Ru.below HM.out hB14); have p0 := HM.out.c0; have p1 := HM.out.c1; have HT2 := Lib.hid (Ru.below HT2.out hB14); have q0 := HT2.out.c0; have q1 := HT2.out.c1; have HW : Hid (Below w.heap.size w _) := Lib.hid (below_step HW.out hB14); clear hB14)
  have HLT := HT2.out.lt
  obtain ⟨X14, hX14, HW, HA3, HB3, HO, HO3, HX, HO5, HN, HS, HM, HT2⟩ : ∃ X, ((v14.alloc (.cells #[.int .i64 N3, .int .i64 D3] 28)).alloc (.cells #[.int .i64 S3, .int .i64 T3] 28)) = X ∧ Hid (Below w.heap.size w X) ∧ Hid (Ru X v14.heap.size (.int .i64 N3) (.int .i64 D3)) ∧ Hid (Ru X (v14.heap.size + 1) (.int .i64 S3) (.int .i64 T3)) ∧ Hid (Ou X w.heap.size (.slice A ns.length c) (.slice B ss.length d)) ∧ Hid (Out X A3 c3 own) ∧ Hid (Ru X gx (.int .i64 P) (.int .i64 Q)) ∧ Hid (Out X A5 c5 row) ∧ Hid (Ru X gn (.int .i64 N1) (.int .i64 D1)) ∧ Hid (Ru X (gn + 1) (.int .i64 S1) (.int .i64 T1)) ∧ Hid (Ru X gm (.int .i64 N2) (.int .i64 D2)) ∧ Hid (Ru X (gm + 1) (.int .i64 S1) (.int .i64 T1)) :=
    ⟨_, rfl, Lib.hid (Below.alloc (Below.alloc HW.out HW.out.size _) (by have := HW.out.size; simp; omega) _), Lib.hid ((Ru.new _ _ _).alloc _), Lib.hid (by have := Ru.new (v14.alloc (.cells #[.int .i64 N3, .int .i64 D3] 28)) (.int .i64 S3) (.int .i64 T3); simpa using this), Lib.hid ((HO.out.alloc _).alloc _), Lib.hid (HO3.out.below ((Below.alloc (Below.refl _ _) (Nat.le_refl _) _).alloc (by simp) _)), Lib.hid ((HX.out.alloc _).alloc _), Lib.hid (HO5.out.below ((Below.alloc (Below.refl _ _) (Nat.le_refl _) _).alloc (by simp) _)), Lib.hid ((HN.out.alloc _).alloc _), Lib.hid ((HS.out.alloc _).alloc _), Lib.hid ((HM.out.alloc _).alloc _), Lib.hid ((HT2.out.alloc _).alloc _)⟩
  rw [hX14]
  clear hX14 HLT
  obtain ⟨gt, hgt⟩ : ∃ g, v14.heap.size = g := ⟨_, rfl⟩
  try rw [hgt] at HA3 HB3 ⊢
  clear hgt
  have b0 := HO.out.c0
  have b1 := HO.out.c1
  have x0 := HX.out.c0
  have x1 := HX.out.c1
  have n0 := HN.out.c0
  have n1 := HN.out.c1
  have s0 := HS.out.c0
  have s1 := HS.out.c1
  have p0 := HM.out.c0
  have p1 := HM.out.c1
  have q0 := HT2.out.c0
  have q1 := HT2.out.c1
  have a0 := HA3.out.c0
  have a1 := HA3.out.c1
  have f0 := HB3.out.c0
  have f1 := HB3.out.c1
  go_wp2_with (first
    | (go_at_call 54; with_reducible refine (HLc.out _).mono ?_; rintro e v9c ⟨rfl, hB9c⟩; have HO := Lib.hid (Ou.below HO.out hB9c); have b0 := HO.out.c0; have b1 := HO.out.c1; have HO3 := Lib.hid (Out.below HO3.out hB9c); have HX := Lib.hid (Ru.below HX.out hB9c); have x0 := HX.out.c0; have x1 := HX.out.c1; have HO5 := Lib.hid (Out.below HO5.out hB9c); have HN := Lib.hid (Ru.below HN.out hB9c); have n0 := HN.out.c0; have n1 := HN.out.c1; have HS := Lib.hid (Ru.below HS.out hB9c); have s0 := HS.out.c0; have s1 := HS.out.c1; have HM := Lib.hid (Ru.below HM.out hB9c); have p0 := HM.out.c0; have p1 := HM.out.c1; have HT2 := Lib.hid (Ru.below HT2.out hB9c); have q0 := HT2.out.c0; have q1 := HT2.out.c1; have HA3 := Lib.hid (Ru.below HA3.out hB9c); have a0 := HA3.out.c0; have a1 := HA3.out.c1; have HB3 := Lib.hid (Ru.below HB3.out hB9c); have f0 := HB3.out.c0; have f1 := HB3.out.c1; have HW : Hid (Below w.heap.size w _) := Lib.hid (below_step HW.out hB9c); clear hB9c)
    | (go_at_call 54; with_reducible refine (HLd.out _).mono ?_; rintro e v9d ⟨rfl, hB9d⟩; have HO := Lib.hid (Ou.below HO.out hB9d); have b0 := HO.out.c0; have b1 := HO.out.c1; have HO3 := Lib.hid (Out.below HO3.out hB9d); have HX := Lib.hid (Ru.below HX.out hB9d); have x0 := HX.out.c0; have x1 := HX.out.c1; have HO5 := Lib.hid (Out.below HO5.out hB9d); have HN := Lib.hid (Ru.below HN.out hB9d); have n0 := HN.out.c0; have n1 := HN.out.c1; have HS := Lib.hid (Ru.below HS.out hB9d); have s0 := HS.out.c0; have s1 := HS.out.c1; have HM := Lib.hid (Ru.below HM.out hB9d); have p0 := HM.out.c0; have p1 := HM.out.c1; have HT2 := Lib.hid (Ru.below HT2.out hB9d); have q0 := HT2.out.c0; have q1 := HT2.out.c1; have HA3 := Lib.hid (Ru.below HA3.out hB9d); have a0 := HA3.out.c0; have a1 := HA3.out.c1; have HB3 := Lib.hid (Ru.below HB3.out hB9d); have f0 := HB3.out.c0; have f1 := HB3.out.c1; have HW : Hid (Below w.heap.size w _) := Lib.hid (below_step HW.out hB9d); clear hB9d)
    | (go_at_call 16; refine (awake_any _).mono ?_; rintro e v13 ⟨rfl, hB13⟩; have HW : Hid (Below w.heap.size w _) := Lib.hid (below_step HW.out hB13); clear hB13)
    | fail)
  go_ret
  exact ⟨rfl, HW.out⟩

set_option maxRecDepth 100000 in
set_option maxHeartbeats 16000000 in
theorem best_nn (ns ss own row best cs : List Int) (A B C : Option Addr) (c d e1 n la : Nat) (kk : Int) (N1 D1 S1 T1 N2 D2 S2 T2 P Q : Int) (w : World)
    (hL : SaysU 15 #[(.agg #[.slice A ns.length c, .slice B ss.length d])] w false)
    (hV : SaysU 22 #[(.agg #[.slice A ns.length c, .slice B ss.length d])] w true)
    (hT : ∀ W, Below w.heap.size w W → Calls Try.prog 26 #[(.agg #[.slice A ns.length c, .slice B ss.length d]), .int .i64 n] W fun e w' => ∃ A' c', e = .returned (.tuple #[.slice A' own.length c', .int .i64 0]) ∧ Out w' A' c' own ∧ Below W.heap.size W w')
    (hP : ∀ W, Below w.heap.size w W → Calls Try.prog 28 #[(.agg #[.slice A ns.length c, .slice B ss.length d]), .int .i64 n] W fun e w' => e = .returned (.tuple #[.agg #[.int .i64 P, .int .i64 Q], .int .i64 5]) ∧ Below W.heap.size W w')
    (hR : ∀ W, Below w.heap.size w W → Calls Try.prog 23 #[(.agg #[.slice A ns.length c, .slice B ss.length d])] W fun e w' => ∃ A' c', e = .returned (.tuple #[.slice A' row.length c', .int .i64 0]) ∧ Out w' A' c' row ∧ Below W.heap.size W w')
    (hK1 : KeptU (.agg #[.slice A ns.length c, .slice B ss.length d]) own w N1 D1 S1 T1)
    (hB : ∀ W, Below w.heap.size w W → Calls Try.prog 30 #[(.agg #[.slice A ns.length c, .slice B ss.length d]), (.agg #[.int .i64 N1, .int .i64 D1])] W fun e w' => ∃ A' c', e = .returned (.tuple #[.slice A' best.length c', .int .i64 0]) ∧ Out w' A' c' best ∧ Below W.heap.size W w')
    (hK2 : KeptU (.agg #[.slice A ns.length c, .slice B ss.length d]) best w N2 D2 S2 T2)
    (hI : SaysU 55 #[(.agg #[.slice A ns.length c, .slice B ss.length d]), .slice C cs.length e1] w false)
    (hna : Ints w A ns) (hnp : 0 < ns.length) (hrl : row.length = ns.length) (hol : own.length = n) (hn1 : 1 ≤ n) (hn2 : n ≤ ns.length) (hn10 : ns.length ≤ 10) (hcl : decide (60 < (cs.length : Int)) = false) (hkn : 1 + kk % (ns.length : Int) = (n : Int)) (hk0 : 0 ≤ kk ∧ kk ≤ 255) (m1 : smB N1 D1 = true) (m2 : smB S1 T1 = true) (m3 : smB N2 D2 = true) (m4 : smB S2 T2 = true) (hl1 : decide (N1 * D2 < N2 * D1) = false) (hl2 : decide (S2 * T1 < S1 * T2) = false) (hla : row[n - 1]? = some (la : Int)) (hla2 : la < ns.length) (hz : ns[la]? = some 0) :
    Calls Try.prog 8 #[(.agg #[.slice A ns.length c, .slice B ss.length d]), .int .u8 kk, .slice C cs.length e1] w fun e w' => e = .returned (.bool true) ∧ Below w.heap.size w w' := by
  have HL := Lib.hid hL
  have HV := Lib.hid hV
  have HT := Lib.hid hT
  have HP := Lib.hid hP
  have HR := Lib.hid hR
  have HK1 := Lib.hid hK1
  have HB := Lib.hid hB
  have HK2 := Lib.hid hK2
  have HI := Lib.hid hI
  obtain ⟨m1a, m1b, m1c, m1d⟩ := sm_of m1
  obtain ⟨m2a, m2b, m2c, m2d⟩ := sm_of m2
  obtain ⟨m3a, m3b, m3c, m3d⟩ := sm_of m3
  obtain ⟨m4a, m4b, m4c, m4d⟩ := sm_of m4
  have HLa : Hid (∀ V : World, Calls Try.prog 54 #[.agg #[.int .i64 N1, .int .i64 D1], .agg #[.int .i64 N2, .int .i64 D2]] V fun e w' => e = .returned (.bool false) ∧ Below V.heap.size V w') := Lib.hid fun V => by
    have := lessR_any N1 D1 N2 D2 V (by omega) (by omega) (by omega) (by omega)
    rw [hl1] at this
    exact this
  have HLb : Hid (∀ V : World, Calls Try.prog 54 #[.agg #[.int .i64 S2, .int .i64 T2], .agg #[.int .i64 S1, .int .i64 T1]] V fun e w' => e = .returned (.bool false) ∧ Below V.heap.size V w') := Lib.hid fun V => by
    have := lessR_any S2 T2 S1 T1 V (by omega) (by omega) (by omega) (by omega)
    rw [hl2] at this
    exact this
  have hw1 : IntKind.i64.wrap (1 + kk % (ns.length : Int)) = (n : Int) := by rw [IntWalk.i64_in _ (by omega)]; exact hkn
  have hnz : decide ((ns.length : Int) = 0) = false := decide_eq_false (by omega)
  have HRL := Lib.hid hrl
  have HOL := Lib.hid hol
  have HNA := Lib.hid hna
  have HLA := Lib.hid hla
  have HZ := Lib.hid hz
  have hw2 : IntKind.i64.wrap ((n : Int) - 1) = ((n - 1 : Nat) : Int) := by rw [IntWalk.i64_in _ (by omega)]; omega
  clear hL hV hT hP hR hK1 hB hK2 hI hl1 hl2 hrl hol hna m1 m1a m1b m1c m1d m2 m2a m2b m2c m2d m3 m3a m3b m3c m3d m4 m4a m4b m4c m4d hla hz
  obtain ⟨W0, hW0, HW, HO, z0⟩ := one_new w #[.slice A ns.length c, .slice B ss.length d] 24
  have HO : Hid (Ou W0 w.heap.size (.slice A ns.length c) (.slice B ss.length d)) := HO
  clear z0
  have b0 := HO.out.c0
  have b1 := HO.out.c1
  go_enter Try.func8, Try.ntmps8
  go_upto_region 4 with (first
    | (go_at_call 15; with_reducible refine (HL.out _ (by repeat (first | with_reducible exact Below.refl _ _ | with_reducible assumption | refine below_drewN ?_ _ | with_reducible refine Below.drew ?_ | (refine Below.setCell ?_ (by first | (simp; done) | (simp; omega) | omega) _) | (refine Below.alloc ?_ (by first | (simp; done) | (simp; omega) | omega) _)))).mono ?_; rintro e v1 ⟨rfl, hB1⟩; rw [← hW0] at hB1; have HO := Lib.hid (Ou.below HO.out hB1); have b0 := HO.out.c0; have b1 := HO.out.c1; have HW : Hid (Below w.heap.size w _) := Lib.hid (below_step HW.out hB1); clear hB1)
    | (go_at_call 22; with_reducible refine (HV.out _ HW.out).mono ?_; rintro e v2 ⟨rfl, hB2⟩; have HO := Lib.hid (Ou.below HO.out hB2); have b0 := HO.out.c0; have b1 := HO.out.c1; have HW : Hid (Below w.heap.size w _) := Lib.hid (below_step HW.out hB2); clear hB2)
    | fail)
  go_upto_region 5 with (go_at_call 26; with_reducible refine (HT.out _ HW.out).mono ?_; rintro e v3 ⟨A3, c3, rfl, ho, hB3⟩; have HO := Lib.hid (Ou.below HO.out hB3); have b0 := HO.out.c0; have b1 := HO.out.c1; have HW : Hid (Below w.heap.size w _) := Lib.hid (below_step HW.out hB3); have HO3 := Lib.hid ho; clear ho; clear hB3)
  go_upto_region 6 with (go_at_call 28; with_reducible refine (HP.out _ HW.out).mono ?_; rintro e v4 ⟨rfl, hB4⟩; have HO := Lib.hid (Ou.below HO.out hB4); have b0 := HO.out.c0; have b1 := HO.out.c1; have HO3 := Lib.hid (Out.below HO3.out hB4); have HW : Hid (Below w.heap.size w _) := Lib.hid (below_step HW.out hB4); clear hB4)
  have HLT := HO.out.lt
  obtain ⟨X4, hX4, HW, HX, HO, HO3⟩ : ∃ X, (v4.alloc (.cells #[.int .i64 P, .int .i64 Q] 28)) = X ∧ Hid (Below w.heap.size w X) ∧ Hid (Ru X v4.heap.size (.int .i64 P) (.int .i64 Q)) ∧ Hid (Ou X w.heap.size (.slice A ns.length c) (.slice B ss.length d)) ∧ Hid (Out X A3 c3 own) :=
    ⟨_, rfl, Lib.hid (Below.alloc HW.out HW.out.size _), Lib.hid (Ru.new _ _ _), Lib.hid (HO.out.alloc _), Lib.hid (HO3.out.below (Below.alloc (Below.refl _ _) (Nat.le_refl _) _))⟩
  rw [hX4]
  clear hX4 HLT
  obtain ⟨gx, hgx⟩ : ∃ g, v4.heap.size = g := ⟨_, rfl⟩
  try rw [hgx] at HX ⊢
  clear hgx
  have b0 := HO.out.c0
  have b1 := HO.out.c1
  have x0 := HX.out.c0
  have x1 := HX.out.c1
  go_upto_region 7 with (go_at_call 23; with_reducible refine (HR.out _ HW.out).mono ?_; rintro e v5 ⟨A5, c5, rfl, ho, hB5⟩; have HO := Lib.hid (Ou.below HO.out hB5); have b0 := HO.out.c0; have b1 := HO.out.c1; have HO3 := Lib.hid (Out.below HO3.out hB5); have HX := Lib.hid (Ru.below HX.out hB5); have x0 := HX.out.c0; have x1 := HX.out.c1; have HW : Hid (Below w.heap.size w _) := Lib.hid (below_step HW.out hB5); have HO5 := Lib.hid ho; clear ho; clear hB5)
  have hrl := HRL.out
  have hol := HOL.out
  rw [hrl, hol]
  clear hrl hol
  have hK1 := HK1.out
  unfold KeptU at hK1
  rw [HOL.out] at hK1
  have HK1 := Lib.hid hK1
  clear hK1
  go_upto_region 9 with (fail)
  go_upto_region 10 with (go_at_call 53; with_reducible refine (HK1.out _ A3 c3 HW.out HO3.out).mono ?_; rintro e v6 ⟨rfl, hB6⟩; have HO := Lib.hid (Ou.below HO.out hB6); have b0 := HO.out.c0; have b1 := HO.out.c1; have HO3 := Lib.hid (Out.below HO3.out hB6); have HX := Lib.hid (Ru.below HX.out hB6); have x0 := HX.out.c0; have x1 := HX.out.c1; have HO5 := Lib.hid (Out.below HO5.out hB6); have HW : Hid (Below w.heap.size w _) := Lib.hid (below_step HW.out hB6); clear hB6)
  have HLT := HX.out.lt
  obtain ⟨X6, hX6, HW, HN, HS, HO, HO3, HX, HO5⟩ : ∃ X, ((v6.alloc (.cells #[.int .i64 N1, .int .i64 D1] 28)).alloc (.cells #[.int .i64 S1, .int .i64 T1] 28)) = X ∧ Hid (Below w.heap.size w X) ∧ Hid (Ru X v6.heap.size (.int .i64 N1) (.int .i64 D1)) ∧ Hid (Ru X (v6.heap.size + 1) (.int .i64 S1) (.int .i64 T1)) ∧ Hid (Ou X w.heap.size (.slice A ns.length c) (.slice B ss.length d)) ∧ Hid (Out X A3 c3 own) ∧ Hid (Ru X gx (.int .i64 P) (.int .i64 Q)) ∧ Hid (Out X A5 c5 row) :=
    ⟨_, rfl, Lib.hid (Below.alloc (Below.alloc HW.out HW.out.size _) (by have := HW.out.size; simp; omega) _), Lib.hid ((Ru.new _ _ _).alloc _), Lib.hid (by have := Ru.new (v6.alloc (.cells #[.int .i64 N1, .int .i64 D1] 28)) (.int .i64 S1) (.int .i64 T1); simpa using this), Lib.hid ((HO.out.alloc _).alloc _), Lib.hid (HO3.out.below ((Below.alloc (Below.refl _ _) (Nat.le_refl _) _).alloc (by simp) _)), Lib.hid ((HX.out.alloc _).alloc _), Lib.hid (HO5.out.below ((Below.alloc (Below.refl _ _) (Nat.le_refl _) _).alloc (by simp) _))⟩
  rw [hX6]
  clear hX6 HLT
  obtain ⟨gn, hgn⟩ : ∃ g, v6.heap.size = g := ⟨_, rfl⟩
  try rw [hgn] at HN HS ⊢
  clear hgn
  have b0 := HO.out.c0
  have b1 := HO.out.c1
  have x0 := HX.out.c0
  have x1 := HX.out.c1
  have n0 := HN.out.c0
  have n1 := HN.out.c1
  have s0 := HS.out.c0
  have s1 := HS.out.c1
  go_upto_region 11 with (go_at_call 30; with_reducible refine (HB.out _ HW.out).mono ?_; rintro e v7 ⟨A7, c7, rfl, ho, hB7⟩; have HO := Lib.hid (Ou.below HO.out hB7); have b0 := HO.out.c0; have b1 := HO.out.c1; have HO3 := Lib.hid (Out.below HO3.out hB7); have HX := Lib.hid (Ru.below HX.out hB7); have x0 := HX.out.c0; have x1 := HX.out.c1; have HO5 := Lib.hid (Out.below HO5.out hB7); have HN := Lib.hid (Ru.below HN.out hB7); have n0 := HN.out.c0; have n1 := HN.out.c1; have HS := Lib.hid (Ru.below HS.out hB7); have s0 := HS.out.c0; have s1 := HS.out.c1; have HW : Hid (Below w.heap.size w _) := Lib.hid (below_step HW.out hB7); have HO7 := Lib.hid ho; clear ho; clear hB7)
  go_upto_region 12 with (go_at_call 53; with_reducible refine (HK2.out _ A7 c7 HW.out HO7.out).mono ?_; rintro e v8 ⟨rfl, hB8⟩; have HO := Lib.hid (Ou.below HO.out hB8); have b0 := HO.out.c0; have b1 := HO.out.c1; have HO3 := Lib.hid (Out.below HO3.out hB8); have HX := Lib.hid (Ru.below HX.out hB8); have x0 := HX.out.c0; have x1 := HX.out.c1; have HO5 := Lib.hid (Out.below HO5.out hB8); have HN := Lib.hid (Ru.below HN.out hB8); have n0 := HN.out.c0; have n1 := HN.out.c1; have HS := Lib.hid (Ru.below HS.out hB8); have s0 := HS.out.c0; have s1 := HS.out.c1; have HO7 := Lib.hid (Out.below HO7.out hB8); have HW : Hid (Below w.heap.size w _) := Lib.hid (below_step HW.out hB8); clear hB8)
  have HLT := HS.out.lt
  obtain ⟨X8, hX8, HW, HM, HT2, HO, HO3, HX, HO5, HN, HS, HO7⟩ : ∃ X, ((v8.alloc (.cells #[.int .i64 N2, .int .i64 D2] 28)).alloc (.cells #[.int .i64 S2, .int .i64 T2] 28)) = X ∧ Hid (Below w.heap.size w X) ∧ Hid (Ru X v8.heap.size (.int .i64 N2) (.int .i64 D2)) ∧ Hid (Ru X (v8.heap.size + 1) (.int .i64 S2) (.int .i64 T2)) ∧ Hid (Ou X w.heap.size (.slice A ns.length c) (.slice B ss.length d)) ∧ Hid (Out X A3 c3 own) ∧ Hid (Ru X gx (.int .i64 P) (.int .i64 Q)) ∧ Hid (Out X A5 c5 row) ∧ Hid (Ru X gn (.int .i64 N1) (.int .i64 D1)) ∧ Hid (Ru X (gn + 1) (.int .i64 S1) (.int .i64 T1)) ∧ Hid (Out X A7 c7 best) :=
    ⟨_, rfl, Lib.hid (Below.alloc (Below.alloc HW.out HW.out.size _) (by have := HW.out.size; simp; omega) _), Lib.hid ((Ru.new _ _ _).alloc _), Lib.hid (by have := Ru.new (v8.alloc (.cells #[.int .i64 N2, .int .i64 D2] 28)) (.int .i64 S2) (.int .i64 T2); simpa using this), Lib.hid ((HO.out.alloc _).alloc _), Lib.hid (HO3.out.below ((Below.alloc (Below.refl _ _) (Nat.le_refl _) _).alloc (by simp) _)), Lib.hid ((HX.out.alloc _).alloc _), Lib.hid (HO5.out.below ((Below.alloc (Below.refl _ _) (Nat.le_refl _) _).alloc (by simp) _)), Lib.hid ((HN.out.alloc _).alloc _), Lib.hid ((HS.out.alloc _).alloc _), Lib.hid (HO7.out.below ((Below.alloc (Below.refl _ _) (Nat.le_refl _) _).alloc (by simp) _))⟩
  rw [hX8]
  clear hX8 HLT
  obtain ⟨gm, hgm⟩ : ∃ g, v8.heap.size = g := ⟨_, rfl⟩
  try rw [hgm] at HM HT2 ⊢
  clear hgm
  have b0 := HO.out.c0
  have b1 := HO.out.c1
  have x0 := HX.out.c0
  have x1 := HX.out.c1
  have n0 := HN.out.c0
  have n1 := HN.out.c1
  have s0 := HS.out.c0
  have s1 := HS.out.c1
  have p0 := HM.out.c0
  have p1 := HM.out.c1
  have q0 := HT2.out.c0
  have q1 := HT2.out.c1
  clear HO7
  go_upto_region 18 with (first
    | (go_at_call 54; with_reducible refine (HLa.out _).mono ?_; rintro e v9a ⟨rfl, hB9a⟩; have HO := Lib.hid (Ou.below HO.out hB9a); have b0 := HO.out.c0; have b1 := HO.out.c1; have HO3 := Lib.hid (Out.below HO3.out hB9a); have HX := Lib.hid (Ru.below HX.out hB9a); have x0 := HX.out.c0; have x1 := HX.out.c1; have HO5 := Lib.hid (Out.below HO5.out hB9a); have HN := Lib.hid (Ru.below HN.out hB9a); have n0 := HN.out.c0; have n1 := HN.out.c1; have HS := Lib.hid (Ru.below HS.out hB9a); have s0 := HS.out.c0; have s1 := HS.out.c1; have HM := Lib.hid (Ru.below HM.out hB9a); have p0 := HM.out.c0; have p1 := HM.out.c1; have HT2 := Lib.hid (Ru.below HT2.out hB9a); have q0 := HT2.out.c0; have q1 := HT2.out.c1; have HW : Hid (Below w.heap.size w _) := Lib.hid (below_step HW.out hB9a); clear hB9a)
    | (go_at_call 54; with_reducible refine (HLb.out _).mono ?_; rintro e v9b ⟨rfl, hB9b⟩; have HO := Lib.hid (Ou.below HO.out hB9b); have b0 := HO.out.c0; have b1 := HO.out.c1; have HO3 := Lib.hid (Out.below HO3.out hB9b); have HX := Lib.hid (Ru.below HX.out hB9b); have x0 := HX.out.c0; have x1 := HX.out.c1; have HO5 := Lib.hid (Out.below HO5.out hB9b); have HN := Lib.hid (Ru.below HN.out hB9b); have n0 := HN.out.c0; have n1 := HN.out.c1; have HS := Lib.hid (Ru.below HS.out hB9b); have s0 := HS.out.c0; have s1 := HS.out.c1; have HM := Lib.hid (Ru.below HM.out hB9b); have p0 := HM.out.c0; have p1 := HM.out.c1; have HT2 := Lib.hid (Ru.below HT2.out hB9b); have q0 := HT2.out.c0; have q1 := HT2.out.c1; have HW : Hid (Below w.heap.size w _) := Lib.hid (below_step HW.out hB9b); clear hB9b)
    | fail)
  obtain ⟨g5, p5, rfl, hg5, hc5⟩ := HO5.out.ints.open_ (by rw [HRL.out]; exact hnp)
  have r5 := hc5 _ _ HLA.out
  clear hc5
  have hnn : ((n - 1 : Nat) : Int) < (ns.length : Int) := by omega
  go_upto_region 19 with (fail)
  obtain ⟨ga, pa, rfl, hga, hca⟩ := HNA.out.open_ hnp
  have ra := hca _ _ HZ.out
  clear hca
  have ra := (HW.out.cell (p := ⟨ga, pa + la, none⟩) hga).trans ra
  go_upto_region 21 with (fail)
  go_wp2_with (first
    | (go_at_call 55; with_reducible refine (HI.out _ HW.out).mono ?_; rintro e v12 ⟨rfl, hB12⟩; have HO := Lib.hid (Ou.below HO.out hB12); have b0 := HO.out.c0; have b1 := HO.out.c1; have HO3 := Lib.hid (Out.below HO3.out hB12); have HX := Lib.hid (Ru.below HX.out hB12); have x0 := HX.out.c0; have x1 := HX.out.c1; have HO5 := Lib.hid (Out.below HO5.out hB12); have HN := Lib.hid (Ru.below HN.out hB12); have n0 := HN.out.c0; have n1 := HN.out.c1; have HS := Lib.hid (Ru.below HS.out hB12); have s0 := HS.out.c0; have s1 := HS.out.c1; have HM := Lib.hid (Ru.below HM.out hB12); have p0 := HM.out.c0; have p1 := HM.out.c1; have HT2 := Lib.hid (Ru.below HT2.out hB12); have q0 := HT2.out.c0; have q1 := HT2.out.c1; have HW : Hid (Below w.heap.size w _) := Lib.hid (below_step HW.out hB12); clear hB12)
    | (go_at_call 16; refine (awake_any _).mono ?_; rintro e v13 ⟨rfl, hB13⟩; have HW : Hid (Below w.heap.size w _) := Lib.hid (below_step HW.out hB13); clear hB13)
    | fail)
  go_ret
  exact ⟨rfl, HW.out⟩

set_option maxRecDepth 100000 in
set_option maxHeartbeats 16000000 in
theorem best_nx (ns ss own row best cs : List Int) (A B C : Option Addr) (c d e1 n la : Nat) (kk : Int) (N1 D1 S1 T1 N2 D2 S2 T2 P Q N3 D3 S3 T3 : Int) (w : World)
    (hL : SaysU 15 #[(.agg #[.slice A ns.length c, .slice B ss.length d])] w false)
    (hV : SaysU 22 #[(.agg #[.slice A ns.length c, .slice B ss.length d])] w true)
    (hT : ∀ W, Below w.heap.size w W → Calls Try.prog 26 #[(.agg #[.slice A ns.length c, .slice B ss.length d]), .int .i64 n] W fun e w' => ∃ A' c', e = .returned (.tuple #[.slice A' own.length c', .int .i64 0]) ∧ Out w' A' c' own ∧ Below W.heap.size W w')
    (hP : ∀ W, Below w.heap.size w W → Calls Try.prog 28 #[(.agg #[.slice A ns.length c, .slice B ss.length d]), .int .i64 n] W fun e w' => e = .returned (.tuple #[.agg #[.int .i64 P, .int .i64 Q], .int .i64 5]) ∧ Below W.heap.size W w')
    (hR : ∀ W, Below w.heap.size w W → Calls Try.prog 23 #[(.agg #[.slice A ns.length c, .slice B ss.length d])] W fun e w' => ∃ A' c', e = .returned (.tuple #[.slice A' row.length c', .int .i64 0]) ∧ Out w' A' c' row ∧ Below W.heap.size W w')
    (hK1 : KeptU (.agg #[.slice A ns.length c, .slice B ss.length d]) own w N1 D1 S1 T1)
    (hB : ∀ W, Below w.heap.size w W → Calls Try.prog 30 #[(.agg #[.slice A ns.length c, .slice B ss.length d]), (.agg #[.int .i64 N1, .int .i64 D1])] W fun e w' => ∃ A' c', e = .returned (.tuple #[.slice A' best.length c', .int .i64 0]) ∧ Out w' A' c' best ∧ Below W.heap.size W w')
    (hK2 : KeptU (.agg #[.slice A ns.length c, .slice B ss.length d]) best w N2 D2 S2 T2)
    (hI : SaysU 55 #[(.agg #[.slice A ns.length c, .slice B ss.length d]), .slice C cs.length e1] w true)
    (hK3 : ∀ W, Below w.heap.size w W → Calls Try.prog 53 #[(.agg #[.slice A ns.length c, .slice B ss.length d]), .slice C cs.length e1] W fun e w' => e = .returned (.tuple #[.agg #[.int .i64 N3, .int .i64 D3], .agg #[.int .i64 S3, .int .i64 T3], .bool true]) ∧ Below W.heap.size W w')
    (hna : Ints w A ns) (hnp : 0 < ns.length) (hrl : row.length = ns.length) (hol : own.length = n) (hn1 : 1 ≤ n) (hn2 : n ≤ ns.length) (hn10 : ns.length ≤ 10) (hcl : decide (60 < (cs.length : Int)) = false) (hkn : 1 + kk % (ns.length : Int) = (n : Int)) (hk0 : 0 ≤ kk ∧ kk ≤ 255) (m1 : smB N1 D1 = true) (m2 : smB S1 T1 = true) (m3 : smB N2 D2 = true) (m4 : smB S2 T2 = true) (m5 : smB N3 D3 = true) (m6 : smB S3 T3 = true) (hl1 : decide (N1 * D2 < N2 * D1) = false) (hl2 : decide (S2 * T1 < S1 * T2) = false) (hla : row[n - 1]? = some (la : Int)) (hla2 : la < ns.length) (hz : ns[la]? = some 0) (hl3 : decide (N1 * D3 < N3 * D1) = true) :
    Calls Try.prog 8 #[(.agg #[.slice A ns.length c, .slice B ss.length d]), .int .u8 kk, .slice C cs.length e1] w fun e w' => e = .returned (.bool true) ∧ Below w.heap.size w w' := by
  have HL := Lib.hid hL
  have HV := Lib.hid hV
  have HT := Lib.hid hT
  have HP := Lib.hid hP
  have HR := Lib.hid hR
  have HK1 := Lib.hid hK1
  have HB := Lib.hid hB
  have HK2 := Lib.hid hK2
  have HI := Lib.hid hI
  have HK3 := Lib.hid hK3
  obtain ⟨m1a, m1b, m1c, m1d⟩ := sm_of m1
  obtain ⟨m2a, m2b, m2c, m2d⟩ := sm_of m2
  obtain ⟨m3a, m3b, m3c, m3d⟩ := sm_of m3
  obtain ⟨m4a, m4b, m4c, m4d⟩ := sm_of m4
  obtain ⟨m5a, m5b, m5c, m5d⟩ := sm_of m5
  obtain ⟨m6a, m6b, m6c, m6d⟩ := sm_of m6
  have HLa : Hid (∀ V : World, Calls Try.prog 54 #[.agg #[.int .i64 N1, .int .i64 D1], .agg #[.int .i64 N2, .int .i64 D2]] V fun e w' => e = .returned (.bool false) ∧ Below V.heap.size V w') := Lib.hid fun V => by
    have := lessR_any N1 D1 N2 D2 V (by omega) (by omega) (by omega) (by omega)
    rw [hl1] at this
    exact this
  have HLb : Hid (∀ V : World, Calls Try.prog 54 #[.agg #[.int .i64 S2, .int .i64 T2], .agg #[.int .i64 S1, .int .i64 T1]] V fun e w' => e = .returned (.bool false) ∧ Below V.heap.size V w') := Lib.hid fun V => by
    have := lessR_any S2 T2 S1 T1 V (by omega) (by omega) (by omega) (by omega)
    rw [hl2] at this
    exact this
  have HLc : Hid (∀ V : World, Calls Try.prog 54 #[.agg #[.int .i64 N1, .int .i64 D1], .agg #[.int .i64 N3, .int .i64 D3]] V fun e w' => e = .returned (.bool true) ∧ Below V.heap.size V w') := Lib.hid fun V => by
    have := lessR_any N1 D1 N3 D3 V (by omega) (by omega) (by omega) (by omega)
    rw [hl3] at this
    exact this
  have hw1 : IntKind.i64.wrap (1 + kk % (ns.length : Int)) = (n : Int) := by rw [IntWalk.i64_in _ (by omega)]; exact hkn
  have hnz : decide ((ns.length : Int) = 0) = false := decide_eq_false (by omega)
  have HRL := Lib.hid hrl
  have HOL := Lib.hid hol
  have HNA := Lib.hid hna
  have HLA := Lib.hid hla
  have HZ := Lib.hid hz
  have hw2 : IntKind.i64.wrap ((n : Int) - 1) = ((n - 1 : Nat) : Int) := by rw [IntWalk.i64_in _ (by omega)]; omega
  clear hL hV hT hP hR hK1 hB hK2 hI hK3 hl1 hl2 hrl hol hna m1 m1a m1b m1c m1d m2 m2a m2b m2c m2d m3 m3a m3b m3c m3d m4 m4a m4b m4c m4d m5 m5a m5b m5c m5d m6 m6a m6b m6c m6d hl3 hla hz
  obtain ⟨W0, hW0, HW, HO, z0⟩ := one_new w #[.slice A ns.length c, .slice B ss.length d] 24
  have HO : Hid (Ou W0 w.heap.size (.slice A ns.length c) (.slice B ss.length d)) := HO
  clear z0
  have b0 := HO.out.c0
  have b1 := HO.out.c1
  go_enter Try.func8, Try.ntmps8
  go_upto_region 4 with (first
    | (go_at_call 15; with_reducible refine (HL.out _ (by repeat (first | with_reducible exact Below.refl _ _ | with_reducible assumption | refine below_drewN ?_ _ | with_reducible refine Below.drew ?_ | (refine Below.setCell ?_ (by first | (simp; done) | (simp; omega) | omega) _) | (refine Below.alloc ?_ (by first | (simp; done) | (simp; omega) | omega) _)))).mono ?_; rintro e v1 ⟨rfl, hB1⟩; rw [← hW0] at hB1; have HO := Lib.hid (Ou.below HO.out hB1); have b0 := HO.out.c0; have b1 := HO.out.c1; have HW : Hid (Below w.heap.size w _) := Lib.hid (below_step HW.out hB1); clear hB1)
    | (go_at_call 22; with_reducible refine (HV.out _ HW.out).mono ?_; rintro e v2 ⟨rfl, hB2⟩; have HO := Lib.hid (Ou.below HO.out hB2); have b0 := HO.out.c0; have b1 := HO.out.c1; have HW : Hid (Below w.heap.size w _) := Lib.hid (below_step HW.out hB2); clear hB2)
    | fail)
  go_upto_region 5 with (go_at_call 26; with_reducible refine (HT.out _ HW.out).mono ?_; rintro e v3 ⟨A3, c3, rfl, ho, hB3⟩; have HO := Lib.hid (Ou.below HO.out hB3); have b0 := HO.out.c0; have b1 := HO.out.c1; have HW : Hid (Below w.heap.size w _) := Lib.hid (below_step HW.out hB3); have HO3 := Lib.hid ho; clear ho; clear hB3)
  go_upto_region 6 with (go_at_call 28; with_reducible refine (HP.out _ HW.out).mono ?_; rintro e v4 ⟨rfl, hB4⟩; have HO := Lib.hid (Ou.below HO.out hB4); have b0 := HO.out.c0; have b1 := HO.out.c1; have HO3 := Lib.hid (Out.below HO3.out hB4); have HW : Hid (Below w.heap.size w _) := Lib.hid (below_step HW.out hB4); clear hB4)
  have HLT := HO.out.lt
  obtain ⟨X4, hX4, HW, HX, HO, HO3⟩ : ∃ X, (v4.alloc (.cells #[.int .i64 P, .int .i64 Q] 28)) = X ∧ Hid (Below w.heap.size w X) ∧ Hid (Ru X v4.heap.size (.int .i64 P) (.int .i64 Q)) ∧ Hid (Ou X w.heap.size (.slice A ns.length c) (.slice B ss.length d)) ∧ Hid (Out X A3 c3 own) :=
    ⟨_, rfl, Lib.hid (Below.alloc HW.out HW.out.size _), Lib.hid (Ru.new _ _ _), Lib.hid (HO.out.alloc _), Lib.hid (HO3.out.below (Below.alloc (Below.refl _ _) (Nat.le_refl _) _))⟩
  rw [hX4]
  clear hX4 HLT
  obtain ⟨gx, hgx⟩ : ∃ g, v4.heap.size = g := ⟨_, rfl⟩
  try rw [hgx] at HX ⊢
  clear hgx
  have b0 := HO.out.c0
  have b1 := HO.out.c1
  have x0 := HX.out.c0
  have x1 := HX.out.c1
  go_upto_region 7 with (go_at_call 23; with_reducible refine (HR.out _ HW.out).mono ?_; rintro e v5 ⟨A5, c5, rfl, ho, hB5⟩; have HO := Lib.hid (Ou.below HO.out hB5); have b0 := HO.out.c0; have b1 := HO.out.c1; have HO3 := Lib.hid (Out.below HO3.out hB5); have HX := Lib.hid (Ru.below HX.out hB5); have x0 := HX.out.c0; have x1 := HX.out.c1; have HW : Hid (Below w.heap.size w _) := Lib.hid (below_step HW.out hB5); have HO5 := Lib.hid ho; clear ho; clear hB5)
  have hrl := HRL.out
  have hol := HOL.out
  rw [hrl, hol]
  clear hrl hol
  have hK1 := HK1.out
  unfold KeptU at hK1
  rw [HOL.out] at hK1
  have HK1 := Lib.hid hK1
  clear hK1
  go_upto_region 9 with (fail)
  go_upto_region 10 with (go_at_call 53; with_reducible refine (HK1.out _ A3 c3 HW.out HO3.out).mono ?_; rintro e v6 ⟨rfl, hB6⟩; have HO := Lib.hid (Ou.below HO.out hB6); have b0 := HO.out.c0; have b1 := HO.out.c1; have HO3 := Lib.hid (Out.below HO3.out hB6); have HX := Lib.hid (Ru.below HX.out hB6); have x0 := HX.out.c0; have x1 := HX.out.c1; have HO5 := Lib.hid (Out.below HO5.out hB6); have HW : Hid (Below w.heap.size w _) := Lib.hid (below_step HW.out hB6); clear hB6)
  have HLT := HX.out.lt
  obtain ⟨X6, hX6, HW, HN, HS, HO, HO3, HX, HO5⟩ : ∃ X, ((v6.alloc (.cells #[.int .i64 N1, .int .i64 D1] 28)).alloc (.cells #[.int .i64 S1, .int .i64 T1] 28)) = X ∧ Hid (Below w.heap.size w X) ∧ Hid (Ru X v6.heap.size (.int .i64 N1) (.int .i64 D1)) ∧ Hid (Ru X (v6.heap.size + 1) (.int .i64 S1) (.int .i64 T1)) ∧ Hid (Ou X w.heap.size (.slice A ns.length c) (.slice B ss.length d)) ∧ Hid (Out X A3 c3 own) ∧ Hid (Ru X gx (.int .i64 P) (.int .i64 Q)) ∧ Hid (Out X A5 c5 row) :=
    ⟨_, rfl, Lib.hid (Below.alloc (Below.alloc HW.out HW.out.size _) (by have := HW.out.size; simp; omega) _), Lib.hid ((Ru.new _ _ _).alloc _), Lib.hid (by have := Ru.new (v6.alloc (.cells #[.int .i64 N1, .int .i64 D1] 28)) (.int .i64 S1) (.int .i64 T1); simpa using this), Lib.hid ((HO.out.alloc _).alloc _), Lib.hid (HO3.out.below ((Below.alloc (Below.refl _ _) (Nat.le_refl _) _).alloc (by simp) _)), Lib.hid ((HX.out.alloc _).alloc _), Lib.hid (HO5.out.below ((Below.alloc (Below.refl _ _) (Nat.le_refl _) _).alloc (by simp) _))⟩
  rw [hX6]
  clear hX6 HLT
  obtain ⟨gn, hgn⟩ : ∃ g, v6.heap.size = g := ⟨_, rfl⟩
  try rw [hgn] at HN HS ⊢
  clear hgn
  have b0 := HO.out.c0
  have b1 := HO.out.c1
  have x0 := HX.out.c0
  have x1 := HX.out.c1
  have n0 := HN.out.c0
  have n1 := HN.out.c1
  have s0 := HS.out.c0
  have s1 := HS.out.c1
  go_upto_region 11 with (go_at_call 30; with_reducible refine (HB.out _ HW.out).mono ?_; rintro e v7 ⟨A7, c7, rfl, ho, hB7⟩; have HO := Lib.hid (Ou.below HO.out hB7); have b0 := HO.out.c0; have b1 := HO.out.c1; have HO3 := Lib.hid (Out.below HO3.out hB7); have HX := Lib.hid (Ru.below HX.out hB7); have x0 := HX.out.c0; have x1 := HX.out.c1; have HO5 := Lib.hid (Out.below HO5.out hB7); have HN := Lib.hid (Ru.below HN.out hB7); have n0 := HN.out.c0; have n1 := HN.out.c1; have HS := Lib.hid (Ru.below HS.out hB7); have s0 := HS.out.c0; have s1 := HS.out.c1; have HW : Hid (Below w.heap.size w _) := Lib.hid (below_step HW.out hB7); have HO7 := Lib.hid ho; clear ho; clear hB7)
  go_upto_region 12 with (go_at_call 53; with_reducible refine (HK2.out _ A7 c7 HW.out HO7.out).mono ?_; rintro e v8 ⟨rfl, hB8⟩; have HO := Lib.hid (Ou.below HO.out hB8); have b0 := HO.out.c0; have b1 := HO.out.c1; have HO3 := Lib.hid (Out.below HO3.out hB8); have HX := Lib.hid (Ru.below HX.out hB8); have x0 := HX.out.c0; have x1 := HX.out.c1; have HO5 := Lib.hid (Out.below HO5.out hB8); have HN := Lib.hid (Ru.below HN.out hB8); have n0 := HN.out.c0; have n1 := HN.out.c1; have HS := Lib.hid (Ru.below HS.out hB8); have s0 := HS.out.c0; have s1 := HS.out.c1; have HO7 := Lib.hid (Out.below HO7.out hB8); have HW : Hid (Below w.heap.size w _) := Lib.hid (below_step HW.out hB8); clear hB8)
  have HLT := HS.out.lt
  obtain ⟨X8, hX8, HW, HM, HT2, HO, HO3, HX, HO5, HN, HS, HO7⟩ : ∃ X, ((v8.alloc (.cells #[.int .i64 N2, .int .i64 D2] 28)).alloc (.cells #[.int .i64 S2, .int .i64 T2] 28)) = X ∧ Hid (Below w.heap.size w X) ∧ Hid (Ru X v8.heap.size (.int .i64 N2) (.int .i64 D2)) ∧ Hid (Ru X (v8.heap.size + 1) (.int .i64 S2) (.int .i64 T2)) ∧ Hid (Ou X w.heap.size (.slice A ns.length c) (.slice B ss.length d)) ∧ Hid (Out X A3 c3 own) ∧ Hid (Ru X gx (.int .i64 P) (.int .i64 Q)) ∧ Hid (Out X A5 c5 row) ∧ Hid (Ru X gn (.int .i64 N1) (.int .i64 D1)) ∧ Hid (Ru X (gn + 1) (.int .i64 S1) (.int .i64 T1)) ∧ Hid (Out X A7 c7 best) :=
    ⟨_, rfl, Lib.hid (Below.alloc (Below.alloc HW.out HW.out.size _) (by have := HW.out.size; simp; omega) _), Lib.hid ((Ru.new _ _ _).alloc _), Lib.hid (by have := Ru.new (v8.alloc (.cells #[.int .i64 N2, .int .i64 D2] 28)) (.int .i64 S2) (.int .i64 T2); simpa using this), Lib.hid ((HO.out.alloc _).alloc _), Lib.hid (HO3.out.below ((Below.alloc (Below.refl _ _) (Nat.le_refl _) _).alloc (by simp) _)), Lib.hid ((HX.out.alloc _).alloc _), Lib.hid (HO5.out.below ((Below.alloc (Below.refl _ _) (Nat.le_refl _) _).alloc (by simp) _)), Lib.hid ((HN.out.alloc _).alloc _), Lib.hid ((HS.out.alloc _).alloc _), Lib.hid (HO7.out.below ((Below.alloc (Below.refl _ _) (Nat.le_refl _) _).alloc (by simp) _))⟩
  rw [hX8]
  clear hX8 HLT
  obtain ⟨gm, hgm⟩ : ∃ g, v8.heap.size = g := ⟨_, rfl⟩
  try rw [hgm] at HM HT2 ⊢
  clear hgm
  have b0 := HO.out.c0
  have b1 := HO.out.c1
  have x0 := HX.out.c0
  have x1 := HX.out.c1
  have n0 := HN.out.c0
  have n1 := HN.out.c1
  have s0 := HS.out.c0
  have s1 := HS.out.c1
  have p0 := HM.out.c0
  have p1 := HM.out.c1
  have q0 := HT2.out.c0
  have q1 := HT2.out.c1
  clear HO7
  go_upto_region 18 with (first
    | (go_at_call 54; with_reducible refine (HLa.out _).mono ?_; rintro e v9a ⟨rfl, hB9a⟩; have HO := Lib.hid (Ou.below HO.out hB9a); have b0 := HO.out.c0; have b1 := HO.out.c1; have HO3 := Lib.hid (Out.below HO3.out hB9a); have HX := Lib.hid (Ru.below HX.out hB9a); have x0 := HX.out.c0; have x1 := HX.out.c1; have HO5 := Lib.hid (Out.below HO5.out hB9a); have HN := Lib.hid (Ru.below HN.out hB9a); have n0 := HN.out.c0; have n1 := HN.out.c1; have HS := Lib.hid (Ru.below HS.out hB9a); have s0 := HS.out.c0; have s1 := HS.out.c1; have HM := Lib.hid (Ru.below HM.out hB9a); have p0 := HM.out.c0; have p1 := HM.out.c1; have HT2 := Lib.hid (Ru.below HT2.out hB9a); have q0 := HT2.out.c0; have q1 := HT2.out.c1; have HW : Hid (Below w.heap.size w _) := Lib.hid (below_step HW.out hB9a); clear hB9a)
    | (go_at_call 54; with_reducible refine (HLb.out _).mono ?_; rintro e v9b ⟨rfl, hB9b⟩; have HO := Lib.hid (Ou.below HO.out hB9b); have b0 := HO.out.c0; have b1 := HO.out.c1; have HO3 := Lib.hid (Out.below HO3.out hB9b); have HX := Lib.hid (Ru.below HX.out hB9b); have x0 := HX.out.c0; have x1 := HX.out.c1; have HO5 := Lib.hid (Out.below HO5.out hB9b); have HN := Lib.hid (Ru.below HN.out hB9b); have n0 := HN.out.c0; have n1 := HN.out.c1; have HS := Lib.hid (Ru.below HS.out hB9b); have s0 := HS.out.c0; have s1 := HS.out.c1; have HM := Lib.hid (Ru.below HM.out hB9b); have p0 := HM.out.c0; have p1 := HM.out.c1; have HT2 := Lib.hid (Ru.below HT2.out hB9b); have q0 := HT2.out.c0; have q1 := HT2.out.c1; have HW : Hid (Below w.heap.size w _) := Lib.hid (below_step HW.out hB9b); clear hB9b)
    | fail)
  obtain ⟨g5, p5, rfl, hg5, hc5⟩ := HO5.out.ints.open_ (by rw [HRL.out]; exact hnp)
  have r5 := hc5 _ _ HLA.out
  clear hc5
  have hnn : ((n - 1 : Nat) : Int) < (ns.length : Int) := by omega
  go_upto_region 19 with (fail)
  obtain ⟨ga, pa, rfl, hga, hca⟩ := HNA.out.open_ hnp
  have ra := hca _ _ HZ.out
  clear hca
  have ra := (HW.out.cell (p := ⟨ga, pa + la, none⟩) hga).trans ra
  go_upto_region 21 with (fail)
  go_upto_region 23 with (go_at_call 55; with_reducible refine (HI.out _ HW.out).mono ?_; rintro e v12 ⟨rfl, hB12⟩; have HO := Lib.hid (Ou.below HO.out hB12); have b0 := HO.out.c0; have b1 := HO.out.c1; have HO3 := Lib.hid (Out.below HO3.out hB12); have HX := Lib.hid (Ru.below HX.out hB12); have x0 := HX.out.c0; have x1 := HX.out.c1; have HO5 := Lib.hid (Out.below HO5.out hB12); have HN := Lib.hid (Ru.below HN.out hB12); have n0 := HN.out.c0; have n1 := HN.out.c1; have HS := Lib.hid (Ru.below HS.out hB12); have s0 := HS.out.c0; have s1 := HS.out.c1; have HM := Lib.hid (Ru.below HM.out hB12); have p0 := HM.out.c0; have p1 := HM.out.c1; have HT2 := Lib.hid (Ru.below HT2.out hB12); have q0 := HT2.out.c0; have q1 := HT2.out.c1; have HW : Hid (Below w.heap.size w _) := Lib.hid (below_step HW.out hB12); clear hB12)
  go_upto_region 24 with (go_at_call 53; with_reducible refine (HK3.out _ HW.out).mono ?_; rintro e v14 ⟨rfl, hB14⟩; have HO := Lib.hid (Ou.below HO.out hB14); have b0 := HO.out.c0; have b1 := HO.out.c1; have HO3 := Lib.hid (Out.below HO3.out hB14); have HX := Lib.hid (Ru.below HX.out hB14); have x0 := HX.out.c0; have x1 := HX.out.c1; have HO5 := Lib.hid (Out.below HO5.out hB14); have HN := Lib.hid (Ru.below HN.out hB14); have n0 := HN.out.c0; have n1 := HN.out.c1; have HS := Lib.hid (Ru.below HS.out hB14); have s0 := HS.out.c0; have s1 := HS.out.c1; have HM := Lib.hid (Ru.below HM.out hB14); have p0 := HM.out.c0; have p1 := HM.out.c1; have HT2 := Lib.hid (Ru.below HT2.out hB14); have q0 := HT2.out.c0; have q1 := HT2.out.c1; have HW : Hid (Below w.heap.size w _) := Lib.hid (below_step HW.out hB14); clear hB14)
  have HLT := HT2.out.lt
  obtain ⟨X14, hX14, HW, HA3, HB3, HO, HO3, HX, HO5, HN, HS, HM, HT2⟩ : ∃ X, ((v14.alloc (.cells #[.int .i64 N3, .int .i64 D3] 28)).alloc (.cells #[.int .i64 S3, .int .i64 T3] 28)) = X ∧ Hid (Below w.heap.size w X) ∧ Hid (Ru X v14.heap.size (.int .i64 N3) (.int .i64 D3)) ∧ Hid (Ru X (v14.heap.size + 1) (.int .i64 S3) (.int .i64 T3)) ∧ Hid (Ou X w.heap.size (.slice (some ⟨ga, pa, none⟩) ns.length c) (.slice B ss.length d)) ∧ Hid (Out X A3 c3 own) ∧ Hid (Ru X gx (.int .i64 P) (.int .i64 Q)) ∧ Hid (Out X (some ⟨g5, p5, none⟩) c5 row) ∧ Hid (Ru X gn (.int .i64 N1) (.int .i64 D1)) ∧ Hid (Ru X (gn + 1) (.int .i64 S1) (.int .i64 T1)) ∧ Hid (Ru X gm (.int .i64 N2) (.int .i64 D2)) ∧ Hid (Ru X (gm + 1) (.int .i64 S2) (.int .i64 T2)) :=
    ⟨_, rfl, Lib.hid (Below.alloc (Below.alloc HW.out HW.out.size _) (by have := HW.out.size; simp; omega) _), Lib.hid ((Ru.new _ _ _).alloc _), Lib.hid (by have := Ru.new (v14.alloc (.cells #[.int .i64 N3, .int .i64 D3] 28)) (.int .i64 S3) (.int .i64 T3); simpa using this), Lib.hid ((HO.out.alloc _).alloc _), Lib.hid (HO3.out.below ((Below.alloc (Below.refl _ _) (Nat.le_refl _) _).alloc (by simp) _)), Lib.hid ((HX.out.alloc _).alloc _), Lib.hid (HO5.out.below ((Below.alloc (Below.refl _ _) (Nat.le_refl _) _).alloc (by simp) _)), Lib.hid ((HN.out.alloc _).alloc _), Lib.hid ((HS.out.alloc _).alloc _), Lib.hid ((HM.out.alloc _).alloc _), Lib.hid ((HT2.out.alloc _).alloc _)⟩
  rw [hX14]
  clear hX14 HLT
  obtain ⟨gt, hgt⟩ : ∃ g, v14.heap.size = g := ⟨_, rfl⟩
  try rw [hgt] at HA3 HB3 ⊢
  clear hgt
  have b0 := HO.out.c0
  have b1 := HO.out.c1
  have x0 := HX.out.c0
  have x1 := HX.out.c1
  have n0 := HN.out.c0
  have n1 := HN.out.c1
  have s0 := HS.out.c0
  have s1 := HS.out.c1
  have p0 := HM.out.c0
  have p1 := HM.out.c1
  have q0 := HT2.out.c0
  have q1 := HT2.out.c1
  have a0 := HA3.out.c0
  have a1 := HA3.out.c1
  have f0 := HB3.out.c0
  have f1 := HB3.out.c1
  go_wp2_with (first
    | (go_at_call 54; with_reducible refine (HLc.out _).mono ?_; rintro e v9c ⟨rfl, hB9c⟩; have HO := Lib.hid (Ou.below HO.out hB9c); have b0 := HO.out.c0; have b1 := HO.out.c1; have HO3 := Lib.hid (Out.below HO3.out hB9c); have HX := Lib.hid (Ru.below HX.out hB9c); have x0 := HX.out.c0; have x1 := HX.out.c1; have HO5 := Lib.hid (Out.below HO5.out hB9c); have HN := Lib.hid (Ru.below HN.out hB9c); have n0 := HN.out.c0; have n1 := HN.out.c1; have HS := Lib.hid (Ru.below HS.out hB9c); have s0 := HS.out.c0; have s1 := HS.out.c1; have HM := Lib.hid (Ru.below HM.out hB9c); have p0 := HM.out.c0; have p1 := HM.out.c1; have HT2 := Lib.hid (Ru.below HT2.out hB9c); have q0 := HT2.out.c0; have q1 := HT2.out.c1; have HA3 := Lib.hid (Ru.below HA3.out hB9c); have a0 := HA3.out.c0; have a1 := HA3.out.c1; have HB3 := Lib.hid (Ru.below HB3.out hB9c); have f0 := HB3.out.c0; have f1 := HB3.out.c1; have HW : Hid (Below w.heap.size w _) := Lib.hid (below_step HW.out hB9c); clear hB9c)
    | (go_at_call 16; refine (awake_any _).mono ?_; rintro e v13 ⟨rfl, hB13⟩; have HW : Hid (Below w.heap.size w _) := Lib.hid (below_step HW.out hB13); clear hB13)
    | fail)
  go_ret
  exact ⟨rfl, HW.out⟩

set_option maxRecDepth 100000 in
set_option maxHeartbeats 16000000 in
theorem best_ny (ns ss own row best cs : List Int) (A B C : Option Addr) (c d e1 n la : Nat) (kk : Int) (N1 D1 S1 T1 N2 D2 S2 T2 P Q N3 D3 S3 T3 : Int) (w : World)
    (hL : SaysU 15 #[(.agg #[.slice A ns.length c, .slice B ss.length d])] w false)
    (hV : SaysU 22 #[(.agg #[.slice A ns.length c, .slice B ss.length d])] w true)
    (hT : ∀ W, Below w.heap.size w W → Calls Try.prog 26 #[(.agg #[.slice A ns.length c, .slice B ss.length d]), .int .i64 n] W fun e w' => ∃ A' c', e = .returned (.tuple #[.slice A' own.length c', .int .i64 0]) ∧ Out w' A' c' own ∧ Below W.heap.size W w')
    (hP : ∀ W, Below w.heap.size w W → Calls Try.prog 28 #[(.agg #[.slice A ns.length c, .slice B ss.length d]), .int .i64 n] W fun e w' => e = .returned (.tuple #[.agg #[.int .i64 P, .int .i64 Q], .int .i64 5]) ∧ Below W.heap.size W w')
    (hR : ∀ W, Below w.heap.size w W → Calls Try.prog 23 #[(.agg #[.slice A ns.length c, .slice B ss.length d])] W fun e w' => ∃ A' c', e = .returned (.tuple #[.slice A' row.length c', .int .i64 0]) ∧ Out w' A' c' row ∧ Below W.heap.size W w')
    (hK1 : KeptU (.agg #[.slice A ns.length c, .slice B ss.length d]) own w N1 D1 S1 T1)
    (hB : ∀ W, Below w.heap.size w W → Calls Try.prog 30 #[(.agg #[.slice A ns.length c, .slice B ss.length d]), (.agg #[.int .i64 N1, .int .i64 D1])] W fun e w' => ∃ A' c', e = .returned (.tuple #[.slice A' best.length c', .int .i64 0]) ∧ Out w' A' c' best ∧ Below W.heap.size W w')
    (hK2 : KeptU (.agg #[.slice A ns.length c, .slice B ss.length d]) best w N2 D2 S2 T2)
    (hI : SaysU 55 #[(.agg #[.slice A ns.length c, .slice B ss.length d]), .slice C cs.length e1] w true)
    (hK3 : ∀ W, Below w.heap.size w W → Calls Try.prog 53 #[(.agg #[.slice A ns.length c, .slice B ss.length d]), .slice C cs.length e1] W fun e w' => e = .returned (.tuple #[.agg #[.int .i64 N3, .int .i64 D3], .agg #[.int .i64 S3, .int .i64 T3], .bool true]) ∧ Below W.heap.size W w')
    (hna : Ints w A ns) (hnp : 0 < ns.length) (hrl : row.length = ns.length) (hol : own.length = n) (hn1 : 1 ≤ n) (hn2 : n ≤ ns.length) (hn10 : ns.length ≤ 10) (hcl : decide (60 < (cs.length : Int)) = false) (hkn : 1 + kk % (ns.length : Int) = (n : Int)) (hk0 : 0 ≤ kk ∧ kk ≤ 255) (m1 : smB N1 D1 = true) (m2 : smB S1 T1 = true) (m3 : smB N2 D2 = true) (m4 : smB S2 T2 = true) (m5 : smB N3 D3 = true) (m6 : smB S3 T3 = true) (hl1 : decide (N1 * D2 < N2 * D1) = false) (hl2 : decide (S2 * T1 < S1 * T2) = false) (hla : row[n - 1]? = some (la : Int)) (hla2 : la < ns.length) (hz : ns[la]? = some 0) (hl3 : decide (N1 * D3 < N3 * D1) = false) (hl4 : decide (S2 * T3 < S3 * T2) = false) :
    Calls Try.prog 8 #[(.agg #[.slice A ns.length c, .slice B ss.length d]), .int .u8 kk, .slice C cs.length e1] w fun e w' => e = .returned (.bool true) ∧ Below w.heap.size w w' := by
  have HL := Lib.hid hL
  have HV := Lib.hid hV
  have HT := Lib.hid hT
  have HP := Lib.hid hP
  have HR := Lib.hid hR
  have HK1 := Lib.hid hK1
  have HB := Lib.hid hB
  have HK2 := Lib.hid hK2
  have HI := Lib.hid hI
  have HK3 := Lib.hid hK3
  obtain ⟨m1a, m1b, m1c, m1d⟩ := sm_of m1
  obtain ⟨m2a, m2b, m2c, m2d⟩ := sm_of m2
  obtain ⟨m3a, m3b, m3c, m3d⟩ := sm_of m3
  obtain ⟨m4a, m4b, m4c, m4d⟩ := sm_of m4
  obtain ⟨m5a, m5b, m5c, m5d⟩ := sm_of m5
  obtain ⟨m6a, m6b, m6c, m6d⟩ := sm_of m6
  have HLa : Hid (∀ V : World, Calls Try.prog 54 #[.agg #[.int .i64 N1, .int .i64 D1], .agg #[.int .i64 N2, .int .i64 D2]] V fun e w' => e = .returned (.bool false) ∧ Below V.heap.size V w') := Lib.hid fun V => by
    have := lessR_any N1 D1 N2 D2 V (by omega) (by omega) (by omega) (by omega)
    rw [hl1] at this
    exact this
  have HLb : Hid (∀ V : World, Calls Try.prog 54 #[.agg #[.int .i64 S2, .int .i64 T2], .agg #[.int .i64 S1, .int .i64 T1]] V fun e w' => e = .returned (.bool false) ∧ Below V.heap.size V w') := Lib.hid fun V => by
    have := lessR_any S2 T2 S1 T1 V (by omega) (by omega) (by omega) (by omega)
    rw [hl2] at this
    exact this
  have HLc : Hid (∀ V : World, Calls Try.prog 54 #[.agg #[.int .i64 N1, .int .i64 D1], .agg #[.int .i64 N3, .int .i64 D3]] V fun e w' => e = .returned (.bool false) ∧ Below V.heap.size V w') := Lib.hid fun V => by
    have := lessR_any N1 D1 N3 D3 V (by omega) (by omega) (by omega) (by omega)
    rw [hl3] at this
    exact this
  have HLd : Hid (∀ V : World, Calls Try.prog 54 #[.agg #[.int .i64 S2, .int .i64 T2], .agg #[.int .i64 S3, .int .i64 T3]] V fun e w' => e = .returned (.bool false) ∧ Below V.heap.size V w') := Lib.hid fun V => by
    have := lessR_any S2 T2 S3 T3 V (by omega) (by omega) (by omega) (by omega)
    rw [hl4] at this
    exact this
  have hw1 : IntKind.i64.wrap (1 + kk % (ns.length : Int)) = (n : Int) := by rw [IntWalk.i64_in _ (by omega)]; exact hkn
  have hnz : decide ((ns.length : Int) = 0) = false := decide_eq_false (by omega)
  have HRL := Lib.hid hrl
  have HOL := Lib.hid hol
  have HNA := Lib.hid hna
  have HLA := Lib.hid hla
  have HZ := Lib.hid hz
  have hw2 : IntKind.i64.wrap ((n : Int) - 1) = ((n - 1 : Nat) : Int) := by rw [IntWalk.i64_in _ (by omega)]; omega
  clear hL hV hT hP hR hK1 hB hK2 hI hK3 hl1 hl2 hrl hol hna m1 m1a m1b m1c m1d m2 m2a m2b m2c m2d m3 m3a m3b m3c m3d m4 m4a m4b m4c m4d m5 m5a m5b m5c m5d m6 m6a m6b m6c m6d hl3 hl4 hla hz
  obtain ⟨W0, hW0, HW, HO, z0⟩ := one_new w #[.slice A ns.length c, .slice B ss.length d] 24
  have HO : Hid (Ou W0 w.heap.size (.slice A ns.length c) (.slice B ss.length d)) := HO
  clear z0
  have b0 := HO.out.c0
  have b1 := HO.out.c1
  go_enter Try.func8, Try.ntmps8
  go_upto_region 4 with (first
    | (go_at_call 15; with_reducible refine (HL.out _ (by repeat (first | with_reducible exact Below.refl _ _ | with_reducible assumption | refine below_drewN ?_ _ | with_reducible refine Below.drew ?_ | (refine Below.setCell ?_ (by first | (simp; done) | (simp; omega) | omega) _) | (refine Below.alloc ?_ (by first | (simp; done) | (simp; omega) | omega) _)))).mono ?_; rintro e v1 ⟨rfl, hB1⟩; rw [← hW0] at hB1; have HO := Lib.hid (Ou.below HO.out hB1); have b0 := HO.out.c0; have b1 := HO.out.c1; have HW : Hid (Below w.heap.size w _) := Lib.hid (below_step HW.out hB1); clear hB1)
    | (go_at_call 22; with_reducible refine (HV.out _ HW.out).mono ?_; rintro e v2 ⟨rfl, hB2⟩; have HO := Lib.hid (Ou.below HO.out hB2); have b0 := HO.out.c0; have b1 := HO.out.c1; have HW : Hid (Below w.heap.size w _) := Lib.hid (below_step HW.out hB2); clear hB2)
    | fail)
  go_upto_region 5 with (go_at_call 26; with_reducible refine (HT.out _ HW.out).mono ?_; rintro e v3 ⟨A3, c3, rfl, ho, hB3⟩; have HO := Lib.hid (Ou.below HO.out hB3); have b0 := HO.out.c0; have b1 := HO.out.c1; have HW : Hid (Below w.heap.size w _) := Lib.hid (below_step HW.out hB3); have HO3 := Lib.hid ho; clear ho; clear hB3)
  go_upto_region 6 with (go_at_call 28; with_reducible refine (HP.out _ HW.out).mono ?_; rintro e v4 ⟨rfl, hB4⟩; have HO := Lib.hid (Ou.below HO.out hB4); have b0 := HO.out.c0; have b1 := HO.out.c1; have HO3 := Lib.hid (Out.below HO3.out hB4); have HW : Hid (Below w.heap.size w _) := Lib.hid (below_step HW.out hB4); clear hB4)
  have HLT := HO.out.lt
  obtain ⟨X4, hX4, HW, HX, HO, HO3⟩ : ∃ X, (v4.alloc (.cells #[.int .i64 P, .int .i64 Q] 28)) = X ∧ Hid (Below w.heap.size w X) ∧ Hid (Ru X v4.heap.size (.int .i64 P) (.int .i64 Q)) ∧ Hid (Ou X w.heap.size (.slice A ns.length c) (.slice B ss.length d)) ∧ Hid (Out X A3 c3 own) :=
    ⟨_, rfl, Lib.hid (Below.alloc HW.out HW.out.size _), Lib.hid (Ru.new _ _ _), Lib.hid (HO.out.alloc _), Lib.hid (HO3.out.below (Below.alloc (Below.refl _ _) (Nat.le_refl _) _))⟩
  rw [hX4]
  clear hX4 HLT
  obtain ⟨gx, hgx⟩ : ∃ g, v4.heap.size = g := ⟨_, rfl⟩
  try rw [hgx] at HX ⊢
  clear hgx
  have b0 := HO.out.c0
  have b1 := HO.out.c1
  have x0 := HX.out.c0
  have x1 := HX.out.c1
  go_upto_region 7 with (go_at_call 23; with_reducible refine (HR.out _ HW.out).mono ?_; rintro e v5 ⟨A5, c5, rfl, ho, hB5⟩; have HO := Lib.hid (Ou.below HO.out hB5); have b0 := HO.out.c0; have b1 := HO.out.c1; have HO3 := Lib.hid (Out.below HO3.out hB5); have HX := Lib.hid (Ru.below HX.out hB5); have x0 := HX.out.c0; have x1 := HX.out.c1; have HW : Hid (Below w.heap.size w _) := Lib.hid (below_step HW.out hB5); have HO5 := Lib.hid ho; clear ho; clear hB5)
  have hrl := HRL.out
  have hol := HOL.out
  rw [hrl, hol]
  clear hrl hol
  have hK1 := HK1.out
  unfold KeptU at hK1
  rw [HOL.out] at hK1
  have HK1 := Lib.hid hK1
  clear hK1
  go_upto_region 9 with (fail)
  go_upto_region 10 with (go_at_call 53; with_reducible refine (HK1.out _ A3 c3 HW.out HO3.out).mono ?_; rintro e v6 ⟨rfl, hB6⟩; have HO := Lib.hid (Ou.below HO.out hB6); have b0 := HO.out.c0; have b1 := HO.out.c1; have HO3 := Lib.hid (Out.below HO3.out hB6); have HX := Lib.hid (Ru.below HX.out hB6); have x0 := HX.out.c0; have x1 := HX.out.c1; have HO5 := Lib.hid (Out.below HO5.out hB6); have HW : Hid (Below w.heap.size w _) := Lib.hid (below_step HW.out hB6); clear hB6)
  have HLT := HX.out.lt
  obtain ⟨X6, hX6, HW, HN, HS, HO, HO3, HX, HO5⟩ : ∃ X, ((v6.alloc (.cells #[.int .i64 N1, .int .i64 D1] 28)).alloc (.cells #[.int .i64 S1, .int .i64 T1] 28)) = X ∧ Hid (Below w.heap.size w X) ∧ Hid (Ru X v6.heap.size (.int .i64 N1) (.int .i64 D1)) ∧ Hid (Ru X (v6.heap.size + 1) (.int .i64 S1) (.int .i64 T1)) ∧ Hid (Ou X w.heap.size (.slice A ns.length c) (.slice B ss.length d)) ∧ Hid (Out X A3 c3 own) ∧ Hid (Ru X gx (.int .i64 P) (.int .i64 Q)) ∧ Hid (Out X A5 c5 row) :=
    ⟨_, rfl, Lib.hid (Below.alloc (Below.alloc HW.out HW.out.size _) (by have := HW.out.size; simp; omega) _), Lib.hid ((Ru.new _ _ _).alloc _), Lib.hid (by have := Ru.new (v6.alloc (.cells #[.int .i64 N1, .int .i64 D1] 28)) (.int .i64 S1) (.int .i64 T1); simpa using this), Lib.hid ((HO.out.alloc _).alloc _), Lib.hid (HO3.out.below ((Below.alloc (Below.refl _ _) (Nat.le_refl _) _).alloc (by simp) _)), Lib.hid ((HX.out.alloc _).alloc _), Lib.hid (HO5.out.below ((Below.alloc (Below.refl _ _) (Nat.le_refl _) _).alloc (by simp) _))⟩
  rw [hX6]
  clear hX6 HLT
  obtain ⟨gn, hgn⟩ : ∃ g, v6.heap.size = g := ⟨_, rfl⟩
  try rw [hgn] at HN HS ⊢
  clear hgn
  have b0 := HO.out.c0
  have b1 := HO.out.c1
  have x0 := HX.out.c0
  have x1 := HX.out.c1
  have n0 := HN.out.c0
  have n1 := HN.out.c1
  have s0 := HS.out.c0
  have s1 := HS.out.c1
  go_upto_region 11 with (go_at_call 30; with_reducible refine (HB.out _ HW.out).mono ?_; rintro e v7 ⟨A7, c7, rfl, ho, hB7⟩; have HO := Lib.hid (Ou.below HO.out hB7); have b0 := HO.out.c0; have b1 := HO.out.c1; have HO3 := Lib.hid (Out.below HO3.out hB7); have HX := Lib.hid (Ru.below HX.out hB7); have x0 := HX.out.c0; have x1 := HX.out.c1; have HO5 := Lib.hid (Out.below HO5.out hB7); have HN := Lib.hid (Ru.below HN.out hB7); have n0 := HN.out.c0; have n1 := HN.out.c1; have HS := Lib.hid (Ru.below HS.out hB7); have s0 := HS.out.c0; have s1 := HS.out.c1; have HW : Hid (Below w.heap.size w _) := Lib.hid (below_step HW.out hB7); have HO7 := Lib.hid ho; clear ho; clear hB7)
  go_upto_region 12 with (go_at_call 53; with_reducible refine (HK2.out _ A7 c7 HW.out HO7.out).mono ?_; rintro e v8 ⟨rfl, hB8⟩; have HO := Lib.hid (Ou.below HO.out hB8); have b0 := HO.out.c0; have b1 := HO.out.c1; have HO3 := Lib.hid (Out.below HO3.out hB8); have HX := Lib.hid (Ru.below HX.out hB8); have x0 := HX.out.c0; have x1 := HX.out.c1; have HO5 := Lib.hid (Out.below HO5.out hB8); have HN := Lib.hid (Ru.below HN.out hB8); have n0 := HN.out.c0; have n1 := HN.out.c1; have HS := Lib.hid (Ru.below HS.out hB8); have s0 := HS.out.c0; have s1 := HS.out.c1; have HO7 := Lib.hid (Out.below HO7.out hB8); have HW : Hid (Below w.heap.size w _) := Lib.hid (below_step HW.out hB8); clear hB8)
  have HLT := HS.out.lt
  obtain ⟨X8, hX8, HW, HM, HT2, HO, HO3, HX, HO5, HN, HS, HO7⟩ : ∃ X, ((v8.alloc (.cells #[.int .i64 N2, .int .i64 D2] 28)).alloc (.cells #[.int .i64 S2, .int .i64 T2] 28)) = X ∧ Hid (Below w.heap.size w X) ∧ Hid (Ru X v8.heap.size (.int .i64 N2) (.int .i64 D2)) ∧ Hid (Ru X (v8.heap.size + 1) (.int .i64 S2) (.int .i64 T2)) ∧ Hid (Ou X w.heap.size (.slice A ns.length c) (.slice B ss.length d)) ∧ Hid (Out X A3 c3 own) ∧ Hid (Ru X gx (.int .i64 P) (.int .i64 Q)) ∧ Hid (Out X A5 c5 row) ∧ Hid (Ru X gn (.int .i64 N1) (.int .i64 D1)) ∧ Hid (Ru X (gn + 1) (.int .i64 S1) (.int .i64 T1)) ∧ Hid (Out X A7 c7 best) :=
    ⟨_, rfl, Lib.hid (Below.alloc (Below.alloc HW.out HW.out.size _) (by have := HW.out.size; simp; omega) _), Lib.hid ((Ru.new _ _ _).alloc _), Lib.hid (by have := Ru.new (v8.alloc (.cells #[.int .i64 N2, .int .i64 D2] 28)) (.int .i64 S2) (.int .i64 T2); simpa using this), Lib.hid ((HO.out.alloc _).alloc _), Lib.hid (HO3.out.below ((Below.alloc (Below.refl _ _) (Nat.le_refl _) _).alloc (by simp) _)), Lib.hid ((HX.out.alloc _).alloc _), Lib.hid (HO5.out.below ((Below.alloc (Below.refl _ _) (Nat.le_refl _) _).alloc (by simp) _)), Lib.hid ((HN.out.alloc _).alloc _), Lib.hid ((HS.out.alloc _).alloc _), Lib.hid (HO7.out.below ((Below.alloc (Below.refl _ _) (Nat.le_refl _) _).alloc (by simp) _))⟩
  rw [hX8]
  clear hX8 HLT
  obtain ⟨gm, hgm⟩ : ∃ g, v8.heap.size = g := ⟨_, rfl⟩
  try rw [hgm] at HM HT2 ⊢
  clear hgm
  have b0 := HO.out.c0
  have b1 := HO.out.c1
  have x0 := HX.out.c0
  have x1 := HX.out.c1
  have n0 := HN.out.c0
  have n1 := HN.out.c1
  have s0 := HS.out.c0
  have s1 := HS.out.c1
  have p0 := HM.out.c0
  have p1 := HM.out.c1
  have q0 := HT2.out.c0
  have q1 := HT2.out.c1
  clear HO7
  go_upto_region 18 with (first
    | (go_at_call 54; with_reducible refine (HLa.out _).mono ?_; rintro e v9a ⟨rfl, hB9a⟩; have HO := Lib.hid (Ou.below HO.out hB9a); have b0 := HO.out.c0; have b1 := HO.out.c1; have HO3 := Lib.hid (Out.below HO3.out hB9a); have HX := Lib.hid (Ru.below HX.out hB9a); have x0 := HX.out.c0; have x1 := HX.out.c1; have HO5 := Lib.hid (Out.below HO5.out hB9a); have HN := Lib.hid (Ru.below HN.out hB9a); have n0 := HN.out.c0; have n1 := HN.out.c1; have HS := Lib.hid (Ru.below HS.out hB9a); have s0 := HS.out.c0; have s1 := HS.out.c1; have HM := Lib.hid (Ru.below HM.out hB9a); have p0 := HM.out.c0; have p1 := HM.out.c1; have HT2 := Lib.hid (Ru.below HT2.out hB9a); have q0 := HT2.out.c0; have q1 := HT2.out.c1; have HW : Hid (Below w.heap.size w _) := Lib.hid (below_step HW.out hB9a); clear hB9a)
    | (go_at_call 54; with_reducible refine (HLb.out _).mono ?_; rintro e v9b ⟨rfl, hB9b⟩; have HO := Lib.hid (Ou.below HO.out hB9b); have b0 := HO.out.c0; have b1 := HO.out.c1; have HO3 := Lib.hid (Out.below HO3.out hB9b); have HX := Lib.hid (Ru.below HX.out hB9b); have x0 := HX.out.c0; have x1 := HX.out.c1; have HO5 := Lib.hid (Out.below HO5.out hB9b); have HN := Lib.hid (Ru.below HN.out hB9b); have n0 := HN.out.c0; have n1 := HN.out.c1; have HS := Lib.hid (Ru.below HS.out hB9b); have s0 := HS.out.c0; have s1 := HS.out.c1; have HM := Lib.hid (Ru.below HM.out hB9b); have p0 := HM.out.c0; have p1 := HM.out.c1; have HT2 := Lib.hid (Ru.below HT2.out hB9b); have q0 := HT2.out.c0; have q1 := HT2.out.c1; have HW : Hid (Below w.heap.size w _) := Lib.hid (below_step HW.out hB9b); clear hB9b)
    | fail)
  obtain ⟨g5, p5, rfl, hg5, hc5⟩ := HO5.out.ints.open_ (by rw [HRL.out]; exact hnp)
  have r5 := hc5 _ _ HLA.out
  clear hc5
  have hnn : ((n - 1 : Nat) : Int) < (ns.length : Int) := by omega
  go_upto_region 19 with (fail)
  obtain ⟨ga, pa, rfl, hga, hca⟩ := HNA.out.open_ hnp
  have ra := hca _ _ HZ.out
  clear hca
  have ra := (HW.out.cell (p := ⟨ga, pa + la, none⟩) hga).trans ra
  go_upto_region 21 with (fail)
  go_upto_region 23 with (go_at_call 55; with_reducible refine (HI.out _ HW.out).mono ?_; rintro e v12 ⟨rfl, hB12⟩; have HO := Lib.hid (Ou.below HO.out hB12); have b0 := HO.out.c0; have b1 := HO.out.c1; have HO3 := Lib.hid (Out.below HO3.out hB12); have HX := Lib.hid (Ru.below HX.out hB12); have x0 := HX.out.c0; have x1 := HX.out.c1; have HO5 := Lib.hid (Out.below HO5.out hB12); have HN := Lib.hid (Ru.below HN.out hB12); have n0 := HN.out.c0; have n1 := HN.out.c1; have HS := Lib.hid (Ru.below HS.out hB12); have s0 := HS.out.c0; have s1 := HS.out.c1; have HM := Lib.hid (Ru.below HM.out hB12); have p0 := HM.out.c0; have p1 := HM.out.c1; have HT2 := Lib.hid (Ru.below HT2.out hB12); have q0 := HT2.out.c0; have q1 := HT2.out.c1; have HW : Hid (Below w.heap.size w _) := Lib.hid (below_step HW.out hB12); clear hB12)
  go_upto_region 24 with (go_at_call 53; with_reducible refine (HK3.out _ HW.out).mono ?_; rintro e v14 ⟨rfl, hB14⟩; have HO := Lib.hid (Ou.below HO.out hB14); have b0 := HO.out.c0; have b1 := HO.out.c1; have HO3 := Lib.hid (Out.below HO3.out hB14); have HX := Lib.hid (Ru.below HX.out hB14); have x0 := HX.out.c0; have x1 := HX.out.c1; have HO5 := Lib.hid (Out.below HO5.out hB14); have HN := Lib.hid (Ru.below HN.out hB14); have n0 := HN.out.c0; have n1 := HN.out.c1; have HS := Lib.hid (Ru.below HS.out hB14); have s0 := HS.out.c0; have s1 := HS.out.c1; have HM := Lib.hid (Ru.below HM.out hB14); have p0 := HM.out.c0; have p1 := HM.out.c1; have HT2 := Lib.hid (Ru.below HT2.out hB14); have q0 := HT2.out.c0; have q1 := HT2.out.c1; have HW : Hid (Below w.heap.size w _) := Lib.hid (below_step HW.out hB14); clear hB14)
  have HLT := HT2.out.lt
  obtain ⟨X14, hX14, HW, HA3, HB3, HO, HO3, HX, HO5, HN, HS, HM, HT2⟩ : ∃ X, ((v14.alloc (.cells #[.int .i64 N3, .int .i64 D3] 28)).alloc (.cells #[.int .i64 S3, .int .i64 T3] 28)) = X ∧ Hid (Below w.heap.size w X) ∧ Hid (Ru X v14.heap.size (.int .i64 N3) (.int .i64 D3)) ∧ Hid (Ru X (v14.heap.size + 1) (.int .i64 S3) (.int .i64 T3)) ∧ Hid (Ou X w.heap.size (.slice (some ⟨ga, pa, none⟩) ns.length c) (.slice B ss.length d)) ∧ Hid (Out X A3 c3 own) ∧ Hid (Ru X gx (.int .i64 P) (.int .i64 Q)) ∧ Hid (Out X (some ⟨g5, p5, none⟩) c5 row) ∧ Hid (Ru X gn (.int .i64 N1) (.int .i64 D1)) ∧ Hid (Ru X (gn + 1) (.int .i64 S1) (.int .i64 T1)) ∧ Hid (Ru X gm (.int .i64 N2) (.int .i64 D2)) ∧ Hid (Ru X (gm + 1) (.int .i64 S2) (.int .i64 T2)) :=
    ⟨_, rfl, Lib.hid (Below.alloc (Below.alloc HW.out HW.out.size _) (by have := HW.out.size; simp; omega) _), Lib.hid ((Ru.new _ _ _).alloc _), Lib.hid (by have := Ru.new (v14.alloc (.cells #[.int .i64 N3, .int .i64 D3] 28)) (.int .i64 S3) (.int .i64 T3); simpa using this), Lib.hid ((HO.out.alloc _).alloc _), Lib.hid (HO3.out.below ((Below.alloc (Below.refl _ _) (Nat.le_refl _) _).alloc (by simp) _)), Lib.hid ((HX.out.alloc _).alloc _), Lib.hid (HO5.out.below ((Below.alloc (Below.refl _ _) (Nat.le_refl _) _).alloc (by simp) _)), Lib.hid ((HN.out.alloc _).alloc _), Lib.hid ((HS.out.alloc _).alloc _), Lib.hid ((HM.out.alloc _).alloc _), Lib.hid ((HT2.out.alloc _).alloc _)⟩
  rw [hX14]
  clear hX14 HLT
  obtain ⟨gt, hgt⟩ : ∃ g, v14.heap.size = g := ⟨_, rfl⟩
  try rw [hgt] at HA3 HB3 ⊢
  clear hgt
  have b0 := HO.out.c0
  have b1 := HO.out.c1
  have x0 := HX.out.c0
  have x1 := HX.out.c1
  have n0 := HN.out.c0
  have n1 := HN.out.c1
  have s0 := HS.out.c0
  have s1 := HS.out.c1
  have p0 := HM.out.c0
  have p1 := HM.out.c1
  have q0 := HT2.out.c0
  have q1 := HT2.out.c1
  have a0 := HA3.out.c0
  have a1 := HA3.out.c1
  have f0 := HB3.out.c0
  have f1 := HB3.out.c1
  go_wp2_with (first
    | (go_at_call 54; with_reducible refine (HLc.out _).mono ?_; rintro e v9c ⟨rfl, hB9c⟩; have HO := Lib.hid (Ou.below HO.out hB9c); have b0 := HO.out.c0; have b1 := HO.out.c1; have HO3 := Lib.hid (Out.below HO3.out hB9c); have HX := Lib.hid (Ru.below HX.out hB9c); have x0 := HX.out.c0; have x1 := HX.out.c1; have HO5 := Lib.hid (Out.below HO5.out hB9c); have HN := Lib.hid (Ru.below HN.out hB9c); have n0 := HN.out.c0; have n1 := HN.out.c1; have HS := Lib.hid (Ru.below HS.out hB9c); have s0 := HS.out.c0; have s1 := HS.out.c1; have HM := Lib.hid (Ru.below HM.out hB9c); have p0 := HM.out.c0; have p1 := HM.out.c1; have HT2 := Lib.hid (Ru.below HT2.out hB9c); have q0 := HT2.out.c0; have q1 := HT2.out.c1; have HA3 := Lib.hid (Ru.below HA3.out hB9c); have a0 := HA3.out.c0; have a1 := HA3.out.c1; have HB3 := Lib.hid (Ru.below HB3.out hB9c); have f0 := HB3.out.c0; have f1 := HB3.out.c1; have HW : Hid (Below w.heap.size w _) := Lib.hid (below_step HW.out hB9c); clear hB9c)
    | (go_at_call 54; with_reducible refine (HLd.out _).mono ?_; rintro e v9d ⟨rfl, hB9d⟩; have HO := Lib.hid (Ou.below HO.out hB9d); have b0 := HO.out.c0; have b1 := HO.out.c1; have HO3 := Lib.hid (Out.below HO3.out hB9d); have HX := Lib.hid (Ru.below HX.out hB9d); have x0 := HX.out.c0; have x1 := HX.out.c1; have HO5 := Lib.hid (Out.below HO5.out hB9d); have HN := Lib.hid (Ru.below HN.out hB9d); have n0 := HN.out.c0; have n1 := HN.out.c1; have HS := Lib.hid (Ru.below HS.out hB9d); have s0 := HS.out.c0; have s1 := HS.out.c1; have HM := Lib.hid (Ru.below HM.out hB9d); have p0 := HM.out.c0; have p1 := HM.out.c1; have HT2 := Lib.hid (Ru.below HT2.out hB9d); have q0 := HT2.out.c0; have q1 := HT2.out.c1; have HA3 := Lib.hid (Ru.below HA3.out hB9d); have a0 := HA3.out.c0; have a1 := HA3.out.c1; have HB3 := Lib.hid (Ru.below HB3.out hB9d); have f0 := HB3.out.c0; have f1 := HB3.out.c1; have HW : Hid (Below w.heap.size w _) := Lib.hid (below_step HW.out hB9d); clear hB9d)
    | (go_at_call 16; refine (awake_any _).mono ?_; rintro e v13 ⟨rfl, hB13⟩; have HW : Hid (Below w.heap.size w _) := Lib.hid (below_step HW.out hB13); clear hB13)
    | fail)
  go_ret
  exact ⟨rfl, HW.out⟩
end Go.Proofs.Ytolpbbabmcpdkaa
