/-
  Contract: told (firntop) of valid odds.
-/
import Derived.Test.YtolpbbabmcpdkaaCvM
import Derived.Test.YtolpbbabmcpdkaaWCurve
import Derived.Test.YtolpbbabmcpdkaaEqPair
import Derived.Test.YtolpbbabmcpdkaaKeptLaw
import Derived.Test.YtolpbbabmcpdkaaJoined
import Derived.Deep.CutRange
set_option linter.unusedVariables false
set_option linter.unusedSimpArgs false
namespace Go.Proofs.Ytolpbbabmcpdkaa
open Go.RowKit Go.Shelf

/-- A box of 24. -/
def Ow (W : World) (g : Nat) (u v : Value) : Prop := W.heap[g]? = some (.cells #[u, v] 24 (0, 0))
section
variable {W V : World} {g g' : Nat} {u v a b : Value}
theorem Ow.lt (h : Ow W g u v) : g < W.heap.size := (Array.getElem?_eq_some_iff.1 h).1
theorem Ow.below (h : Ow W g u v) (hb : Below W.heap.size W V) : Ow V g u v := (hb.block g h.lt).trans h
theorem Ow.alloc (h : Ow W g u v) (o : Obj) : Ow (W.alloc o) g u v := (Below.heap_alloc W o g h.lt).trans h
theorem Ow.new (W : World) (u v : Value) : Ow (W.alloc (.cells #[u, v] 24)) W.heap.size u v := heap_alloc_new W _
theorem Ow.f (h : Ow W g u v) (i : Nat) : W.frozen? ⟨g, i, none⟩ = false := blk_frozen h i
theorem Ow.other (h : Ow W g u v) (hne : g ≠ g') : Ow ((W.setCell ⟨g', 0, none⟩ a).setCell ⟨g', 1, none⟩ b) g u v :=
  (heap_setCell_other _ _ _ _ hne).trans ((heap_setCell_other _ _ _ _ hne).trans h)
theorem Ow.set (h : Ow W g u v) : Ow ((W.setCell ⟨g, 0, none⟩ a).setCell ⟨g, 1, none⟩ b) g a b := by
  unfold Ow at *
  rw [heap_setCell_same _ g 1 #[a, v] _ _ (by rw [heap_setCell_same _ g 0 #[u, v] _ _ h]; rfl)]; rfl
theorem Ow.c0 (h : Ow W g u v) : W.cell? ⟨g, 0, none⟩ = some u := blk_cell h 0 rfl
theorem Ow.c1 (h : Ow W g u v) : W.cell? ⟨g, 1, none⟩ = some v := blk_cell h 1 rfl
end
/-- A box of 28. -/
def Rw (W : World) (g : Nat) (u v : Value) : Prop := W.heap[g]? = some (.cells #[u, v] 28 (0, 0))
section
variable {W V : World} {g g' : Nat} {u v a b : Value}
theorem Rw.lt (h : Rw W g u v) : g < W.heap.size := (Array.getElem?_eq_some_iff.1 h).1
theorem Rw.below (h : Rw W g u v) (hb : Below W.heap.size W V) : Rw V g u v := (hb.block g h.lt).trans h
theorem Rw.alloc (h : Rw W g u v) (o : Obj) : Rw (W.alloc o) g u v := (Below.heap_alloc W o g h.lt).trans h
theorem Rw.new (W : World) (u v : Value) : Rw (W.alloc (.cells #[u, v] 28)) W.heap.size u v := heap_alloc_new W _
theorem Rw.f (h : Rw W g u v) (i : Nat) : W.frozen? ⟨g, i, none⟩ = false := blk_frozen h i
theorem Rw.other (h : Rw W g u v) (hne : g ≠ g') : Rw ((W.setCell ⟨g', 0, none⟩ a).setCell ⟨g', 1, none⟩ b) g u v :=
  (heap_setCell_other _ _ _ _ hne).trans ((heap_setCell_other _ _ _ _ hne).trans h)
theorem Rw.set (h : Rw W g u v) : Rw ((W.setCell ⟨g, 0, none⟩ a).setCell ⟨g, 1, none⟩ b) g a b := by
  unfold Rw at *
  rw [heap_setCell_same _ g 1 #[a, v] _ _ (by rw [heap_setCell_same _ g 0 #[u, v] _ _ h]; rfl)]; rfl
theorem Rw.c0 (h : Rw W g u v) : W.cell? ⟨g, 0, none⟩ = some u := blk_cell h 0 rfl
theorem Rw.c1 (h : Rw W g u v) : W.cell? ⟨g, 1, none⟩ = some v := blk_cell h 1 rfl
end

set_option maxRecDepth 100000 in
theorem fraction_any (n d : Int) (w : World) :
    Calls Try.prog 99 #[.agg #[.int .i64 n, .int .i64 d]] w fun e w' => e = .returned (.bool (smB n d)) ∧ Below w.heap.size w w' := by
  obtain ⟨t1, h1⟩ : ∃ x, decide (1 ≤ d) = x := ⟨_, rfl⟩
  obtain ⟨t2, h2⟩ : ∃ x, decide (d ≤ 200000000) = x := ⟨_, rfl⟩
  obtain ⟨t3, h3⟩ : ∃ x, decide (0 ≤ n) = x := ⟨_, rfl⟩
  have HR : Hid (smB n d = (((t1 && t2) && t3) && decide (n ≤ d))) := Lib.hid (by unfold smB; rw [h1, h2, h3])
  cases t1 <;> cases t2 <;> cases t3 <;> (
    go_enter Try.func99, Try.ntmps99
    go_wp2
    go_ret
    exact ⟨ret_bool (by rw [HR.out]; rfl), (by repeat (first | with_reducible exact Below.refl _ _ | with_reducible assumption | refine below_drewN ?_ _ | with_reducible refine Below.drew ?_ | (refine Below.setCell ?_ (by first | (simp; done) | (simp; omega) | omega) _) | (refine Below.alloc ?_ (by first | (simp; done) | (simp; omega) | omega) _)))⟩)

set_option maxRecDepth 100000 in
set_option maxHeartbeats 16000000 in
theorem told_2 (ns ss cs : List Int) (A B C : Option Addr) (c d e1 : Nat) (N D PN PD nN nD sN sD : Int) (P Q E : Nat → Int) (w : World)
    (hA : ∀ W, Below w.heap.size w W → Calls Try.prog 40 #[(.agg #[.slice A ns.length c, .slice B ss.length d])] W fun e w' => e = .returned (.tuple #[.agg #[.int .i64 N, .int .i64 D], .int .i64 0]) ∧ Below W.heap.size W w')
    (hP : ∀ W, Below w.heap.size w W → Calls Try.prog 42 #[(.agg #[.slice A ns.length c, .slice B ss.length d])] W fun e w' => e = .returned (.tuple #[.agg #[.int .i64 N, .int .i64 D], .int .i64 0]) ∧ Below W.heap.size W w')
    (hF : ∀ W, Below w.heap.size w W → Calls Try.prog 44 #[(.agg #[.slice A ns.length c, .slice B ss.length d])] W fun e w' => e = .returned (.tuple #[.agg #[.int .i64 PN, .int .i64 PD], .int .i64 0]) ∧ Below W.heap.size W w')
    (hC : ∀ W, Below w.heap.size w W → Calls Try.prog 38 #[(.agg #[.slice A ns.length c, .slice B ss.length d])] W fun e w' => ∃ A' c', e = .returned (.tuple #[.slice A' (ns.length + 1) c', .int .i64 0]) ∧ QOut w' A' c' (cuL ns ss (ns.length + 1)) ∧ Below W.heap.size W w')
    (hN : ∀ W, Below w.heap.size w W → Calls Try.prog 18 #[(.agg #[.slice A ns.length c, .slice B ss.length d]), .slice C cs.length e1] W fun e w' => e = .returned (.tuple #[.agg #[.int .i64 nN, .int .i64 nD], .int .i64 2]) ∧ Below W.heap.size W w')
    (hS : ∀ W, Below w.heap.size w W → Calls Try.prog 20 #[(.agg #[.slice A ns.length c, .slice B ss.length d]), .slice C cs.length e1] W fun e w' => e = .returned (.tuple #[.agg #[.int .i64 sN, .int .i64 sD], .int .i64 2]) ∧ Below W.heap.size W w')
    (hT : ∀ (k : Nat), k ≤ ns.length → ∀ W, Below w.heap.size w W → Calls Try.prog 26 #[(.agg #[.slice A ns.length c, .slice B ss.length d]), .int .i64 k] W fun e w' => ∃ A' c', e = .returned (.tuple #[.slice A' (ctL ns ss k).length c', .int .i64 0]) ∧ Out w' A' c' (ctL ns ss k) ∧ Below W.heap.size W w')
    (hR : ∀ (k : Nat), 1 ≤ k → k ≤ ns.length → ∀ W, Below w.heap.size w W → Calls Try.prog 28 #[(.agg #[.slice A ns.length c, .slice B ss.length d]), .int .i64 k] W fun e w' => e = .returned (.tuple #[.agg #[.int .i64 (P k), .int .i64 (Q k)], .int .i64 (E k)]) ∧ Below W.heap.size W w')
    (hX : ∀ (k : Nat), k ≤ ns.length → ∀ W A' c', Below w.heap.size w W → Out W A' c' (ctL ns ss k) → Calls Try.prog 18 #[(.agg #[.slice A ns.length c, .slice B ss.length d]), .slice A' (ctL ns ss k).length c'] W fun e w' => e = .returned (.tuple #[.agg #[.int .i64 (cuQ ns ss k).1.1, .int .i64 (cuQ ns ss k).1.2], .int .i64 0]) ∧ Below W.heap.size W w')
    (hY : ∀ (k : Nat), k ≤ ns.length → ∀ W A' c', Below w.heap.size w W → Out W A' c' (ctL ns ss k) → Calls Try.prog 20 #[(.agg #[.slice A ns.length c, .slice B ss.length d]), .slice A' (ctL ns ss k).length c'] W fun e w' => e = .returned (.tuple #[.agg #[.int .i64 (cuQ ns ss k).2.1, .int .i64 (cuQ ns ss k).2.2], .int .i64 0]) ∧ Below W.heap.size W w')
    (hV : ∀ (k : Nat), 1 ≤ k → k ≤ ns.length → E k = 0 → ∀ W A' c', Below w.heap.size w W → Out W A' c' (ctL ns ss k) → Calls Try.prog 36 #[(.agg #[.slice A ns.length c, .slice B ss.length d]), .slice A' (ctL ns ss k).length c', .agg #[.int .i64 (P k), .int .i64 (Q k)]] W fun e w' => e = .returned (.tuple #[.bool true, .int .i64 0]) ∧ Below W.heap.size W w')
    (hE : ∀ k, E k = 0 ∨ E k = 5)
    (hbd : ∀ k, k ≤ ns.length → smB (cuQ ns ss k).1.1 (cuQ ns ss k).1.2 = true ∧ smB (cuQ ns ss k).2.1 (cuQ ns ss k).2.2 = true)
    (hn10 : ns.length ≤ 10) (hsm : smB N D = true) (hsp : smB PN PD = true) :
    Calls Try.prog 64 #[(.agg #[.slice A ns.length c, .slice B ss.length d]), .slice C cs.length e1] w fun e w' => e = .returned (.tuple #[.agg #[.int .i64 N, .int .i64 D], .agg #[.int .i64 PN, .int .i64 PD], .bool true]) ∧ Below w.heap.size w w' := by
  have HA := Lib.hid hA
  have HP := Lib.hid hP
  have HF := Lib.hid hF
  have HC := Lib.hid hC
  have HN := Lib.hid hN
  have HS := Lib.hid hS
  have HT := Lib.hid hT
  have HR := Lib.hid hR
  have HX := Lib.hid hX
  have HY := Lib.hid hY
  have HV := Lib.hid hV
  have HE := Lib.hid hE
  have HBD := Lib.hid hbd
  have HSM := Lib.hid hsm
  have HSP := Lib.hid hsp
  have HFA : Hid (∀ V : World, Calls Try.prog 99 #[.agg #[.int .i64 N, .int .i64 D]] V fun e w' => e = .returned (.bool true) ∧ Below V.heap.size V w') := Lib.hid fun V => by
    have := fraction_any N D V
    rw [hsm] at this
    exact this
  have HFB : Hid (∀ V : World, Calls Try.prog 99 #[.agg #[.int .i64 PN, .int .i64 PD]] V fun e w' => e = .returned (.bool true) ∧ Below V.heap.size V w') := Lib.hid fun V => by
    have := fraction_any PN PD V
    rw [hsp] at this
    exact this
  have hwn : IntKind.i64.wrap ((ns.length : Int) + 1) = (ns.length : Int) + 1 := IntWalk.i64_in _ (by omega)
  clear hA hP hF hC hN hS hT hR hX hY hV hE hbd hsm hsp
  obtain ⟨W0, hW0, HW, HO, HG, HK, z0, z1, z2⟩ := three_new1 w #[.slice A ns.length c, .slice B ss.length d] #[.int .i64 0, .int .i64 0] #[.int .i64 0, .int .i64 0] 24 28 28
  have HO : Hid (Ow W0 w.heap.size (.slice A ns.length c) (.slice B ss.length d)) := HO
  have HG : Hid (Rw W0 (w.heap.size + 1) (.int .i64 0) (.int .i64 0)) := HG
  have HK : Hid (Rw W0 (w.heap.size + 1 + 1) (.int .i64 0) (.int .i64 0)) := HK
  clear z0 z1 z2
  have n12 : w.heap.size + 1 ≠ w.heap.size + 1 + 1 := by omega
  have n21 : w.heap.size + 1 + 1 ≠ w.heap.size + 1 := by omega
  have b0 := HO.out.c0
  have b1 := HO.out.c1
  have g0 := HG.out.c0
  have g1 := HG.out.c1
  have gf0 := HG.out.f 0
  have gf1 := HG.out.f 1
  have k0 := HK.out.c0
  have k1 := HK.out.c1
  have kf0 := HK.out.f 0
  have kf1 := HK.out.f 1
  go_enter Try.func64, Try.ntmps64
  go_upto_region 2 with (go_at_call 40; with_reducible refine (HA.out _ (by repeat (first | with_reducible exact Below.refl _ _ | with_reducible assumption | refine below_drewN ?_ _ | with_reducible refine Below.drew ?_ | (refine Below.setCell ?_ (by first | (simp; done) | (simp; omega) | omega) _) | (refine Below.alloc ?_ (by first | (simp; done) | (simp; omega) | omega) _)))).mono ?_; rintro e v1 ⟨rfl, hB1⟩; rw [← hW0] at hB1; have HO := Lib.hid (Ow.below HO.out hB1); have b0 := HO.out.c0; have b1 := HO.out.c1; have HG := Lib.hid (Rw.below HG.out hB1); have g0 := HG.out.c0; have g1 := HG.out.c1; have gf0 := HG.out.f 0; have gf1 := HG.out.f 1; have HK := Lib.hid (Rw.below HK.out hB1); have k0 := HK.out.c0; have k1 := HK.out.c1; have kf0 := HK.out.f 0; have kf1 := HK.out.f 1; have HW : Hid (Below w.heap.size w _) := Lib.hid (below_step HW.out hB1); clear hB1)
  obtain ⟨X1, hX1, HW, HO, HG, HK⟩ : ∃ X, ((v1.setCell ⟨(w.heap.size + 1), 0, none⟩ (.int .i64 N)).setCell ⟨(w.heap.size + 1), 1, none⟩ (.int .i64 D)) = X ∧ Hid (Below w.heap.size w X) ∧ Hid (Ow X w.heap.size (.slice A ns.length c) (.slice B ss.length d)) ∧ Hid (Rw X (w.heap.size + 1) (.int .i64 N) (.int .i64 D)) ∧ Hid (Rw X (w.heap.size + 1 + 1) (.int .i64 0) (.int .i64 0)) :=
    ⟨_, rfl, Lib.hid (st2_below HW.out (by omega)), Lib.hid (HO.out.other (by omega)), Lib.hid (HG.out.set), Lib.hid (HK.out.other (by omega))⟩
  rw [hX1]
  clear hX1
  have b0 := HO.out.c0
  have b1 := HO.out.c1
  have g0 := HG.out.c0
  have g1 := HG.out.c1
  have gf0 := HG.out.f 0
  have gf1 := HG.out.f 1
  have k0 := HK.out.c0
  have k1 := HK.out.c1
  have kf0 := HK.out.f 0
  have kf1 := HK.out.f 1
  go_upto_region 3 with (go_at_call 42; with_reducible refine (HP.out _ HW.out).mono ?_; rintro e v2 ⟨rfl, hB2⟩; have HO := Lib.hid (Ow.below HO.out hB2); have b0 := HO.out.c0; have b1 := HO.out.c1; have HG := Lib.hid (Rw.below HG.out hB2); have g0 := HG.out.c0; have g1 := HG.out.c1; have gf0 := HG.out.f 0; have gf1 := HG.out.f 1; have HK := Lib.hid (Rw.below HK.out hB2); have k0 := HK.out.c0; have k1 := HK.out.c1; have kf0 := HK.out.f 0; have kf1 := HK.out.f 1; have HW : Hid (Below w.heap.size w _) := Lib.hid (below_step HW.out hB2); clear hB2)
  have HLT := HK.out.lt
  obtain ⟨X2, hX2, HW, HX8, HO, HG, HK⟩ : ∃ X, (v2.alloc (.cells #[.int .i64 N, .int .i64 D] 28)) = X ∧ Hid (Below w.heap.size w X) ∧ Hid (Rw X v2.heap.size (.int .i64 N) (.int .i64 D)) ∧ Hid (Ow X w.heap.size (.slice A ns.length c) (.slice B ss.length d)) ∧ Hid (Rw X (w.heap.size + 1) (.int .i64 N) (.int .i64 D)) ∧ Hid (Rw X (w.heap.size + 1 + 1) (.int .i64 0) (.int .i64 0)) :=
    ⟨_, rfl, Lib.hid (Below.alloc HW.out HW.out.size _), Lib.hid (Rw.new _ _ _), Lib.hid (HO.out.alloc _), Lib.hid (HG.out.alloc _), Lib.hid (HK.out.alloc _)⟩
  have HGX : Hid (v2.heap.size ≠ w.heap.size + 1 + 1) := Lib.hid (by have := HLT; omega)
  rw [hX2]
  clear hX2 HLT
  obtain ⟨gx, hgx⟩ : ∃ g, v2.heap.size = g := ⟨_, rfl⟩
  try rw [hgx] at HX8 ⊢
  rw [hgx] at HGX
  clear hgx
  have b0 := HO.out.c0
  have b1 := HO.out.c1
  have g0 := HG.out.c0
  have g1 := HG.out.c1
  have gf0 := HG.out.f 0
  have gf1 := HG.out.f 1
  have k0 := HK.out.c0
  have k1 := HK.out.c1
  have kf0 := HK.out.f 0
  have kf1 := HK.out.f 1
  have x0 := HX8.out.c0
  have x1 := HX8.out.c1
  go_upto_region 4 with (go_at_call 44; with_reducible refine (HF.out _ HW.out).mono ?_; rintro e v3 ⟨rfl, hB3⟩; have HO := Lib.hid (Ow.below HO.out hB3); have b0 := HO.out.c0; have b1 := HO.out.c1; have HG := Lib.hid (Rw.below HG.out hB3); have g0 := HG.out.c0; have g1 := HG.out.c1; have gf0 := HG.out.f 0; have gf1 := HG.out.f 1; have HK := Lib.hid (Rw.below HK.out hB3); have k0 := HK.out.c0; have k1 := HK.out.c1; have kf0 := HK.out.f 0; have kf1 := HK.out.f 1; have HX8 := Lib.hid (Rw.below HX8.out hB3); have x0 := HX8.out.c0; have x1 := HX8.out.c1; have HW : Hid (Below w.heap.size w _) := Lib.hid (below_step HW.out hB3); clear hB3)
  obtain ⟨X3, hX3, HW, HO, HG, HK, HX8⟩ : ∃ X, ((v3.setCell ⟨(w.heap.size + 1 + 1), 0, none⟩ (.int .i64 PN)).setCell ⟨(w.heap.size + 1 + 1), 1, none⟩ (.int .i64 PD)) = X ∧ Hid (Below w.heap.size w X) ∧ Hid (Ow X w.heap.size (.slice A ns.length c) (.slice B ss.length d)) ∧ Hid (Rw X (w.heap.size + 1) (.int .i64 N) (.int .i64 D)) ∧ Hid (Rw X (w.heap.size + 1 + 1) (.int .i64 PN) (.int .i64 PD)) ∧ Hid (Rw X gx (.int .i64 N) (.int .i64 D)) :=
    ⟨_, rfl, Lib.hid (st2_below HW.out (by omega)), Lib.hid (HO.out.other (by omega)), Lib.hid (HG.out.other (by omega)), Lib.hid (HK.out.set), Lib.hid (HX8.out.other HGX.out)⟩
  rw [hX3]
  clear hX3
  have b0 := HO.out.c0
  have b1 := HO.out.c1
  have g0 := HG.out.c0
  have g1 := HG.out.c1
  have gf0 := HG.out.f 0
  have gf1 := HG.out.f 1
  have k0 := HK.out.c0
  have k1 := HK.out.c1
  have kf0 := HK.out.f 0
  have kf1 := HK.out.f 1
  have x0 := HX8.out.c0
  have x1 := HX8.out.c1
  go_upto_region 5 with (go_at_call 38; with_reducible refine (HC.out _ HW.out).mono ?_; rintro e v4 ⟨A4, c4, rfl, hq, hB4⟩; have HO := Lib.hid (Ow.below HO.out hB4); have b0 := HO.out.c0; have b1 := HO.out.c1; have HG := Lib.hid (Rw.below HG.out hB4); have g0 := HG.out.c0; have g1 := HG.out.c1; have gf0 := HG.out.f 0; have gf1 := HG.out.f 1; have HK := Lib.hid (Rw.below HK.out hB4); have k0 := HK.out.c0; have k1 := HK.out.c1; have kf0 := HK.out.f 0; have kf1 := HK.out.f 1; have HX8 := Lib.hid (Rw.below HX8.out hB4); have x0 := HX8.out.c0; have x1 := HX8.out.c1; have HW : Hid (Below w.heap.size w _) := Lib.hid (below_step HW.out hB4); have HQ := Lib.hid hq; clear hq; clear hB4)
  go_upto_region 7 with (first
    | (go_at_call 99; with_reducible refine (HFA.out _).mono ?_; rintro e v5 ⟨rfl, hB5⟩; have HO := Lib.hid (Ow.below HO.out hB5); have b0 := HO.out.c0; have b1 := HO.out.c1; have HG := Lib.hid (Rw.below HG.out hB5); have g0 := HG.out.c0; have g1 := HG.out.c1; have gf0 := HG.out.f 0; have gf1 := HG.out.f 1; have HK := Lib.hid (Rw.below HK.out hB5); have k0 := HK.out.c0; have k1 := HK.out.c1; have kf0 := HK.out.f 0; have kf1 := HK.out.f 1; have HX8 := Lib.hid (Rw.below HX8.out hB5); have x0 := HX8.out.c0; have x1 := HX8.out.c1; have HQ := Lib.hid (QOut.below HQ.out hB5); have HW : Hid (Below w.heap.size w _) := Lib.hid (below_step HW.out hB5); clear hB5)
    | (go_at_call 99; with_reducible refine (HFB.out _).mono ?_; rintro e v6 ⟨rfl, hB6⟩; have HO := Lib.hid (Ow.below HO.out hB6); have b0 := HO.out.c0; have b1 := HO.out.c1; have HG := Lib.hid (Rw.below HG.out hB6); have g0 := HG.out.c0; have g1 := HG.out.c1; have gf0 := HG.out.f 0; have gf1 := HG.out.f 1; have HK := Lib.hid (Rw.below HK.out hB6); have k0 := HK.out.c0; have k1 := HK.out.c1; have kf0 := HK.out.f 0; have kf1 := HK.out.f 1; have HX8 := Lib.hid (Rw.below HX8.out hB6); have x0 := HX8.out.c0; have x1 := HX8.out.c1; have HQ := Lib.hid (QOut.below HQ.out hB6); have HW : Hid (Below w.heap.size w _) := Lib.hid (below_step HW.out hB6); clear hB6)
    | fail)
  go_upto_region 8 with (go_at_call 18; with_reducible refine (HN.out _ HW.out).mono ?_; rintro e v7 ⟨rfl, hB7⟩; have HO := Lib.hid (Ow.below HO.out hB7); have b0 := HO.out.c0; have b1 := HO.out.c1; have HG := Lib.hid (Rw.below HG.out hB7); have g0 := HG.out.c0; have g1 := HG.out.c1; have gf0 := HG.out.f 0; have gf1 := HG.out.f 1; have HK := Lib.hid (Rw.below HK.out hB7); have k0 := HK.out.c0; have k1 := HK.out.c1; have kf0 := HK.out.f 0; have kf1 := HK.out.f 1; have HX8 := Lib.hid (Rw.below HX8.out hB7); have x0 := HX8.out.c0; have x1 := HX8.out.c1; have HQ := Lib.hid (QOut.below HQ.out hB7); have HW : Hid (Below w.heap.size w _) := Lib.hid (below_step HW.out hB7); clear hB7)
  have HLT := HX8.out.lt
  obtain ⟨X7, hX7, HW, HM13, HO, HG, HK, HX8, HQ⟩ : ∃ X, (v7.alloc (.cells #[.int .i64 nN, .int .i64 nD] 28)) = X ∧ Hid (Below w.heap.size w X) ∧ Hid (Rw X v7.heap.size (.int .i64 nN) (.int .i64 nD)) ∧ Hid (Ow X w.heap.size (.slice A ns.length c) (.slice B ss.length d)) ∧ Hid (Rw X (w.heap.size + 1) (.int .i64 N) (.int .i64 D)) ∧ Hid (Rw X (w.heap.size + 1 + 1) (.int .i64 PN) (.int .i64 PD)) ∧ Hid (Rw X gx (.int .i64 N) (.int .i64 D)) ∧ Hid (QOut X A4 c4 (cuL ns ss (ns.length + 1))) :=
    ⟨_, rfl, Lib.hid (Below.alloc HW.out HW.out.size _), Lib.hid (Rw.new _ _ _), Lib.hid (HO.out.alloc _), Lib.hid (HG.out.alloc _), Lib.hid (HK.out.alloc _), Lib.hid (HX8.out.alloc _), Lib.hid (HQ.out.below (Below.alloc (Below.refl _ _) (Nat.le_refl _) _))⟩
  rw [hX7]
  clear hX7 HLT
  obtain ⟨gm, hgm⟩ : ∃ g, v7.heap.size = g := ⟨_, rfl⟩
  try rw [hgm] at HM13 ⊢
  clear hgm
  have b0 := HO.out.c0
  have b1 := HO.out.c1
  have g0 := HG.out.c0
  have g1 := HG.out.c1
  have gf0 := HG.out.f 0
  have gf1 := HG.out.f 1
  have k0 := HK.out.c0
  have k1 := HK.out.c1
  have kf0 := HK.out.f 0
  have kf1 := HK.out.f 1
  have x0 := HX8.out.c0
  have x1 := HX8.out.c1
  have mm0 := HM13.out.c0
  have mm1 := HM13.out.c1
  go_upto_region 9 with (go_at_call 20; with_reducible refine (HS.out _ HW.out).mono ?_; rintro e v8 ⟨rfl, hB8⟩; have HO := Lib.hid (Ow.below HO.out hB8); have b0 := HO.out.c0; have b1 := HO.out.c1; have HG := Lib.hid (Rw.below HG.out hB8); have g0 := HG.out.c0; have g1 := HG.out.c1; have gf0 := HG.out.f 0; have gf1 := HG.out.f 1; have HK := Lib.hid (Rw.below HK.out hB8); have k0 := HK.out.c0; have k1 := HK.out.c1; have kf0 := HK.out.f 0; have kf1 := HK.out.f 1; have HX8 := Lib.hid (Rw.below HX8.out hB8); have x0 := HX8.out.c0; have x1 := HX8.out.c1; have HQ := Lib.hid (QOut.below HQ.out hB8); have HM13 := Lib.hid (Rw.below HM13.out hB8); have mm0 := HM13.out.c0; have mm1 := HM13.out.c1; have HW : Hid (Below w.heap.size w _) := Lib.hid (below_step HW.out hB8); clear hB8)
  have HLT := HM13.out.lt
  obtain ⟨X8, hX8, HW, HM14, HO, HG, HK, HX8, HQ, HM13⟩ : ∃ X, (v8.alloc (.cells #[.int .i64 sN, .int .i64 sD] 28)) = X ∧ Hid (Below w.heap.size w X) ∧ Hid (Rw X v8.heap.size (.int .i64 sN) (.int .i64 sD)) ∧ Hid (Ow X w.heap.size (.slice A ns.length c) (.slice B ss.length d)) ∧ Hid (Rw X (w.heap.size + 1) (.int .i64 N) (.int .i64 D)) ∧ Hid (Rw X (w.heap.size + 1 + 1) (.int .i64 PN) (.int .i64 PD)) ∧ Hid (Rw X gx (.int .i64 N) (.int .i64 D)) ∧ Hid (QOut X A4 c4 (cuL ns ss (ns.length + 1))) ∧ Hid (Rw X gm (.int .i64 nN) (.int .i64 nD)) :=
    ⟨_, rfl, Lib.hid (Below.alloc HW.out HW.out.size _), Lib.hid (Rw.new _ _ _), Lib.hid (HO.out.alloc _), Lib.hid (HG.out.alloc _), Lib.hid (HK.out.alloc _), Lib.hid (HX8.out.alloc _), Lib.hid (HQ.out.below (Below.alloc (Below.refl _ _) (Nat.le_refl _) _)), Lib.hid (HM13.out.alloc _)⟩
  rw [hX8]
  clear hX8 HLT
  obtain ⟨gp, hgp⟩ : ∃ g, v8.heap.size = g := ⟨_, rfl⟩
  try rw [hgp] at HM14 ⊢
  clear hgp
  have b0 := HO.out.c0
  have b1 := HO.out.c1
  have g0 := HG.out.c0
  have g1 := HG.out.c1
  have gf0 := HG.out.f 0
  have gf1 := HG.out.f 1
  have k0 := HK.out.c0
  have k1 := HK.out.c1
  have kf0 := HK.out.f 0
  have kf1 := HK.out.f 1
  have x0 := HX8.out.c0
  have x1 := HX8.out.c1
  have mm0 := HM13.out.c0
  have mm1 := HM13.out.c1
  have pp0 := HM14.out.c0
  have pp1 := HM14.out.c1
  have HKL : Hid (∀ W, Below X8.heap.size X8 W → (Ow W w.heap.size (.slice A ns.length c) (.slice B ss.length d) ∧ Rw W (w.heap.size + 1) (.int .i64 N) (.int .i64 D) ∧ Rw W (w.heap.size + 1 + 1) (.int .i64 PN) (.int .i64 PD) ∧ Rw W gx (.int .i64 N) (.int .i64 D) ∧ QOut W A4 c4 (cuL ns ss (ns.length + 1)) ∧ Rw W gm (.int .i64 nN) (.int .i64 nD) ∧ Rw W gp (.int .i64 sN) (.int .i64 sD)) ∧ Below w.heap.size w W) := Lib.hid fun W hW => ⟨⟨HO.out.below hW, HG.out.below hW, HK.out.below hW, HX8.out.below hW, HQ.out.below hW, HM13.out.below hW, HM14.out.below hW⟩, below_step HW.out hW⟩
  go_wp2
  clear b0 b1 g0 g1 gf0 gf1 k0 k1 kf0 kf1 x0 x1 mm0 mm1 pp0 pp1 HO HG HK HX8 HQ HM13 HM14 HW
  go_loopw [15] (fun i wr => ∃ k : Nat, 1 ≤ k ∧ k ≤ ns.length + 1 ∧ i = .int .i64 k ∧ Hid (Below X8.heap.size X8 wr)) (fun i _ => ns.length + 1 - (intOf i).toNat)
  case atStart => exact ⟨1, Nat.le_refl _, by omega, rfl, Lib.hid (Below.refl _ _)⟩
  case round =>
  obtain ⟨k, hk1, hk, rfl, HB⟩ := hrel
  rename World => wr
  obtain ⟨⟨hHO, hHG, hHK, hHX8, hHQ, hHM13, hHM14⟩, hw⟩ := HKL.out wr HB.out
  have HO := Lib.hid hHO
  have HG := Lib.hid hHG
  have HK := Lib.hid hHK
  have HX8 := Lib.hid hHX8
  have HQ := Lib.hid hHQ
  have HM13 := Lib.hid hHM13
  have HM14 := Lib.hid hHM14
  have HW := Lib.hid hw
  clear hw hHO hHG hHK hHX8 hHQ hHM13 hHM14
  have b0 := HO.out.c0
  have b1 := HO.out.c1
  have g0 := HG.out.c0
  have g1 := HG.out.c1
  have k0 := HK.out.c0
  have k1 := HK.out.c1
  have x0 := HX8.out.c0
  have x1 := HX8.out.c1
  have mm0 := HM13.out.c0
  have mm1 := HM13.out.c1
  have pp0 := HM14.out.c0
  have pp1 := HM14.out.c1
  by_cases hlt : k < ns.length + 1
  rotate_left
  · obtain rfl : k = ns.length + 1 := by omega
    have gf0 := HG.out.f 0
    have gf1 := HG.out.f 1
    have kf0 := HK.out.f 0
    have kf1 := HK.out.f 1
    have kn1 : decide (((ns.length : Int) + 1) < (ns.length : Int) + 1) = false := decide_eq_false (by omega)
    go_upto_region 24 with (fail)
    go_region
    obtain ⟨V, hV, oa0, oa1, oa2, oa3, HWV⟩ : ∃ V, ((((wr.setCell ⟨w.heap.size + 1, 0, none⟩ (.int .i64 N)).setCell ⟨w.heap.size + 1, 1, none⟩ (.int .i64 D)).setCell ⟨w.heap.size + 1 + 1, 0, none⟩ (.int .i64 PN)).setCell ⟨w.heap.size + 1 + 1, 1, none⟩ (.int .i64 PD)).drew = V ∧ V.cell? ⟨w.heap.size + 1, 0, none⟩ = some (.int .i64 N) ∧ V.cell? ⟨w.heap.size + 1, 1, none⟩ = some (.int .i64 D) ∧ V.cell? ⟨w.heap.size + 1 + 1, 0, none⟩ = some (.int .i64 PN) ∧ V.cell? ⟨w.heap.size + 1 + 1, 1, none⟩ = some (.int .i64 PD) ∧ Hid (Below w.heap.size w V) :=
      ⟨_, rfl, (cell_drew1 _ _).trans ((cell_set1 _ n12).trans ((cell_set1 _ n12).trans (st2_c0 g0))), (cell_drew1 _ _).trans ((cell_set1 _ n12).trans ((cell_set1 _ n12).trans (st2_c1 g1))), (cell_drew1 _ _).trans (st2_c0 ((cell_set1 _ n21).trans ((cell_set1 _ n21).trans k0))), (cell_drew1 _ _).trans (st2_c1 ((cell_set1 _ n21).trans ((cell_set1 _ n21).trans k1))), Lib.hid (Below.drew (st2_below (st2_below HW.out (by omega)) (by omega)))⟩
    rw [hV]
    clear hV g0 g1 k0 k1 gf0 gf1 kf0 kf1
    simp only [Exit.then]
    refine (by assumption : ∀ (a : Act) (w : World), Code.wp Try.prog Code.ret _ a w → _) _ _ ?_
    apply wp_ret
    (try simp only [Exit.inBlock, Exit.then])
    exact bodyPost_ret (v := .tuple #[.agg #[.int .i64 N, .int .i64 D], .agg #[.int .i64 PN, .int .i64 PD], .bool true]) (by simp [results, Try.results64, go_sem, oa0, oa1, oa2, oa3]) rfl ⟨rfl, HWV.out⟩
  have hkn : k ≤ ns.length := by omega
  obtain ⟨g4, p4, rfl, hg4, hc4⟩ := HQ.out.open_ (by rw [cu_len]; omega)
  obtain ⟨r0, r1, r2, r3⟩ := hc4 k _ (cu_get hlt)
  have HTk := Lib.hid (HT.out k hkn)
  have HRk := Lib.hid (HR.out k hk1 hkn)
  have HXk := Lib.hid (HX.out k hkn)
  have HYk := Lib.hid (HY.out k hkn)
  have HVk := Lib.hid (HV.out k hk1 hkn)
  have hek := HE.out k
  have hbk := HBD.out k hkn
  obtain ⟨m1, hm1⟩ : ∃ x, (cuQ ns ss k).1.1 = x := ⟨_, rfl⟩
  obtain ⟨m2, hm2⟩ : ∃ x, (cuQ ns ss k).1.2 = x := ⟨_, rfl⟩
  obtain ⟨m3, hm3⟩ : ∃ x, (cuQ ns ss k).2.1 = x := ⟨_, rfl⟩
  obtain ⟨m4, hm4⟩ : ∃ x, (cuQ ns ss k).2.2 = x := ⟨_, rfl⟩
  obtain ⟨os, hos⟩ : ∃ x, ctL ns ss k = x := ⟨_, rfl⟩
  obtain ⟨Pk, hPk⟩ : ∃ x, P k = x := ⟨_, rfl⟩
  obtain ⟨Qk, hQk⟩ : ∃ x, Q k = x := ⟨_, rfl⟩
  obtain ⟨Ek, hEk⟩ : ∃ x, E k = x := ⟨_, rfl⟩
  rw [hm1, hm2] at hbk HXk
  rw [hm3, hm4] at hbk HYk
  rw [hos] at HTk HXk HYk HVk
  rw [hPk, hQk, hEk] at HRk HVk
  rw [hEk] at hek
  rw [hm1] at r0
  rw [hm2] at r1
  rw [hm3] at r2
  rw [hm4] at r3
  clear hm1 hm2 hm3 hm4 hos hPk hQk hEk hc4
  obtain ⟨f1, f2, f3, f4⟩ := sm_of hbk.1
  obtain ⟨f5, f6, f7, f8⟩ := sm_of hbk.2
  clear hbk
  have heq := eq_pair m1 m2 m3 m4
  have hne := ne_pair m1 m2 m3 m4
  have ki : (k : Int) < (ns.length : Int) + 1 := by omega
  have kj : (1 : Int) ≤ (k : Int) := by omega
  have kw : IntKind.i64.wrap ((k : Int) + 1) = ((k + 1 : Nat) : Int) := by rw [IntWalk.i64_in _ (by omega)]; omega
  have HBR : Hid (Below wr.heap.size wr wr) := Lib.hid (Below.refl _ _)
  rcases hek with rfl | rfl
  · have HVz := Lib.hid (HVk.out rfl)
    clear HVk
    go_upto_region 13 with (go_at_call 26; with_reducible refine (HTk.out _ HW.out).mono ?_; rintro e u1 ⟨A5, c5, rfl, ho, hb1⟩; have HO := Lib.hid (Ow.below HO.out hb1); have b0 := HO.out.c0; have b1 := HO.out.c1; have HG := Lib.hid (Rw.below HG.out hb1); have g0 := HG.out.c0; have g1 := HG.out.c1; have HK := Lib.hid (Rw.below HK.out hb1); have k0 := HK.out.c0; have k1 := HK.out.c1; have HX8 := Lib.hid (Rw.below HX8.out hb1); have x0 := HX8.out.c0; have x1 := HX8.out.c1; have HQ := Lib.hid (QOut.below HQ.out hb1); have HM13 := Lib.hid (Rw.below HM13.out hb1); have mm0 := HM13.out.c0; have mm1 := HM13.out.c1; have HM14 := Lib.hid (Rw.below HM14.out hb1); have pp0 := HM14.out.c0; have pp1 := HM14.out.c1; have HW : Hid (Below w.heap.size w _) := Lib.hid (below_step HW.out hb1); have HB : Hid (Below X8.heap.size X8 _) := Lib.hid (below_step HB.out hb1); have HBR : Hid (Below wr.heap.size wr _) := Lib.hid (below_step HBR.out hb1); have HO5 := Lib.hid ho; clear ho; clear hb1)
    go_upto_region 14 with (go_at_call 28; with_reducible refine (HRk.out _ HW.out).mono ?_; rintro e u2 ⟨rfl, hb2⟩; have HO := Lib.hid (Ow.below HO.out hb2); have b0 := HO.out.c0; have b1 := HO.out.c1; have HG := Lib.hid (Rw.below HG.out hb2); have g0 := HG.out.c0; have g1 := HG.out.c1; have HK := Lib.hid (Rw.below HK.out hb2); have k0 := HK.out.c0; have k1 := HK.out.c1; have HX8 := Lib.hid (Rw.below HX8.out hb2); have x0 := HX8.out.c0; have x1 := HX8.out.c1; have HQ := Lib.hid (QOut.below HQ.out hb2); have HM13 := Lib.hid (Rw.below HM13.out hb2); have mm0 := HM13.out.c0; have mm1 := HM13.out.c1; have HM14 := Lib.hid (Rw.below HM14.out hb2); have pp0 := HM14.out.c0; have pp1 := HM14.out.c1; have HO5 := Lib.hid (Out.below HO5.out hb2); have HW : Hid (Below w.heap.size w _) := Lib.hid (below_step HW.out hb2); have HB : Hid (Below X8.heap.size X8 _) := Lib.hid (below_step HB.out hb2); have HBR : Hid (Below wr.heap.size wr _) := Lib.hid (below_step HBR.out hb2); clear hb2)
    have HLT := HM14.out.lt
    obtain ⟨U2, hU2, HW, HB, HBR, HPk, HO, HG, HK, HX8, HQ, HM13, HM14, HO5⟩ : ∃ X, (u2.alloc (.cells #[.int .i64 Pk, .int .i64 Qk] 28)) = X ∧ Hid (Below w.heap.size w X) ∧ Hid (Below X8.heap.size X8 X) ∧ Hid (Below wr.heap.size wr X) ∧ Hid (Rw X u2.heap.size (.int .i64 Pk) (.int .i64 Qk)) ∧ Hid (Ow X w.heap.size (.slice A ns.length c) (.slice B ss.length d)) ∧ Hid (Rw X (w.heap.size + 1) (.int .i64 N) (.int .i64 D)) ∧ Hid (Rw X (w.heap.size + 1 + 1) (.int .i64 PN) (.int .i64 PD)) ∧ Hid (Rw X gx (.int .i64 N) (.int .i64 D)) ∧ Hid (QOut X (some ⟨g4, p4, none⟩) c4 (cuL ns ss (ns.length + 1))) ∧ Hid (Rw X gm (.int .i64 nN) (.int .i64 nD)) ∧ Hid (Rw X gp (.int .i64 sN) (.int .i64 sD)) ∧ Hid (Out X A5 c5 os) :=
      ⟨_, rfl, Lib.hid (Below.alloc HW.out HW.out.size _), Lib.hid (Below.alloc HB.out HB.out.size _), Lib.hid (Below.alloc HBR.out HBR.out.size _), Lib.hid (Rw.new _ _ _), Lib.hid (HO.out.alloc _), Lib.hid (HG.out.alloc _), Lib.hid (HK.out.alloc _), Lib.hid (HX8.out.alloc _), Lib.hid (HQ.out.below (Below.alloc (Below.refl _ _) (Nat.le_refl _) _)), Lib.hid (HM13.out.alloc _), Lib.hid (HM14.out.alloc _), Lib.hid (HO5.out.below (Below.alloc (Below.refl _ _) (Nat.le_refl _) _))⟩
    rw [hU2]
    clear hU2 HLT
    obtain ⟨ge, hge⟩ : ∃ g, u2.heap.size = g := ⟨_, rfl⟩
    try rw [hge] at HPk ⊢
    clear hge
    have b0 := HO.out.c0
    have b1 := HO.out.c1
    have g0 := HG.out.c0
    have g1 := HG.out.c1
    have k0 := HK.out.c0
    have k1 := HK.out.c1
    have x0 := HX8.out.c0
    have x1 := HX8.out.c1
    have mm0 := HM13.out.c0
    have mm1 := HM13.out.c1
    have pp0 := HM14.out.c0
    have pp1 := HM14.out.c1
    have e0 := HPk.out.c0
    have e1 := HPk.out.c1
    go_upto_region 17 with (go_at_call 18; with_reducible refine (HXk.out _ A5 c5 HW.out HO5.out).mono ?_; rintro e u3 ⟨rfl, hb3⟩; have HO := Lib.hid (Ow.below HO.out hb3); have b0 := HO.out.c0; have b1 := HO.out.c1; have HG := Lib.hid (Rw.below HG.out hb3); have g0 := HG.out.c0; have g1 := HG.out.c1; have HK := Lib.hid (Rw.below HK.out hb3); have k0 := HK.out.c0; have k1 := HK.out.c1; have HX8 := Lib.hid (Rw.below HX8.out hb3); have x0 := HX8.out.c0; have x1 := HX8.out.c1; have HQ := Lib.hid (QOut.below HQ.out hb3); have HM13 := Lib.hid (Rw.below HM13.out hb3); have mm0 := HM13.out.c0; have mm1 := HM13.out.c1; have HM14 := Lib.hid (Rw.below HM14.out hb3); have pp0 := HM14.out.c0; have pp1 := HM14.out.c1; have HO5 := Lib.hid (Out.below HO5.out hb3); have HPk := Lib.hid (Rw.below HPk.out hb3); have e0 := HPk.out.c0; have e1 := HPk.out.c1; have HW : Hid (Below w.heap.size w _) := Lib.hid (below_step HW.out hb3); have HB : Hid (Below X8.heap.size X8 _) := Lib.hid (below_step HB.out hb3); have HBR : Hid (Below wr.heap.size wr _) := Lib.hid (below_step HBR.out hb3); clear hb3)
    have HLT := HPk.out.lt
    obtain ⟨U3, hU3, HW, HB, HBR, HXx, HO, HG, HK, HX8, HQ, HM13, HM14, HO5, HPk⟩ : ∃ X, (u3.alloc (.cells #[.int .i64 m1, .int .i64 m2] 28)) = X ∧ Hid (Below w.heap.size w X) ∧ Hid (Below X8.heap.size X8 X) ∧ Hid (Below wr.heap.size wr X) ∧ Hid (Rw X u3.heap.size (.int .i64 m1) (.int .i64 m2)) ∧ Hid (Ow X w.heap.size (.slice A ns.length c) (.slice B ss.length d)) ∧ Hid (Rw X (w.heap.size + 1) (.int .i64 N) (.int .i64 D)) ∧ Hid (Rw X (w.heap.size + 1 + 1) (.int .i64 PN) (.int .i64 PD)) ∧ Hid (Rw X gx (.int .i64 N) (.int .i64 D)) ∧ Hid (QOut X (some ⟨g4, p4, none⟩) c4 (cuL ns ss (ns.length + 1))) ∧ Hid (Rw X gm (.int .i64 nN) (.int .i64 nD)) ∧ Hid (Rw X gp (.int .i64 sN) (.int .i64 sD)) ∧ Hid (Out X A5 c5 os) ∧ Hid (Rw X ge (.int .i64 Pk) (.int .i64 Qk)) :=
      ⟨_, rfl, Lib.hid (Below.alloc HW.out HW.out.size _), Lib.hid (Below.alloc HB.out HB.out.size _), Lib.hid (Below.alloc HBR.out HBR.out.size _), Lib.hid (Rw.new _ _ _), Lib.hid (HO.out.alloc _), Lib.hid (HG.out.alloc _), Lib.hid (HK.out.alloc _), Lib.hid (HX8.out.alloc _), Lib.hid (HQ.out.below (Below.alloc (Below.refl _ _) (Nat.le_refl _) _)), Lib.hid (HM13.out.alloc _), Lib.hid (HM14.out.alloc _), Lib.hid (HO5.out.below (Below.alloc (Below.refl _ _) (Nat.le_refl _) _)), Lib.hid (HPk.out.alloc _)⟩
    rw [hU3]
    clear hU3 HLT
    obtain ⟨gs, hgs⟩ : ∃ g, u3.heap.size = g := ⟨_, rfl⟩
    try rw [hgs] at HXx ⊢
    clear hgs
    have b0 := HO.out.c0
    have b1 := HO.out.c1
    have g0 := HG.out.c0
    have g1 := HG.out.c1
    have k0 := HK.out.c0
    have k1 := HK.out.c1
    have x0 := HX8.out.c0
    have x1 := HX8.out.c1
    have mm0 := HM13.out.c0
    have mm1 := HM13.out.c1
    have pp0 := HM14.out.c0
    have pp1 := HM14.out.c1
    have e0 := HPk.out.c0
    have e1 := HPk.out.c1
    have s0 := HXx.out.c0
    have s1 := HXx.out.c1
    go_upto_region 18 with (go_at_call 20; with_reducible refine (HYk.out _ A5 c5 HW.out HO5.out).mono ?_; rintro e u4 ⟨rfl, hb4⟩; have HO := Lib.hid (Ow.below HO.out hb4); have b0 := HO.out.c0; have b1 := HO.out.c1; have HG := Lib.hid (Rw.below HG.out hb4); have g0 := HG.out.c0; have g1 := HG.out.c1; have HK := Lib.hid (Rw.below HK.out hb4); have k0 := HK.out.c0; have k1 := HK.out.c1; have HX8 := Lib.hid (Rw.below HX8.out hb4); have x0 := HX8.out.c0; have x1 := HX8.out.c1; have HQ := Lib.hid (QOut.below HQ.out hb4); have HM13 := Lib.hid (Rw.below HM13.out hb4); have mm0 := HM13.out.c0; have mm1 := HM13.out.c1; have HM14 := Lib.hid (Rw.below HM14.out hb4); have pp0 := HM14.out.c0; have pp1 := HM14.out.c1; have HO5 := Lib.hid (Out.below HO5.out hb4); have HPk := Lib.hid (Rw.below HPk.out hb4); have e0 := HPk.out.c0; have e1 := HPk.out.c1; have HXx := Lib.hid (Rw.below HXx.out hb4); have s0 := HXx.out.c0; have s1 := HXx.out.c1; have HW : Hid (Below w.heap.size w _) := Lib.hid (below_step HW.out hb4); have HB : Hid (Below X8.heap.size X8 _) := Lib.hid (below_step HB.out hb4); have HBR : Hid (Below wr.heap.size wr _) := Lib.hid (below_step HBR.out hb4); clear hb4)
    have HLT := HXx.out.lt
    obtain ⟨U4, hU4, HW, HB, HBR, HYy, HO, HG, HK, HX8, HQ, HM13, HM14, HO5, HPk, HXx⟩ : ∃ X, (u4.alloc (.cells #[.int .i64 m3, .int .i64 m4] 28)) = X ∧ Hid (Below w.heap.size w X) ∧ Hid (Below X8.heap.size X8 X) ∧ Hid (Below wr.heap.size wr X) ∧ Hid (Rw X u4.heap.size (.int .i64 m3) (.int .i64 m4)) ∧ Hid (Ow X w.heap.size (.slice A ns.length c) (.slice B ss.length d)) ∧ Hid (Rw X (w.heap.size + 1) (.int .i64 N) (.int .i64 D)) ∧ Hid (Rw X (w.heap.size + 1 + 1) (.int .i64 PN) (.int .i64 PD)) ∧ Hid (Rw X gx (.int .i64 N) (.int .i64 D)) ∧ Hid (QOut X (some ⟨g4, p4, none⟩) c4 (cuL ns ss (ns.length + 1))) ∧ Hid (Rw X gm (.int .i64 nN) (.int .i64 nD)) ∧ Hid (Rw X gp (.int .i64 sN) (.int .i64 sD)) ∧ Hid (Out X A5 c5 os) ∧ Hid (Rw X ge (.int .i64 Pk) (.int .i64 Qk)) ∧ Hid (Rw X gs (.int .i64 m1) (.int .i64 m2)) :=
      ⟨_, rfl, Lib.hid (Below.alloc HW.out HW.out.size _), Lib.hid (Below.alloc HB.out HB.out.size _), Lib.hid (Below.alloc HBR.out HBR.out.size _), Lib.hid (Rw.new _ _ _), Lib.hid (HO.out.alloc _), Lib.hid (HG.out.alloc _), Lib.hid (HK.out.alloc _), Lib.hid (HX8.out.alloc _), Lib.hid (HQ.out.below (Below.alloc (Below.refl _ _) (Nat.le_refl _) _)), Lib.hid (HM13.out.alloc _), Lib.hid (HM14.out.alloc _), Lib.hid (HO5.out.below (Below.alloc (Below.refl _ _) (Nat.le_refl _) _)), Lib.hid (HPk.out.alloc _), Lib.hid (HXx.out.alloc _)⟩
    rw [hU4]
    clear hU4 HLT
    obtain ⟨gt, hgt⟩ : ∃ g, u4.heap.size = g := ⟨_, rfl⟩
    try rw [hgt] at HYy ⊢
    clear hgt
    have b0 := HO.out.c0
    have b1 := HO.out.c1
    have g0 := HG.out.c0
    have g1 := HG.out.c1
    have k0 := HK.out.c0
    have k1 := HK.out.c1
    have x0 := HX8.out.c0
    have x1 := HX8.out.c1
    have mm0 := HM13.out.c0
    have mm1 := HM13.out.c1
    have pp0 := HM14.out.c0
    have pp1 := HM14.out.c1
    have e0 := HPk.out.c0
    have e1 := HPk.out.c1
    have s0 := HXx.out.c0
    have s1 := HXx.out.c1
    have t0 := HYy.out.c0
    have t1 := HYy.out.c1
    have HCU : Hid (∀ W, Below U4.heap.size U4 W → W.cell? ⟨g4, p4 + k * 4, none⟩ = some (.int .i64 m1) ∧ W.cell? ⟨g4, p4 + k * 4 + 1, none⟩ = some (.int .i64 m2) ∧ W.cell? ⟨g4, p4 + k * 4 + 2, none⟩ = some (.int .i64 m3) ∧ W.cell? ⟨g4, p4 + k * 4 + 3, none⟩ = some (.int .i64 m4)) := Lib.hid fun W hW => ⟨((below_step HBR.out hW).cell (p := ⟨g4, p4 + k * 4, none⟩) hg4).trans r0, ((below_step HBR.out hW).cell (p := ⟨g4, p4 + k * 4 + 1, none⟩) hg4).trans r1, ((below_step HBR.out hW).cell (p := ⟨g4, p4 + k * 4 + 2, none⟩) hg4).trans r2, ((below_step HBR.out hW).cell (p := ⟨g4, p4 + k * 4 + 3, none⟩) hg4).trans r3⟩
    have y0 : ∀ g : Gw U4, g.v.cell? ⟨gs, 0, none⟩ = some (.int .i64 m1) := fun g => (HXx.out.below g.h).c0
    have y1 : ∀ g : Gw U4, g.v.cell? ⟨gs, 1, none⟩ = some (.int .i64 m2) := fun g => (HXx.out.below g.h).c1
    have y2 : ∀ g : Gw U4, g.v.cell? ⟨gt, 0, none⟩ = some (.int .i64 m3) := fun g => (HYy.out.below g.h).c0
    have y3 : ∀ g : Gw U4, g.v.cell? ⟨gt, 1, none⟩ = some (.int .i64 m4) := fun g => (HYy.out.below g.h).c1
    have y4 : ∀ g : Gw U4, g.v.cell? ⟨g4, p4 + k * 4, none⟩ = some (.int .i64 m1) := fun g => ((HCU.out g.v g.h).1)
    have y5 : ∀ g : Gw U4, g.v.cell? ⟨g4, p4 + k * 4 + 1, none⟩ = some (.int .i64 m2) := fun g => ((HCU.out g.v g.h).2.1)
    have y6 : ∀ g : Gw U4, g.v.cell? ⟨g4, p4 + k * 4 + 2, none⟩ = some (.int .i64 m3) := fun g => ((HCU.out g.v g.h).2.2.1)
    have y7 : ∀ g : Gw U4, g.v.cell? ⟨g4, p4 + k * 4 + 3, none⟩ = some (.int .i64 m4) := fun g => ((HCU.out g.v g.h).2.2.2)
    go_wp2
    refine wp_region_grow (by kernel_rfl) (by kernel_rfl) ?_
    repeat (go_big_quiet_step ((first
      | fail)))
    refine wpQuiet_nil ?_
    rintro _ ⟨gq, rfl⟩
    have hX : Below U4.heap.size U4 gq.v := gq.h
    generalize gq.v = U5 at hX ⊢
    have HO := Lib.hid (Ow.below HO.out hX)
    have HG := Lib.hid (Rw.below HG.out hX)
    have HK := Lib.hid (Rw.below HK.out hX)
    have HX8 := Lib.hid (Rw.below HX8.out hX)
    have HQ := Lib.hid (QOut.below HQ.out hX)
    have HM13 := Lib.hid (Rw.below HM13.out hX)
    have HM14 := Lib.hid (Rw.below HM14.out hX)
    have HO5 := Lib.hid (Out.below HO5.out hX)
    have HPk := Lib.hid (Rw.below HPk.out hX)
    have HXx := Lib.hid (Rw.below HXx.out hX)
    have HYy := Lib.hid (Rw.below HYy.out hX)
    have HW : Hid (Below w.heap.size w _) := Lib.hid (below_step HW.out hX)
    have HB : Hid (Below X8.heap.size X8 _) := Lib.hid (below_step HB.out hX)
    have HBR : Hid (Below wr.heap.size wr _) := Lib.hid (below_step HBR.out hX)
    clear hX y0 y1 y2 y3 y4 y5 y6 y7
    have b0 := HO.out.c0
    have b1 := HO.out.c1
    have g0 := HG.out.c0
    have g1 := HG.out.c1
    have k0 := HK.out.c0
    have k1 := HK.out.c1
    have x0 := HX8.out.c0
    have x1 := HX8.out.c1
    have mm0 := HM13.out.c0
    have mm1 := HM13.out.c1
    have pp0 := HM14.out.c0
    have pp1 := HM14.out.c1
    have e0 := HPk.out.c0
    have e1 := HPk.out.c1
    have s0 := HXx.out.c0
    have s1 := HXx.out.c1
    have t0 := HYy.out.c0
    have t1 := HYy.out.c1
    go_upto_region 22 with (go_at_call 36; with_reducible refine (HVz.out _ A5 c5 HW.out HO5.out).mono ?_; rintro e u6 ⟨rfl, hb6⟩; have HO := Lib.hid (Ow.below HO.out hb6); have b0 := HO.out.c0; have b1 := HO.out.c1; have HG := Lib.hid (Rw.below HG.out hb6); have g0 := HG.out.c0; have g1 := HG.out.c1; have HK := Lib.hid (Rw.below HK.out hb6); have k0 := HK.out.c0; have k1 := HK.out.c1; have HX8 := Lib.hid (Rw.below HX8.out hb6); have x0 := HX8.out.c0; have x1 := HX8.out.c1; have HQ := Lib.hid (QOut.below HQ.out hb6); have HM13 := Lib.hid (Rw.below HM13.out hb6); have mm0 := HM13.out.c0; have mm1 := HM13.out.c1; have HM14 := Lib.hid (Rw.below HM14.out hb6); have pp0 := HM14.out.c0; have pp1 := HM14.out.c1; have HO5 := Lib.hid (Out.below HO5.out hb6); have HPk := Lib.hid (Rw.below HPk.out hb6); have e0 := HPk.out.c0; have e1 := HPk.out.c1; have HXx := Lib.hid (Rw.below HXx.out hb6); have s0 := HXx.out.c0; have s1 := HXx.out.c1; have HYy := Lib.hid (Rw.below HYy.out hb6); have t0 := HYy.out.c0; have t1 := HYy.out.c1; have HW : Hid (Below w.heap.size w _) := Lib.hid (below_step HW.out hb6); have HB : Hid (Below X8.heap.size X8 _) := Lib.hid (below_step HB.out hb6); have HBR : Hid (Below wr.heap.size wr _) := Lib.hid (below_step HBR.out hb6); clear hb6)
    go_wp2
    go_roundw
    case rel => exact ⟨k + 1, by omega, by omega, by go_num, HB⟩
    case measure => simp [intOf]; omega
  · clear HVk
    go_upto_region 13 with (go_at_call 26; with_reducible refine (HTk.out _ HW.out).mono ?_; rintro e u1 ⟨A5, c5, rfl, ho, hb1⟩; have HO := Lib.hid (Ow.below HO.out hb1); have b0 := HO.out.c0; have b1 := HO.out.c1; have HG := Lib.hid (Rw.below HG.out hb1); have g0 := HG.out.c0; have g1 := HG.out.c1; have HK := Lib.hid (Rw.below HK.out hb1); have k0 := HK.out.c0; have k1 := HK.out.c1; have HX8 := Lib.hid (Rw.below HX8.out hb1); have x0 := HX8.out.c0; have x1 := HX8.out.c1; have HQ := Lib.hid (QOut.below HQ.out hb1); have HM13 := Lib.hid (Rw.below HM13.out hb1); have mm0 := HM13.out.c0; have mm1 := HM13.out.c1; have HM14 := Lib.hid (Rw.below HM14.out hb1); have pp0 := HM14.out.c0; have pp1 := HM14.out.c1; have HW : Hid (Below w.heap.size w _) := Lib.hid (below_step HW.out hb1); have HB : Hid (Below X8.heap.size X8 _) := Lib.hid (below_step HB.out hb1); have HBR : Hid (Below wr.heap.size wr _) := Lib.hid (below_step HBR.out hb1); have HO5 := Lib.hid ho; clear ho; clear hb1)
    go_upto_region 14 with (go_at_call 28; with_reducible refine (HRk.out _ HW.out).mono ?_; rintro e u2 ⟨rfl, hb2⟩; have HO := Lib.hid (Ow.below HO.out hb2); have b0 := HO.out.c0; have b1 := HO.out.c1; have HG := Lib.hid (Rw.below HG.out hb2); have g0 := HG.out.c0; have g1 := HG.out.c1; have HK := Lib.hid (Rw.below HK.out hb2); have k0 := HK.out.c0; have k1 := HK.out.c1; have HX8 := Lib.hid (Rw.below HX8.out hb2); have x0 := HX8.out.c0; have x1 := HX8.out.c1; have HQ := Lib.hid (QOut.below HQ.out hb2); have HM13 := Lib.hid (Rw.below HM13.out hb2); have mm0 := HM13.out.c0; have mm1 := HM13.out.c1; have HM14 := Lib.hid (Rw.below HM14.out hb2); have pp0 := HM14.out.c0; have pp1 := HM14.out.c1; have HO5 := Lib.hid (Out.below HO5.out hb2); have HW : Hid (Below w.heap.size w _) := Lib.hid (below_step HW.out hb2); have HB : Hid (Below X8.heap.size X8 _) := Lib.hid (below_step HB.out hb2); have HBR : Hid (Below wr.heap.size wr _) := Lib.hid (below_step HBR.out hb2); clear hb2)
    have HLT := HM14.out.lt
    obtain ⟨U2, hU2, HW, HB, HBR, HPk, HO, HG, HK, HX8, HQ, HM13, HM14, HO5⟩ : ∃ X, (u2.alloc (.cells #[.int .i64 Pk, .int .i64 Qk] 28)) = X ∧ Hid (Below w.heap.size w X) ∧ Hid (Below X8.heap.size X8 X) ∧ Hid (Below wr.heap.size wr X) ∧ Hid (Rw X u2.heap.size (.int .i64 Pk) (.int .i64 Qk)) ∧ Hid (Ow X w.heap.size (.slice A ns.length c) (.slice B ss.length d)) ∧ Hid (Rw X (w.heap.size + 1) (.int .i64 N) (.int .i64 D)) ∧ Hid (Rw X (w.heap.size + 1 + 1) (.int .i64 PN) (.int .i64 PD)) ∧ Hid (Rw X gx (.int .i64 N) (.int .i64 D)) ∧ Hid (QOut X (some ⟨g4, p4, none⟩) c4 (cuL ns ss (ns.length + 1))) ∧ Hid (Rw X gm (.int .i64 nN) (.int .i64 nD)) ∧ Hid (Rw X gp (.int .i64 sN) (.int .i64 sD)) ∧ Hid (Out X A5 c5 os) :=
      ⟨_, rfl, Lib.hid (Below.alloc HW.out HW.out.size _), Lib.hid (Below.alloc HB.out HB.out.size _), Lib.hid (Below.alloc HBR.out HBR.out.size _), Lib.hid (Rw.new _ _ _), Lib.hid (HO.out.alloc _), Lib.hid (HG.out.alloc _), Lib.hid (HK.out.alloc _), Lib.hid (HX8.out.alloc _), Lib.hid (HQ.out.below (Below.alloc (Below.refl _ _) (Nat.le_refl _) _)), Lib.hid (HM13.out.alloc _), Lib.hid (HM14.out.alloc _), Lib.hid (HO5.out.below (Below.alloc (Below.refl _ _) (Nat.le_refl _) _))⟩
    rw [hU2]
    clear hU2 HLT
    obtain ⟨ge, hge⟩ : ∃ g, u2.heap.size = g := ⟨_, rfl⟩
    try rw [hge] at HPk ⊢
    clear hge
    have b0 := HO.out.c0
    have b1 := HO.out.c1
    have g0 := HG.out.c0
    have g1 := HG.out.c1
    have k0 := HK.out.c0
    have k1 := HK.out.c1
    have x0 := HX8.out.c0
    have x1 := HX8.out.c1
    have mm0 := HM13.out.c0
    have mm1 := HM13.out.c1
    have pp0 := HM14.out.c0
    have pp1 := HM14.out.c1
    have e0 := HPk.out.c0
    have e1 := HPk.out.c1
    go_upto_region 17 with (go_at_call 18; with_reducible refine (HXk.out _ A5 c5 HW.out HO5.out).mono ?_; rintro e u3 ⟨rfl, hb3⟩; have HO := Lib.hid (Ow.below HO.out hb3); have b0 := HO.out.c0; have b1 := HO.out.c1; have HG := Lib.hid (Rw.below HG.out hb3); have g0 := HG.out.c0; have g1 := HG.out.c1; have HK := Lib.hid (Rw.below HK.out hb3); have k0 := HK.out.c0; have k1 := HK.out.c1; have HX8 := Lib.hid (Rw.below HX8.out hb3); have x0 := HX8.out.c0; have x1 := HX8.out.c1; have HQ := Lib.hid (QOut.below HQ.out hb3); have HM13 := Lib.hid (Rw.below HM13.out hb3); have mm0 := HM13.out.c0; have mm1 := HM13.out.c1; have HM14 := Lib.hid (Rw.below HM14.out hb3); have pp0 := HM14.out.c0; have pp1 := HM14.out.c1; have HO5 := Lib.hid (Out.below HO5.out hb3); have HPk := Lib.hid (Rw.below HPk.out hb3); have e0 := HPk.out.c0; have e1 := HPk.out.c1; have HW : Hid (Below w.heap.size w _) := Lib.hid (below_step HW.out hb3); have HB : Hid (Below X8.heap.size X8 _) := Lib.hid (below_step HB.out hb3); have HBR : Hid (Below wr.heap.size wr _) := Lib.hid (below_step HBR.out hb3); clear hb3)
    have HLT := HPk.out.lt
    obtain ⟨U3, hU3, HW, HB, HBR, HXx, HO, HG, HK, HX8, HQ, HM13, HM14, HO5, HPk⟩ : ∃ X, (u3.alloc (.cells #[.int .i64 m1, .int .i64 m2] 28)) = X ∧ Hid (Below w.heap.size w X) ∧ Hid (Below X8.heap.size X8 X) ∧ Hid (Below wr.heap.size wr X) ∧ Hid (Rw X u3.heap.size (.int .i64 m1) (.int .i64 m2)) ∧ Hid (Ow X w.heap.size (.slice A ns.length c) (.slice B ss.length d)) ∧ Hid (Rw X (w.heap.size + 1) (.int .i64 N) (.int .i64 D)) ∧ Hid (Rw X (w.heap.size + 1 + 1) (.int .i64 PN) (.int .i64 PD)) ∧ Hid (Rw X gx (.int .i64 N) (.int .i64 D)) ∧ Hid (QOut X (some ⟨g4, p4, none⟩) c4 (cuL ns ss (ns.length + 1))) ∧ Hid (Rw X gm (.int .i64 nN) (.int .i64 nD)) ∧ Hid (Rw X gp (.int .i64 sN) (.int .i64 sD)) ∧ Hid (Out X A5 c5 os) ∧ Hid (Rw X ge (.int .i64 Pk) (.int .i64 Qk)) :=
      ⟨_, rfl, Lib.hid (Below.alloc HW.out HW.out.size _), Lib.hid (Below.alloc HB.out HB.out.size _), Lib.hid (Below.alloc HBR.out HBR.out.size _), Lib.hid (Rw.new _ _ _), Lib.hid (HO.out.alloc _), Lib.hid (HG.out.alloc _), Lib.hid (HK.out.alloc _), Lib.hid (HX8.out.alloc _), Lib.hid (HQ.out.below (Below.alloc (Below.refl _ _) (Nat.le_refl _) _)), Lib.hid (HM13.out.alloc _), Lib.hid (HM14.out.alloc _), Lib.hid (HO5.out.below (Below.alloc (Below.refl _ _) (Nat.le_refl _) _)), Lib.hid (HPk.out.alloc _)⟩
    rw [hU3]
    clear hU3 HLT
    obtain ⟨gs, hgs⟩ : ∃ g, u3.heap.size = g := ⟨_, rfl⟩
    try rw [hgs] at HXx ⊢
    clear hgs
    have b0 := HO.out.c0
    have b1 := HO.out.c1
    have g0 := HG.out.c0
    have g1 := HG.out.c1
    have k0 := HK.out.c0
    have k1 := HK.out.c1
    have x0 := HX8.out.c0
    have x1 := HX8.out.c1
    have mm0 := HM13.out.c0
    have mm1 := HM13.out.c1
    have pp0 := HM14.out.c0
    have pp1 := HM14.out.c1
    have e0 := HPk.out.c0
    have e1 := HPk.out.c1
    have s0 := HXx.out.c0
    have s1 := HXx.out.c1
    go_upto_region 18 with (go_at_call 20; with_reducible refine (HYk.out _ A5 c5 HW.out HO5.out).mono ?_; rintro e u4 ⟨rfl, hb4⟩; have HO := Lib.hid (Ow.below HO.out hb4); have b0 := HO.out.c0; have b1 := HO.out.c1; have HG := Lib.hid (Rw.below HG.out hb4); have g0 := HG.out.c0; have g1 := HG.out.c1; have HK := Lib.hid (Rw.below HK.out hb4); have k0 := HK.out.c0; have k1 := HK.out.c1; have HX8 := Lib.hid (Rw.below HX8.out hb4); have x0 := HX8.out.c0; have x1 := HX8.out.c1; have HQ := Lib.hid (QOut.below HQ.out hb4); have HM13 := Lib.hid (Rw.below HM13.out hb4); have mm0 := HM13.out.c0; have mm1 := HM13.out.c1; have HM14 := Lib.hid (Rw.below HM14.out hb4); have pp0 := HM14.out.c0; have pp1 := HM14.out.c1; have HO5 := Lib.hid (Out.below HO5.out hb4); have HPk := Lib.hid (Rw.below HPk.out hb4); have e0 := HPk.out.c0; have e1 := HPk.out.c1; have HXx := Lib.hid (Rw.below HXx.out hb4); have s0 := HXx.out.c0; have s1 := HXx.out.c1; have HW : Hid (Below w.heap.size w _) := Lib.hid (below_step HW.out hb4); have HB : Hid (Below X8.heap.size X8 _) := Lib.hid (below_step HB.out hb4); have HBR : Hid (Below wr.heap.size wr _) := Lib.hid (below_step HBR.out hb4); clear hb4)
    have HLT := HXx.out.lt
    obtain ⟨U4, hU4, HW, HB, HBR, HYy, HO, HG, HK, HX8, HQ, HM13, HM14, HO5, HPk, HXx⟩ : ∃ X, (u4.alloc (.cells #[.int .i64 m3, .int .i64 m4] 28)) = X ∧ Hid (Below w.heap.size w X) ∧ Hid (Below X8.heap.size X8 X) ∧ Hid (Below wr.heap.size wr X) ∧ Hid (Rw X u4.heap.size (.int .i64 m3) (.int .i64 m4)) ∧ Hid (Ow X w.heap.size (.slice A ns.length c) (.slice B ss.length d)) ∧ Hid (Rw X (w.heap.size + 1) (.int .i64 N) (.int .i64 D)) ∧ Hid (Rw X (w.heap.size + 1 + 1) (.int .i64 PN) (.int .i64 PD)) ∧ Hid (Rw X gx (.int .i64 N) (.int .i64 D)) ∧ Hid (QOut X (some ⟨g4, p4, none⟩) c4 (cuL ns ss (ns.length + 1))) ∧ Hid (Rw X gm (.int .i64 nN) (.int .i64 nD)) ∧ Hid (Rw X gp (.int .i64 sN) (.int .i64 sD)) ∧ Hid (Out X A5 c5 os) ∧ Hid (Rw X ge (.int .i64 Pk) (.int .i64 Qk)) ∧ Hid (Rw X gs (.int .i64 m1) (.int .i64 m2)) :=
      ⟨_, rfl, Lib.hid (Below.alloc HW.out HW.out.size _), Lib.hid (Below.alloc HB.out HB.out.size _), Lib.hid (Below.alloc HBR.out HBR.out.size _), Lib.hid (Rw.new _ _ _), Lib.hid (HO.out.alloc _), Lib.hid (HG.out.alloc _), Lib.hid (HK.out.alloc _), Lib.hid (HX8.out.alloc _), Lib.hid (HQ.out.below (Below.alloc (Below.refl _ _) (Nat.le_refl _) _)), Lib.hid (HM13.out.alloc _), Lib.hid (HM14.out.alloc _), Lib.hid (HO5.out.below (Below.alloc (Below.refl _ _) (Nat.le_refl _) _)), Lib.hid (HPk.out.alloc _), Lib.hid (HXx.out.alloc _)⟩
    rw [hU4]
    clear hU4 HLT
    obtain ⟨gt, hgt⟩ : ∃ g, u4.heap.size = g := ⟨_, rfl⟩
    try rw [hgt] at HYy ⊢
    clear hgt
    have b0 := HO.out.c0
    have b1 := HO.out.c1
    have g0 := HG.out.c0
    have g1 := HG.out.c1
    have k0 := HK.out.c0
    have k1 := HK.out.c1
    have x0 := HX8.out.c0
    have x1 := HX8.out.c1
    have mm0 := HM13.out.c0
    have mm1 := HM13.out.c1
    have pp0 := HM14.out.c0
    have pp1 := HM14.out.c1
    have e0 := HPk.out.c0
    have e1 := HPk.out.c1
    have s0 := HXx.out.c0
    have s1 := HXx.out.c1
    have t0 := HYy.out.c0
    have t1 := HYy.out.c1
    have HCU : Hid (∀ W, Below U4.heap.size U4 W → W.cell? ⟨g4, p4 + k * 4, none⟩ = some (.int .i64 m1) ∧ W.cell? ⟨g4, p4 + k * 4 + 1, none⟩ = some (.int .i64 m2) ∧ W.cell? ⟨g4, p4 + k * 4 + 2, none⟩ = some (.int .i64 m3) ∧ W.cell? ⟨g4, p4 + k * 4 + 3, none⟩ = some (.int .i64 m4)) := Lib.hid fun W hW => ⟨((below_step HBR.out hW).cell (p := ⟨g4, p4 + k * 4, none⟩) hg4).trans r0, ((below_step HBR.out hW).cell (p := ⟨g4, p4 + k * 4 + 1, none⟩) hg4).trans r1, ((below_step HBR.out hW).cell (p := ⟨g4, p4 + k * 4 + 2, none⟩) hg4).trans r2, ((below_step HBR.out hW).cell (p := ⟨g4, p4 + k * 4 + 3, none⟩) hg4).trans r3⟩
    have y0 : ∀ g : Gw U4, g.v.cell? ⟨gs, 0, none⟩ = some (.int .i64 m1) := fun g => (HXx.out.below g.h).c0
    have y1 : ∀ g : Gw U4, g.v.cell? ⟨gs, 1, none⟩ = some (.int .i64 m2) := fun g => (HXx.out.below g.h).c1
    have y2 : ∀ g : Gw U4, g.v.cell? ⟨gt, 0, none⟩ = some (.int .i64 m3) := fun g => (HYy.out.below g.h).c0
    have y3 : ∀ g : Gw U4, g.v.cell? ⟨gt, 1, none⟩ = some (.int .i64 m4) := fun g => (HYy.out.below g.h).c1
    have y4 : ∀ g : Gw U4, g.v.cell? ⟨g4, p4 + k * 4, none⟩ = some (.int .i64 m1) := fun g => ((HCU.out g.v g.h).1)
    have y5 : ∀ g : Gw U4, g.v.cell? ⟨g4, p4 + k * 4 + 1, none⟩ = some (.int .i64 m2) := fun g => ((HCU.out g.v g.h).2.1)
    have y6 : ∀ g : Gw U4, g.v.cell? ⟨g4, p4 + k * 4 + 2, none⟩ = some (.int .i64 m3) := fun g => ((HCU.out g.v g.h).2.2.1)
    have y7 : ∀ g : Gw U4, g.v.cell? ⟨g4, p4 + k * 4 + 3, none⟩ = some (.int .i64 m4) := fun g => ((HCU.out g.v g.h).2.2.2)
    go_wp2
    refine wp_region_grow (by kernel_rfl) (by kernel_rfl) ?_
    repeat (go_big_quiet_step ((first
      | fail)))
    refine wpQuiet_nil ?_
    rintro _ ⟨gq, rfl⟩
    have hX : Below U4.heap.size U4 gq.v := gq.h
    generalize gq.v = U5 at hX ⊢
    have HO := Lib.hid (Ow.below HO.out hX)
    have HG := Lib.hid (Rw.below HG.out hX)
    have HK := Lib.hid (Rw.below HK.out hX)
    have HX8 := Lib.hid (Rw.below HX8.out hX)
    have HQ := Lib.hid (QOut.below HQ.out hX)
    have HM13 := Lib.hid (Rw.below HM13.out hX)
    have HM14 := Lib.hid (Rw.below HM14.out hX)
    have HO5 := Lib.hid (Out.below HO5.out hX)
    have HPk := Lib.hid (Rw.below HPk.out hX)
    have HXx := Lib.hid (Rw.below HXx.out hX)
    have HYy := Lib.hid (Rw.below HYy.out hX)
    have HW : Hid (Below w.heap.size w _) := Lib.hid (below_step HW.out hX)
    have HB : Hid (Below X8.heap.size X8 _) := Lib.hid (below_step HB.out hX)
    have HBR : Hid (Below wr.heap.size wr _) := Lib.hid (below_step HBR.out hX)
    clear hX y0 y1 y2 y3 y4 y5 y6 y7
    have b0 := HO.out.c0
    have b1 := HO.out.c1
    have g0 := HG.out.c0
    have g1 := HG.out.c1
    have k0 := HK.out.c0
    have k1 := HK.out.c1
    have x0 := HX8.out.c0
    have x1 := HX8.out.c1
    have mm0 := HM13.out.c0
    have mm1 := HM13.out.c1
    have pp0 := HM14.out.c0
    have pp1 := HM14.out.c1
    have e0 := HPk.out.c0
    have e1 := HPk.out.c1
    have s0 := HXx.out.c0
    have s1 := HXx.out.c1
    have t0 := HYy.out.c0
    have t1 := HYy.out.c1
    go_wp2
    go_roundw
    case rel => exact ⟨k + 1, by omega, by omega, by go_num, HB⟩
    case measure => simp [intOf]; omega

set_option maxRecDepth 100000 in
set_option maxHeartbeats 16000000 in
theorem told_0 (ns ss cs : List Int) (A B C : Option Addr) (c d e1 : Nat) (N D PN PD nN nD sN sD : Int) (P Q E : Nat → Int) (w : World)
    (hA : ∀ W, Below w.heap.size w W → Calls Try.prog 40 #[(.agg #[.slice A ns.length c, .slice B ss.length d])] W fun e w' => e = .returned (.tuple #[.agg #[.int .i64 N, .int .i64 D], .int .i64 0]) ∧ Below W.heap.size W w')
    (hP : ∀ W, Below w.heap.size w W → Calls Try.prog 42 #[(.agg #[.slice A ns.length c, .slice B ss.length d])] W fun e w' => e = .returned (.tuple #[.agg #[.int .i64 N, .int .i64 D], .int .i64 0]) ∧ Below W.heap.size W w')
    (hF : ∀ W, Below w.heap.size w W → Calls Try.prog 44 #[(.agg #[.slice A ns.length c, .slice B ss.length d])] W fun e w' => e = .returned (.tuple #[.agg #[.int .i64 PN, .int .i64 PD], .int .i64 0]) ∧ Below W.heap.size W w')
    (hC : ∀ W, Below w.heap.size w W → Calls Try.prog 38 #[(.agg #[.slice A ns.length c, .slice B ss.length d])] W fun e w' => ∃ A' c', e = .returned (.tuple #[.slice A' (ns.length + 1) c', .int .i64 0]) ∧ QOut w' A' c' (cuL ns ss (ns.length + 1)) ∧ Below W.heap.size W w')
    (hN : ∀ W, Below w.heap.size w W → Calls Try.prog 18 #[(.agg #[.slice A ns.length c, .slice B ss.length d]), .slice C cs.length e1] W fun e w' => e = .returned (.tuple #[.agg #[.int .i64 nN, .int .i64 nD], .int .i64 0]) ∧ Below W.heap.size W w')
    (hS : ∀ W, Below w.heap.size w W → Calls Try.prog 20 #[(.agg #[.slice A ns.length c, .slice B ss.length d]), .slice C cs.length e1] W fun e w' => e = .returned (.tuple #[.agg #[.int .i64 sN, .int .i64 sD], .int .i64 0]) ∧ Below W.heap.size W w')
    (hT : ∀ (k : Nat), k ≤ ns.length → ∀ W, Below w.heap.size w W → Calls Try.prog 26 #[(.agg #[.slice A ns.length c, .slice B ss.length d]), .int .i64 k] W fun e w' => ∃ A' c', e = .returned (.tuple #[.slice A' (ctL ns ss k).length c', .int .i64 0]) ∧ Out w' A' c' (ctL ns ss k) ∧ Below W.heap.size W w')
    (hR : ∀ (k : Nat), 1 ≤ k → k ≤ ns.length → ∀ W, Below w.heap.size w W → Calls Try.prog 28 #[(.agg #[.slice A ns.length c, .slice B ss.length d]), .int .i64 k] W fun e w' => e = .returned (.tuple #[.agg #[.int .i64 (P k), .int .i64 (Q k)], .int .i64 (E k)]) ∧ Below W.heap.size W w')
    (hX : ∀ (k : Nat), k ≤ ns.length → ∀ W A' c', Below w.heap.size w W → Out W A' c' (ctL ns ss k) → Calls Try.prog 18 #[(.agg #[.slice A ns.length c, .slice B ss.length d]), .slice A' (ctL ns ss k).length c'] W fun e w' => e = .returned (.tuple #[.agg #[.int .i64 (cuQ ns ss k).1.1, .int .i64 (cuQ ns ss k).1.2], .int .i64 0]) ∧ Below W.heap.size W w')
    (hY : ∀ (k : Nat), k ≤ ns.length → ∀ W A' c', Below w.heap.size w W → Out W A' c' (ctL ns ss k) → Calls Try.prog 20 #[(.agg #[.slice A ns.length c, .slice B ss.length d]), .slice A' (ctL ns ss k).length c'] W fun e w' => e = .returned (.tuple #[.agg #[.int .i64 (cuQ ns ss k).2.1, .int .i64 (cuQ ns ss k).2.2], .int .i64 0]) ∧ Below W.heap.size W w')
    (hV : ∀ (k : Nat), 1 ≤ k → k ≤ ns.length → E k = 0 → ∀ W A' c', Below w.heap.size w W → Out W A' c' (ctL ns ss k) → Calls Try.prog 36 #[(.agg #[.slice A ns.length c, .slice B ss.length d]), .slice A' (ctL ns ss k).length c', .agg #[.int .i64 (P k), .int .i64 (Q k)]] W fun e w' => e = .returned (.tuple #[.bool true, .int .i64 0]) ∧ Below W.heap.size W w')
    (hE : ∀ k, E k = 0 ∨ E k = 5)
    (hbd : ∀ k, k ≤ ns.length → smB (cuQ ns ss k).1.1 (cuQ ns ss k).1.2 = true ∧ smB (cuQ ns ss k).2.1 (cuQ ns ss k).2.2 = true)
    (hfin : ∀ k, 1 ≤ k → k ≤ ns.length → E k = 0 → decide (nN * (cuQ ns ss k).1.2 ≤ (cuQ ns ss k).1.1 * nD) = true → decide ((cuQ ns ss k).2.1 * sD < sN * (cuQ ns ss k).2.2) = false)
    (hn10 : ns.length ≤ 10) (hsm : smB N D = true) (hsp : smB PN PD = true) (hsn : smB nN nD = true) (hss : smB sN sD = true) :
    Calls Try.prog 64 #[(.agg #[.slice A ns.length c, .slice B ss.length d]), .slice C cs.length e1] w fun e w' => e = .returned (.tuple #[.agg #[.int .i64 N, .int .i64 D], .agg #[.int .i64 PN, .int .i64 PD], .bool true]) ∧ Below w.heap.size w w' := by
  have HA := Lib.hid hA
  have HP := Lib.hid hP
  have HF := Lib.hid hF
  have HC := Lib.hid hC
  have HN := Lib.hid hN
  have HS := Lib.hid hS
  have HT := Lib.hid hT
  have HR := Lib.hid hR
  have HX := Lib.hid hX
  have HY := Lib.hid hY
  have HV := Lib.hid hV
  have HE := Lib.hid hE
  have HBD := Lib.hid hbd
  have HFIN := Lib.hid hfin
  obtain ⟨sn1, sn2, sn3, sn4⟩ := sm_of hsn
  obtain ⟨ss1, ss2, ss3, ss4⟩ := sm_of hss
  have HSM := Lib.hid hsm
  have HSP := Lib.hid hsp
  have HFA : Hid (∀ V : World, Calls Try.prog 99 #[.agg #[.int .i64 N, .int .i64 D]] V fun e w' => e = .returned (.bool true) ∧ Below V.heap.size V w') := Lib.hid fun V => by
    have := fraction_any N D V
    rw [hsm] at this
    exact this
  have HFB : Hid (∀ V : World, Calls Try.prog 99 #[.agg #[.int .i64 PN, .int .i64 PD]] V fun e w' => e = .returned (.bool true) ∧ Below V.heap.size V w') := Lib.hid fun V => by
    have := fraction_any PN PD V
    rw [hsp] at this
    exact this
  have hwn : IntKind.i64.wrap ((ns.length : Int) + 1) = (ns.length : Int) + 1 := IntWalk.i64_in _ (by omega)
  clear hA hP hF hC hN hS hT hR hX hY hV hE hbd hfin hsm hsp hsn hss
  obtain ⟨W0, hW0, HW, HO, HG, HK, z0, z1, z2⟩ := three_new1 w #[.slice A ns.length c, .slice B ss.length d] #[.int .i64 0, .int .i64 0] #[.int .i64 0, .int .i64 0] 24 28 28
  have HO : Hid (Ow W0 w.heap.size (.slice A ns.length c) (.slice B ss.length d)) := HO
  have HG : Hid (Rw W0 (w.heap.size + 1) (.int .i64 0) (.int .i64 0)) := HG
  have HK : Hid (Rw W0 (w.heap.size + 1 + 1) (.int .i64 0) (.int .i64 0)) := HK
  clear z0 z1 z2
  have n12 : w.heap.size + 1 ≠ w.heap.size + 1 + 1 := by omega
  have n21 : w.heap.size + 1 + 1 ≠ w.heap.size + 1 := by omega
  have b0 := HO.out.c0
  have b1 := HO.out.c1
  have g0 := HG.out.c0
  have g1 := HG.out.c1
  have gf0 := HG.out.f 0
  have gf1 := HG.out.f 1
  have k0 := HK.out.c0
  have k1 := HK.out.c1
  have kf0 := HK.out.f 0
  have kf1 := HK.out.f 1
  go_enter Try.func64, Try.ntmps64
  go_upto_region 2 with (go_at_call 40; with_reducible refine (HA.out _ (by repeat (first | with_reducible exact Below.refl _ _ | with_reducible assumption | refine below_drewN ?_ _ | with_reducible refine Below.drew ?_ | (refine Below.setCell ?_ (by first | (simp; done) | (simp; omega) | omega) _) | (refine Below.alloc ?_ (by first | (simp; done) | (simp; omega) | omega) _)))).mono ?_; rintro e v1 ⟨rfl, hB1⟩; rw [← hW0] at hB1; have HO := Lib.hid (Ow.below HO.out hB1); have b0 := HO.out.c0; have b1 := HO.out.c1; have HG := Lib.hid (Rw.below HG.out hB1); have g0 := HG.out.c0; have g1 := HG.out.c1; have gf0 := HG.out.f 0; have gf1 := HG.out.f 1; have HK := Lib.hid (Rw.below HK.out hB1); have k0 := HK.out.c0; have k1 := HK.out.c1; have kf0 := HK.out.f 0; have kf1 := HK.out.f 1; have HW : Hid (Below w.heap.size w _) := Lib.hid (below_step HW.out hB1); clear hB1)
  obtain ⟨X1, hX1, HW, HO, HG, HK⟩ : ∃ X, ((v1.setCell ⟨(w.heap.size + 1), 0, none⟩ (.int .i64 N)).setCell ⟨(w.heap.size + 1), 1, none⟩ (.int .i64 D)) = X ∧ Hid (Below w.heap.size w X) ∧ Hid (Ow X w.heap.size (.slice A ns.length c) (.slice B ss.length d)) ∧ Hid (Rw X (w.heap.size + 1) (.int .i64 N) (.int .i64 D)) ∧ Hid (Rw X (w.heap.size + 1 + 1) (.int .i64 0) (.int .i64 0)) :=
    ⟨_, rfl, Lib.hid (st2_below HW.out (by omega)), Lib.hid (HO.out.other (by omega)), Lib.hid (HG.out.set), Lib.hid (HK.out.other (by omega))⟩
  rw [hX1]
  clear hX1
  have b0 := HO.out.c0
  have b1 := HO.out.c1
  have g0 := HG.out.c0
  have g1 := HG.out.c1
  have gf0 := HG.out.f 0
  have gf1 := HG.out.f 1
  have k0 := HK.out.c0
  have k1 := HK.out.c1
  have kf0 := HK.out.f 0
  have kf1 := HK.out.f 1
  go_upto_region 3 with (go_at_call 42; with_reducible refine (HP.out _ HW.out).mono ?_; rintro e v2 ⟨rfl, hB2⟩; have HO := Lib.hid (Ow.below HO.out hB2); have b0 := HO.out.c0; have b1 := HO.out.c1; have HG := Lib.hid (Rw.below HG.out hB2); have g0 := HG.out.c0; have g1 := HG.out.c1; have gf0 := HG.out.f 0; have gf1 := HG.out.f 1; have HK := Lib.hid (Rw.below HK.out hB2); have k0 := HK.out.c0; have k1 := HK.out.c1; have kf0 := HK.out.f 0; have kf1 := HK.out.f 1; have HW : Hid (Below w.heap.size w _) := Lib.hid (below_step HW.out hB2); clear hB2)
  have HLT := HK.out.lt
  obtain ⟨X2, hX2, HW, HX8, HO, HG, HK⟩ : ∃ X, (v2.alloc (.cells #[.int .i64 N, .int .i64 D] 28)) = X ∧ Hid (Below w.heap.size w X) ∧ Hid (Rw X v2.heap.size (.int .i64 N) (.int .i64 D)) ∧ Hid (Ow X w.heap.size (.slice A ns.length c) (.slice B ss.length d)) ∧ Hid (Rw X (w.heap.size + 1) (.int .i64 N) (.int .i64 D)) ∧ Hid (Rw X (w.heap.size + 1 + 1) (.int .i64 0) (.int .i64 0)) :=
    ⟨_, rfl, Lib.hid (Below.alloc HW.out HW.out.size _), Lib.hid (Rw.new _ _ _), Lib.hid (HO.out.alloc _), Lib.hid (HG.out.alloc _), Lib.hid (HK.out.alloc _)⟩
  have HGX : Hid (v2.heap.size ≠ w.heap.size + 1 + 1) := Lib.hid (by have := HLT; omega)
  rw [hX2]
  clear hX2 HLT
  obtain ⟨gx, hgx⟩ : ∃ g, v2.heap.size = g := ⟨_, rfl⟩
  try rw [hgx] at HX8 ⊢
  rw [hgx] at HGX
  clear hgx
  have b0 := HO.out.c0
  have b1 := HO.out.c1
  have g0 := HG.out.c0
  have g1 := HG.out.c1
  have gf0 := HG.out.f 0
  have gf1 := HG.out.f 1
  have k0 := HK.out.c0
  have k1 := HK.out.c1
  have kf0 := HK.out.f 0
  have kf1 := HK.out.f 1
  have x0 := HX8.out.c0
  have x1 := HX8.out.c1
  go_upto_region 4 with (go_at_call 44; with_reducible refine (HF.out _ HW.out).mono ?_; rintro e v3 ⟨rfl, hB3⟩; have HO := Lib.hid (Ow.below HO.out hB3); have b0 := HO.out.c0; have b1 := HO.out.c1; have HG := Lib.hid (Rw.below HG.out hB3); have g0 := HG.out.c0; have g1 := HG.out.c1; have gf0 := HG.out.f 0; have gf1 := HG.out.f 1; have HK := Lib.hid (Rw.below HK.out hB3); have k0 := HK.out.c0; have k1 := HK.out.c1; have kf0 := HK.out.f 0; have kf1 := HK.out.f 1; have HX8 := Lib.hid (Rw.below HX8.out hB3); have x0 := HX8.out.c0; have x1 := HX8.out.c1; have HW : Hid (Below w.heap.size w _) := Lib.hid (below_step HW.out hB3); clear hB3)
  obtain ⟨X3, hX3, HW, HO, HG, HK, HX8⟩ : ∃ X, ((v3.setCell ⟨(w.heap.size + 1 + 1), 0, none⟩ (.int .i64 PN)).setCell ⟨(w.heap.size + 1 + 1), 1, none⟩ (.int .i64 PD)) = X ∧ Hid (Below w.heap.size w X) ∧ Hid (Ow X w.heap.size (.slice A ns.length c) (.slice B ss.length d)) ∧ Hid (Rw X (w.heap.size + 1) (.int .i64 N) (.int .i64 D)) ∧ Hid (Rw X (w.heap.size + 1 + 1) (.int .i64 PN) (.int .i64 PD)) ∧ Hid (Rw X gx (.int .i64 N) (.int .i64 D)) :=
    ⟨_, rfl, Lib.hid (st2_below HW.out (by omega)), Lib.hid (HO.out.other (by omega)), Lib.hid (HG.out.other (by omega)), Lib.hid (HK.out.set), Lib.hid (HX8.out.other HGX.out)⟩
  rw [hX3]
  clear hX3
  have b0 := HO.out.c0
  have b1 := HO.out.c1
  have g0 := HG.out.c0
  have g1 := HG.out.c1
  have gf0 := HG.out.f 0
  have gf1 := HG.out.f 1
  have k0 := HK.out.c0
  have k1 := HK.out.c1
  have kf0 := HK.out.f 0
  have kf1 := HK.out.f 1
  have x0 := HX8.out.c0
  have x1 := HX8.out.c1
  go_upto_region 5 with (go_at_call 38; with_reducible refine (HC.out _ HW.out).mono ?_; rintro e v4 ⟨A4, c4, rfl, hq, hB4⟩; have HO := Lib.hid (Ow.below HO.out hB4); have b0 := HO.out.c0; have b1 := HO.out.c1; have HG := Lib.hid (Rw.below HG.out hB4); have g0 := HG.out.c0; have g1 := HG.out.c1; have gf0 := HG.out.f 0; have gf1 := HG.out.f 1; have HK := Lib.hid (Rw.below HK.out hB4); have k0 := HK.out.c0; have k1 := HK.out.c1; have kf0 := HK.out.f 0; have kf1 := HK.out.f 1; have HX8 := Lib.hid (Rw.below HX8.out hB4); have x0 := HX8.out.c0; have x1 := HX8.out.c1; have HW : Hid (Below w.heap.size w _) := Lib.hid (below_step HW.out hB4); have HQ := Lib.hid hq; clear hq; clear hB4)
  go_upto_region 7 with (first
    | (go_at_call 99; with_reducible refine (HFA.out _).mono ?_; rintro e v5 ⟨rfl, hB5⟩; have HO := Lib.hid (Ow.below HO.out hB5); have b0 := HO.out.c0; have b1 := HO.out.c1; have HG := Lib.hid (Rw.below HG.out hB5); have g0 := HG.out.c0; have g1 := HG.out.c1; have gf0 := HG.out.f 0; have gf1 := HG.out.f 1; have HK := Lib.hid (Rw.below HK.out hB5); have k0 := HK.out.c0; have k1 := HK.out.c1; have kf0 := HK.out.f 0; have kf1 := HK.out.f 1; have HX8 := Lib.hid (Rw.below HX8.out hB5); have x0 := HX8.out.c0; have x1 := HX8.out.c1; have HQ := Lib.hid (QOut.below HQ.out hB5); have HW : Hid (Below w.heap.size w _) := Lib.hid (below_step HW.out hB5); clear hB5)
    | (go_at_call 99; with_reducible refine (HFB.out _).mono ?_; rintro e v6 ⟨rfl, hB6⟩; have HO := Lib.hid (Ow.below HO.out hB6); have b0 := HO.out.c0; have b1 := HO.out.c1; have HG := Lib.hid (Rw.below HG.out hB6); have g0 := HG.out.c0; have g1 := HG.out.c1; have gf0 := HG.out.f 0; have gf1 := HG.out.f 1; have HK := Lib.hid (Rw.below HK.out hB6); have k0 := HK.out.c0; have k1 := HK.out.c1; have kf0 := HK.out.f 0; have kf1 := HK.out.f 1; have HX8 := Lib.hid (Rw.below HX8.out hB6); have x0 := HX8.out.c0; have x1 := HX8.out.c1; have HQ := Lib.hid (QOut.below HQ.out hB6); have HW : Hid (Below w.heap.size w _) := Lib.hid (below_step HW.out hB6); clear hB6)
    | fail)
  go_upto_region 8 with (go_at_call 18; with_reducible refine (HN.out _ HW.out).mono ?_; rintro e v7 ⟨rfl, hB7⟩; have HO := Lib.hid (Ow.below HO.out hB7); have b0 := HO.out.c0; have b1 := HO.out.c1; have HG := Lib.hid (Rw.below HG.out hB7); have g0 := HG.out.c0; have g1 := HG.out.c1; have gf0 := HG.out.f 0; have gf1 := HG.out.f 1; have HK := Lib.hid (Rw.below HK.out hB7); have k0 := HK.out.c0; have k1 := HK.out.c1; have kf0 := HK.out.f 0; have kf1 := HK.out.f 1; have HX8 := Lib.hid (Rw.below HX8.out hB7); have x0 := HX8.out.c0; have x1 := HX8.out.c1; have HQ := Lib.hid (QOut.below HQ.out hB7); have HW : Hid (Below w.heap.size w _) := Lib.hid (below_step HW.out hB7); clear hB7)
  have HLT := HX8.out.lt
  obtain ⟨X7, hX7, HW, HM13, HO, HG, HK, HX8, HQ⟩ : ∃ X, (v7.alloc (.cells #[.int .i64 nN, .int .i64 nD] 28)) = X ∧ Hid (Below w.heap.size w X) ∧ Hid (Rw X v7.heap.size (.int .i64 nN) (.int .i64 nD)) ∧ Hid (Ow X w.heap.size (.slice A ns.length c) (.slice B ss.length d)) ∧ Hid (Rw X (w.heap.size + 1) (.int .i64 N) (.int .i64 D)) ∧ Hid (Rw X (w.heap.size + 1 + 1) (.int .i64 PN) (.int .i64 PD)) ∧ Hid (Rw X gx (.int .i64 N) (.int .i64 D)) ∧ Hid (QOut X A4 c4 (cuL ns ss (ns.length + 1))) :=
    ⟨_, rfl, Lib.hid (Below.alloc HW.out HW.out.size _), Lib.hid (Rw.new _ _ _), Lib.hid (HO.out.alloc _), Lib.hid (HG.out.alloc _), Lib.hid (HK.out.alloc _), Lib.hid (HX8.out.alloc _), Lib.hid (HQ.out.below (Below.alloc (Below.refl _ _) (Nat.le_refl _) _))⟩
  rw [hX7]
  clear hX7 HLT
  obtain ⟨gm, hgm⟩ : ∃ g, v7.heap.size = g := ⟨_, rfl⟩
  try rw [hgm] at HM13 ⊢
  clear hgm
  have b0 := HO.out.c0
  have b1 := HO.out.c1
  have g0 := HG.out.c0
  have g1 := HG.out.c1
  have gf0 := HG.out.f 0
  have gf1 := HG.out.f 1
  have k0 := HK.out.c0
  have k1 := HK.out.c1
  have kf0 := HK.out.f 0
  have kf1 := HK.out.f 1
  have x0 := HX8.out.c0
  have x1 := HX8.out.c1
  have mm0 := HM13.out.c0
  have mm1 := HM13.out.c1
  go_upto_region 9 with (go_at_call 20; with_reducible refine (HS.out _ HW.out).mono ?_; rintro e v8 ⟨rfl, hB8⟩; have HO := Lib.hid (Ow.below HO.out hB8); have b0 := HO.out.c0; have b1 := HO.out.c1; have HG := Lib.hid (Rw.below HG.out hB8); have g0 := HG.out.c0; have g1 := HG.out.c1; have gf0 := HG.out.f 0; have gf1 := HG.out.f 1; have HK := Lib.hid (Rw.below HK.out hB8); have k0 := HK.out.c0; have k1 := HK.out.c1; have kf0 := HK.out.f 0; have kf1 := HK.out.f 1; have HX8 := Lib.hid (Rw.below HX8.out hB8); have x0 := HX8.out.c0; have x1 := HX8.out.c1; have HQ := Lib.hid (QOut.below HQ.out hB8); have HM13 := Lib.hid (Rw.below HM13.out hB8); have mm0 := HM13.out.c0; have mm1 := HM13.out.c1; have HW : Hid (Below w.heap.size w _) := Lib.hid (below_step HW.out hB8); clear hB8)
  have HLT := HM13.out.lt
  obtain ⟨X8, hX8, HW, HM14, HO, HG, HK, HX8, HQ, HM13⟩ : ∃ X, (v8.alloc (.cells #[.int .i64 sN, .int .i64 sD] 28)) = X ∧ Hid (Below w.heap.size w X) ∧ Hid (Rw X v8.heap.size (.int .i64 sN) (.int .i64 sD)) ∧ Hid (Ow X w.heap.size (.slice A ns.length c) (.slice B ss.length d)) ∧ Hid (Rw X (w.heap.size + 1) (.int .i64 N) (.int .i64 D)) ∧ Hid (Rw X (w.heap.size + 1 + 1) (.int .i64 PN) (.int .i64 PD)) ∧ Hid (Rw X gx (.int .i64 N) (.int .i64 D)) ∧ Hid (QOut X A4 c4 (cuL ns ss (ns.length + 1))) ∧ Hid (Rw X gm (.int .i64 nN) (.int .i64 nD)) :=
    ⟨_, rfl, Lib.hid (Below.alloc HW.out HW.out.size _), Lib.hid (Rw.new _ _ _), Lib.hid (HO.out.alloc _), Lib.hid (HG.out.alloc _), Lib.hid (HK.out.alloc _), Lib.hid (HX8.out.alloc _), Lib.hid (HQ.out.below (Below.alloc (Below.refl _ _) (Nat.le_refl _) _)), Lib.hid (HM13.out.alloc _)⟩
  rw [hX8]
  clear hX8 HLT
  obtain ⟨gp, hgp⟩ : ∃ g, v8.heap.size = g := ⟨_, rfl⟩
  try rw [hgp] at HM14 ⊢
  clear hgp
  have b0 := HO.out.c0
  have b1 := HO.out.c1
  have g0 := HG.out.c0
  have g1 := HG.out.c1
  have gf0 := HG.out.f 0
  have gf1 := HG.out.f 1
  have k0 := HK.out.c0
  have k1 := HK.out.c1
  have kf0 := HK.out.f 0
  have kf1 := HK.out.f 1
  have x0 := HX8.out.c0
  have x1 := HX8.out.c1
  have mm0 := HM13.out.c0
  have mm1 := HM13.out.c1
  have pp0 := HM14.out.c0
  have pp1 := HM14.out.c1
  have HKL : Hid (∀ W, Below X8.heap.size X8 W → (Ow W w.heap.size (.slice A ns.length c) (.slice B ss.length d) ∧ Rw W (w.heap.size + 1) (.int .i64 N) (.int .i64 D) ∧ Rw W (w.heap.size + 1 + 1) (.int .i64 PN) (.int .i64 PD) ∧ Rw W gx (.int .i64 N) (.int .i64 D) ∧ QOut W A4 c4 (cuL ns ss (ns.length + 1)) ∧ Rw W gm (.int .i64 nN) (.int .i64 nD) ∧ Rw W gp (.int .i64 sN) (.int .i64 sD)) ∧ Below w.heap.size w W) := Lib.hid fun W hW => ⟨⟨HO.out.below hW, HG.out.below hW, HK.out.below hW, HX8.out.below hW, HQ.out.below hW, HM13.out.below hW, HM14.out.below hW⟩, below_step HW.out hW⟩
  go_wp2
  clear b0 b1 g0 g1 gf0 gf1 k0 k1 kf0 kf1 x0 x1 mm0 mm1 pp0 pp1 HO HG HK HX8 HQ HM13 HM14 HW
  go_loopw [15] (fun i wr => ∃ k : Nat, 1 ≤ k ∧ k ≤ ns.length + 1 ∧ i = .int .i64 k ∧ Hid (Below X8.heap.size X8 wr)) (fun i _ => ns.length + 1 - (intOf i).toNat)
  case atStart => exact ⟨1, Nat.le_refl _, by omega, rfl, Lib.hid (Below.refl _ _)⟩
  case round =>
  obtain ⟨k, hk1, hk, rfl, HB⟩ := hrel
  rename World => wr
  obtain ⟨⟨hHO, hHG, hHK, hHX8, hHQ, hHM13, hHM14⟩, hw⟩ := HKL.out wr HB.out
  have HO := Lib.hid hHO
  have HG := Lib.hid hHG
  have HK := Lib.hid hHK
  have HX8 := Lib.hid hHX8
  have HQ := Lib.hid hHQ
  have HM13 := Lib.hid hHM13
  have HM14 := Lib.hid hHM14
  have HW := Lib.hid hw
  clear hw hHO hHG hHK hHX8 hHQ hHM13 hHM14
  have b0 := HO.out.c0
  have b1 := HO.out.c1
  have g0 := HG.out.c0
  have g1 := HG.out.c1
  have k0 := HK.out.c0
  have k1 := HK.out.c1
  have x0 := HX8.out.c0
  have x1 := HX8.out.c1
  have mm0 := HM13.out.c0
  have mm1 := HM13.out.c1
  have pp0 := HM14.out.c0
  have pp1 := HM14.out.c1
  by_cases hlt : k < ns.length + 1
  rotate_left
  · obtain rfl : k = ns.length + 1 := by omega
    have gf0 := HG.out.f 0
    have gf1 := HG.out.f 1
    have kf0 := HK.out.f 0
    have kf1 := HK.out.f 1
    have kn1 : decide (((ns.length : Int) + 1) < (ns.length : Int) + 1) = false := decide_eq_false (by omega)
    go_upto_region 24 with (fail)
    go_region
    obtain ⟨V, hV, oa0, oa1, oa2, oa3, HWV⟩ : ∃ V, ((((wr.setCell ⟨w.heap.size + 1, 0, none⟩ (.int .i64 N)).setCell ⟨w.heap.size + 1, 1, none⟩ (.int .i64 D)).setCell ⟨w.heap.size + 1 + 1, 0, none⟩ (.int .i64 PN)).setCell ⟨w.heap.size + 1 + 1, 1, none⟩ (.int .i64 PD)).drew = V ∧ V.cell? ⟨w.heap.size + 1, 0, none⟩ = some (.int .i64 N) ∧ V.cell? ⟨w.heap.size + 1, 1, none⟩ = some (.int .i64 D) ∧ V.cell? ⟨w.heap.size + 1 + 1, 0, none⟩ = some (.int .i64 PN) ∧ V.cell? ⟨w.heap.size + 1 + 1, 1, none⟩ = some (.int .i64 PD) ∧ Hid (Below w.heap.size w V) :=
      ⟨_, rfl, (cell_drew1 _ _).trans ((cell_set1 _ n12).trans ((cell_set1 _ n12).trans (st2_c0 g0))), (cell_drew1 _ _).trans ((cell_set1 _ n12).trans ((cell_set1 _ n12).trans (st2_c1 g1))), (cell_drew1 _ _).trans (st2_c0 ((cell_set1 _ n21).trans ((cell_set1 _ n21).trans k0))), (cell_drew1 _ _).trans (st2_c1 ((cell_set1 _ n21).trans ((cell_set1 _ n21).trans k1))), Lib.hid (Below.drew (st2_below (st2_below HW.out (by omega)) (by omega)))⟩
    rw [hV]
    clear hV g0 g1 k0 k1 gf0 gf1 kf0 kf1
    simp only [Exit.then]
    refine (by assumption : ∀ (a : Act) (w : World), Code.wp Try.prog Code.ret _ a w → _) _ _ ?_
    apply wp_ret
    (try simp only [Exit.inBlock, Exit.then])
    exact bodyPost_ret (v := .tuple #[.agg #[.int .i64 N, .int .i64 D], .agg #[.int .i64 PN, .int .i64 PD], .bool true]) (by simp [results, Try.results64, go_sem, oa0, oa1, oa2, oa3]) rfl ⟨rfl, HWV.out⟩
  have hkn : k ≤ ns.length := by omega
  obtain ⟨g4, p4, rfl, hg4, hc4⟩ := HQ.out.open_ (by rw [cu_len]; omega)
  obtain ⟨r0, r1, r2, r3⟩ := hc4 k _ (cu_get hlt)
  have HTk := Lib.hid (HT.out k hkn)
  have HRk := Lib.hid (HR.out k hk1 hkn)
  have HXk := Lib.hid (HX.out k hkn)
  have HYk := Lib.hid (HY.out k hkn)
  have HVk := Lib.hid (HV.out k hk1 hkn)
  have hek := HE.out k
  have hbk := HBD.out k hkn
  have HFk := Lib.hid (HFIN.out k hk1 hkn)
  obtain ⟨m1, hm1⟩ : ∃ x, (cuQ ns ss k).1.1 = x := ⟨_, rfl⟩
  obtain ⟨m2, hm2⟩ : ∃ x, (cuQ ns ss k).1.2 = x := ⟨_, rfl⟩
  obtain ⟨m3, hm3⟩ : ∃ x, (cuQ ns ss k).2.1 = x := ⟨_, rfl⟩
  obtain ⟨m4, hm4⟩ : ∃ x, (cuQ ns ss k).2.2 = x := ⟨_, rfl⟩
  obtain ⟨os, hos⟩ : ∃ x, ctL ns ss k = x := ⟨_, rfl⟩
  obtain ⟨Pk, hPk⟩ : ∃ x, P k = x := ⟨_, rfl⟩
  obtain ⟨Qk, hQk⟩ : ∃ x, Q k = x := ⟨_, rfl⟩
  obtain ⟨Ek, hEk⟩ : ∃ x, E k = x := ⟨_, rfl⟩
  rw [hm1, hm2] at hbk HXk
  rw [hm3, hm4] at hbk HYk
  rw [hos] at HTk HXk HYk HVk
  rw [hPk, hQk, hEk] at HRk HVk
  rw [hEk] at hek
  rw [hm1] at r0
  rw [hm2] at r1
  rw [hm3] at r2
  rw [hm4] at r3
  rw [hm1, hm2, hm3, hm4, hEk] at HFk
  clear hm1 hm2 hm3 hm4 hos hPk hQk hEk hc4
  obtain ⟨f1, f2, f3, f4⟩ := sm_of hbk.1
  obtain ⟨f5, f6, f7, f8⟩ := sm_of hbk.2
  clear hbk
  have heq := eq_pair m1 m2 m3 m4
  have hne := ne_pair m1 m2 m3 m4
  have ki : (k : Int) < (ns.length : Int) + 1 := by omega
  have kj : (1 : Int) ≤ (k : Int) := by omega
  have kw : IntKind.i64.wrap ((k : Int) + 1) = ((k + 1 : Nat) : Int) := by rw [IntWalk.i64_in _ (by omega)]; omega
  obtain ⟨q1, q2⟩ := mul_bd (a := nN) (b := m2) (A := 200000000) (B := 200000000) (by omega) (by omega) (by omega) (by omega)
  obtain ⟨q3, q4⟩ := mul_bd (a := m1) (b := nD) (A := 200000000) (B := 200000000) (by omega) (by omega) (by omega) (by omega)
  obtain ⟨q5, q6⟩ := mul_bd (a := sN) (b := m4) (A := 200000000) (B := 200000000) (by omega) (by omega) (by omega) (by omega)
  obtain ⟨q7, q8⟩ := mul_bd (a := m3) (b := sD) (A := 200000000) (B := 200000000) (by omega) (by omega) (by omega) (by omega)
  have e1' : IntKind.i64.wrap (nN * m2) = nN * m2 := IntWalk.i64_in _ (by omega)
  have e2' : IntKind.i64.wrap (m1 * nD) = m1 * nD := IntWalk.i64_in _ (by omega)
  have e3' : IntKind.i64.wrap (sN * m4) = sN * m4 := IntWalk.i64_in _ (by omega)
  have e4' : IntKind.i64.wrap (m3 * sD) = m3 * sD := IntWalk.i64_in _ (by omega)
  have HBR : Hid (Below wr.heap.size wr wr) := Lib.hid (Below.refl _ _)
  rcases hek with rfl | rfl
  · have HVz := Lib.hid (HVk.out rfl)
    clear HVk
    have hfk := HFk.out rfl
    clear HFk
    rcases hle : decide (nN * m2 ≤ m1 * nD) with _ | _
    · clear hfk
      go_upto_region 13 with (go_at_call 26; with_reducible refine (HTk.out _ HW.out).mono ?_; rintro e u1 ⟨A5, c5, rfl, ho, hb1⟩; have HO := Lib.hid (Ow.below HO.out hb1); have b0 := HO.out.c0; have b1 := HO.out.c1; have HG := Lib.hid (Rw.below HG.out hb1); have g0 := HG.out.c0; have g1 := HG.out.c1; have HK := Lib.hid (Rw.below HK.out hb1); have k0 := HK.out.c0; have k1 := HK.out.c1; have HX8 := Lib.hid (Rw.below HX8.out hb1); have x0 := HX8.out.c0; have x1 := HX8.out.c1; have HQ := Lib.hid (QOut.below HQ.out hb1); have HM13 := Lib.hid (Rw.below HM13.out hb1); have mm0 := HM13.out.c0; have mm1 := HM13.out.c1; have HM14 := Lib.hid (Rw.below HM14.out hb1); have pp0 := HM14.out.c0; have pp1 := HM14.out.c1; have HW : Hid (Below w.heap.size w _) := Lib.hid (below_step HW.out hb1); have HB : Hid (Below X8.heap.size X8 _) := Lib.hid (below_step HB.out hb1); have HBR : Hid (Below wr.heap.size wr _) := Lib.hid (below_step HBR.out hb1); have HO5 := Lib.hid ho; clear ho; clear hb1)
      go_upto_region 14 with (go_at_call 28; with_reducible refine (HRk.out _ HW.out).mono ?_; rintro e u2 ⟨rfl, hb2⟩; have HO := Lib.hid (Ow.below HO.out hb2); have b0 := HO.out.c0; have b1 := HO.out.c1; have HG := Lib.hid (Rw.below HG.out hb2); have g0 := HG.out.c0; have g1 := HG.out.c1; have HK := Lib.hid (Rw.below HK.out hb2); have k0 := HK.out.c0; have k1 := HK.out.c1; have HX8 := Lib.hid (Rw.below HX8.out hb2); have x0 := HX8.out.c0; have x1 := HX8.out.c1; have HQ := Lib.hid (QOut.below HQ.out hb2); have HM13 := Lib.hid (Rw.below HM13.out hb2); have mm0 := HM13.out.c0; have mm1 := HM13.out.c1; have HM14 := Lib.hid (Rw.below HM14.out hb2); have pp0 := HM14.out.c0; have pp1 := HM14.out.c1; have HO5 := Lib.hid (Out.below HO5.out hb2); have HW : Hid (Below w.heap.size w _) := Lib.hid (below_step HW.out hb2); have HB : Hid (Below X8.heap.size X8 _) := Lib.hid (below_step HB.out hb2); have HBR : Hid (Below wr.heap.size wr _) := Lib.hid (below_step HBR.out hb2); clear hb2)
      have HLT := HM14.out.lt
      obtain ⟨U2, hU2, HW, HB, HBR, HPk, HO, HG, HK, HX8, HQ, HM13, HM14, HO5⟩ : ∃ X, (u2.alloc (.cells #[.int .i64 Pk, .int .i64 Qk] 28)) = X ∧ Hid (Below w.heap.size w X) ∧ Hid (Below X8.heap.size X8 X) ∧ Hid (Below wr.heap.size wr X) ∧ Hid (Rw X u2.heap.size (.int .i64 Pk) (.int .i64 Qk)) ∧ Hid (Ow X w.heap.size (.slice A ns.length c) (.slice B ss.length d)) ∧ Hid (Rw X (w.heap.size + 1) (.int .i64 N) (.int .i64 D)) ∧ Hid (Rw X (w.heap.size + 1 + 1) (.int .i64 PN) (.int .i64 PD)) ∧ Hid (Rw X gx (.int .i64 N) (.int .i64 D)) ∧ Hid (QOut X (some ⟨g4, p4, none⟩) c4 (cuL ns ss (ns.length + 1))) ∧ Hid (Rw X gm (.int .i64 nN) (.int .i64 nD)) ∧ Hid (Rw X gp (.int .i64 sN) (.int .i64 sD)) ∧ Hid (Out X A5 c5 os) :=
        ⟨_, rfl, Lib.hid (Below.alloc HW.out HW.out.size _), Lib.hid (Below.alloc HB.out HB.out.size _), Lib.hid (Below.alloc HBR.out HBR.out.size _), Lib.hid (Rw.new _ _ _), Lib.hid (HO.out.alloc _), Lib.hid (HG.out.alloc _), Lib.hid (HK.out.alloc _), Lib.hid (HX8.out.alloc _), Lib.hid (HQ.out.below (Below.alloc (Below.refl _ _) (Nat.le_refl _) _)), Lib.hid (HM13.out.alloc _), Lib.hid (HM14.out.alloc _), Lib.hid (HO5.out.below (Below.alloc (Below.refl _ _) (Nat.le_refl _) _))⟩
      rw [hU2]
      clear hU2 HLT
      obtain ⟨ge, hge⟩ : ∃ g, u2.heap.size = g := ⟨_, rfl⟩
      try rw [hge] at HPk ⊢
      clear hge
      have b0 := HO.out.c0
      have b1 := HO.out.c1
      have g0 := HG.out.c0
      have g1 := HG.out.c1
      have k0 := HK.out.c0
      have k1 := HK.out.c1
      have x0 := HX8.out.c0
      have x1 := HX8.out.c1
      have mm0 := HM13.out.c0
      have mm1 := HM13.out.c1
      have pp0 := HM14.out.c0
      have pp1 := HM14.out.c1
      have e0 := HPk.out.c0
      have e1 := HPk.out.c1
      go_upto_region 17 with (go_at_call 18; with_reducible refine (HXk.out _ A5 c5 HW.out HO5.out).mono ?_; rintro e u3 ⟨rfl, hb3⟩; have HO := Lib.hid (Ow.below HO.out hb3); have b0 := HO.out.c0; have b1 := HO.out.c1; have HG := Lib.hid (Rw.below HG.out hb3); have g0 := HG.out.c0; have g1 := HG.out.c1; have HK := Lib.hid (Rw.below HK.out hb3); have k0 := HK.out.c0; have k1 := HK.out.c1; have HX8 := Lib.hid (Rw.below HX8.out hb3); have x0 := HX8.out.c0; have x1 := HX8.out.c1; have HQ := Lib.hid (QOut.below HQ.out hb3); have HM13 := Lib.hid (Rw.below HM13.out hb3); have mm0 := HM13.out.c0; have mm1 := HM13.out.c1; have HM14 := Lib.hid (Rw.below HM14.out hb3); have pp0 := HM14.out.c0; have pp1 := HM14.out.c1; have HO5 := Lib.hid (Out.below HO5.out hb3); have HPk := Lib.hid (Rw.below HPk.out hb3); have e0 := HPk.out.c0; have e1 := HPk.out.c1; have HW : Hid (Below w.heap.size w _) := Lib.hid (below_step HW.out hb3); have HB : Hid (Below X8.heap.size X8 _) := Lib.hid (below_step HB.out hb3); have HBR : Hid (Below wr.heap.size wr _) := Lib.hid (below_step HBR.out hb3); clear hb3)
      have HLT := HPk.out.lt
      obtain ⟨U3, hU3, HW, HB, HBR, HXx, HO, HG, HK, HX8, HQ, HM13, HM14, HO5, HPk⟩ : ∃ X, (u3.alloc (.cells #[.int .i64 m1, .int .i64 m2] 28)) = X ∧ Hid (Below w.heap.size w X) ∧ Hid (Below X8.heap.size X8 X) ∧ Hid (Below wr.heap.size wr X) ∧ Hid (Rw X u3.heap.size (.int .i64 m1) (.int .i64 m2)) ∧ Hid (Ow X w.heap.size (.slice A ns.length c) (.slice B ss.length d)) ∧ Hid (Rw X (w.heap.size + 1) (.int .i64 N) (.int .i64 D)) ∧ Hid (Rw X (w.heap.size + 1 + 1) (.int .i64 PN) (.int .i64 PD)) ∧ Hid (Rw X gx (.int .i64 N) (.int .i64 D)) ∧ Hid (QOut X (some ⟨g4, p4, none⟩) c4 (cuL ns ss (ns.length + 1))) ∧ Hid (Rw X gm (.int .i64 nN) (.int .i64 nD)) ∧ Hid (Rw X gp (.int .i64 sN) (.int .i64 sD)) ∧ Hid (Out X A5 c5 os) ∧ Hid (Rw X ge (.int .i64 Pk) (.int .i64 Qk)) :=
        ⟨_, rfl, Lib.hid (Below.alloc HW.out HW.out.size _), Lib.hid (Below.alloc HB.out HB.out.size _), Lib.hid (Below.alloc HBR.out HBR.out.size _), Lib.hid (Rw.new _ _ _), Lib.hid (HO.out.alloc _), Lib.hid (HG.out.alloc _), Lib.hid (HK.out.alloc _), Lib.hid (HX8.out.alloc _), Lib.hid (HQ.out.below (Below.alloc (Below.refl _ _) (Nat.le_refl _) _)), Lib.hid (HM13.out.alloc _), Lib.hid (HM14.out.alloc _), Lib.hid (HO5.out.below (Below.alloc (Below.refl _ _) (Nat.le_refl _) _)), Lib.hid (HPk.out.alloc _)⟩
      rw [hU3]
      clear hU3 HLT
      obtain ⟨gs, hgs⟩ : ∃ g, u3.heap.size = g := ⟨_, rfl⟩
      try rw [hgs] at HXx ⊢
      clear hgs
      have b0 := HO.out.c0
      have b1 := HO.out.c1
      have g0 := HG.out.c0
      have g1 := HG.out.c1
      have k0 := HK.out.c0
      have k1 := HK.out.c1
      have x0 := HX8.out.c0
      have x1 := HX8.out.c1
      have mm0 := HM13.out.c0
      have mm1 := HM13.out.c1
      have pp0 := HM14.out.c0
      have pp1 := HM14.out.c1
      have e0 := HPk.out.c0
      have e1 := HPk.out.c1
      have s0 := HXx.out.c0
      have s1 := HXx.out.c1
      go_upto_region 18 with (go_at_call 20; with_reducible refine (HYk.out _ A5 c5 HW.out HO5.out).mono ?_; rintro e u4 ⟨rfl, hb4⟩; have HO := Lib.hid (Ow.below HO.out hb4); have b0 := HO.out.c0; have b1 := HO.out.c1; have HG := Lib.hid (Rw.below HG.out hb4); have g0 := HG.out.c0; have g1 := HG.out.c1; have HK := Lib.hid (Rw.below HK.out hb4); have k0 := HK.out.c0; have k1 := HK.out.c1; have HX8 := Lib.hid (Rw.below HX8.out hb4); have x0 := HX8.out.c0; have x1 := HX8.out.c1; have HQ := Lib.hid (QOut.below HQ.out hb4); have HM13 := Lib.hid (Rw.below HM13.out hb4); have mm0 := HM13.out.c0; have mm1 := HM13.out.c1; have HM14 := Lib.hid (Rw.below HM14.out hb4); have pp0 := HM14.out.c0; have pp1 := HM14.out.c1; have HO5 := Lib.hid (Out.below HO5.out hb4); have HPk := Lib.hid (Rw.below HPk.out hb4); have e0 := HPk.out.c0; have e1 := HPk.out.c1; have HXx := Lib.hid (Rw.below HXx.out hb4); have s0 := HXx.out.c0; have s1 := HXx.out.c1; have HW : Hid (Below w.heap.size w _) := Lib.hid (below_step HW.out hb4); have HB : Hid (Below X8.heap.size X8 _) := Lib.hid (below_step HB.out hb4); have HBR : Hid (Below wr.heap.size wr _) := Lib.hid (below_step HBR.out hb4); clear hb4)
      have HLT := HXx.out.lt
      obtain ⟨U4, hU4, HW, HB, HBR, HYy, HO, HG, HK, HX8, HQ, HM13, HM14, HO5, HPk, HXx⟩ : ∃ X, (u4.alloc (.cells #[.int .i64 m3, .int .i64 m4] 28)) = X ∧ Hid (Below w.heap.size w X) ∧ Hid (Below X8.heap.size X8 X) ∧ Hid (Below wr.heap.size wr X) ∧ Hid (Rw X u4.heap.size (.int .i64 m3) (.int .i64 m4)) ∧ Hid (Ow X w.heap.size (.slice A ns.length c) (.slice B ss.length d)) ∧ Hid (Rw X (w.heap.size + 1) (.int .i64 N) (.int .i64 D)) ∧ Hid (Rw X (w.heap.size + 1 + 1) (.int .i64 PN) (.int .i64 PD)) ∧ Hid (Rw X gx (.int .i64 N) (.int .i64 D)) ∧ Hid (QOut X (some ⟨g4, p4, none⟩) c4 (cuL ns ss (ns.length + 1))) ∧ Hid (Rw X gm (.int .i64 nN) (.int .i64 nD)) ∧ Hid (Rw X gp (.int .i64 sN) (.int .i64 sD)) ∧ Hid (Out X A5 c5 os) ∧ Hid (Rw X ge (.int .i64 Pk) (.int .i64 Qk)) ∧ Hid (Rw X gs (.int .i64 m1) (.int .i64 m2)) :=
        ⟨_, rfl, Lib.hid (Below.alloc HW.out HW.out.size _), Lib.hid (Below.alloc HB.out HB.out.size _), Lib.hid (Below.alloc HBR.out HBR.out.size _), Lib.hid (Rw.new _ _ _), Lib.hid (HO.out.alloc _), Lib.hid (HG.out.alloc _), Lib.hid (HK.out.alloc _), Lib.hid (HX8.out.alloc _), Lib.hid (HQ.out.below (Below.alloc (Below.refl _ _) (Nat.le_refl _) _)), Lib.hid (HM13.out.alloc _), Lib.hid (HM14.out.alloc _), Lib.hid (HO5.out.below (Below.alloc (Below.refl _ _) (Nat.le_refl _) _)), Lib.hid (HPk.out.alloc _), Lib.hid (HXx.out.alloc _)⟩
      rw [hU4]
      clear hU4 HLT
      obtain ⟨gt, hgt⟩ : ∃ g, u4.heap.size = g := ⟨_, rfl⟩
      try rw [hgt] at HYy ⊢
      clear hgt
      have b0 := HO.out.c0
      have b1 := HO.out.c1
      have g0 := HG.out.c0
      have g1 := HG.out.c1
      have k0 := HK.out.c0
      have k1 := HK.out.c1
      have x0 := HX8.out.c0
      have x1 := HX8.out.c1
      have mm0 := HM13.out.c0
      have mm1 := HM13.out.c1
      have pp0 := HM14.out.c0
      have pp1 := HM14.out.c1
      have e0 := HPk.out.c0
      have e1 := HPk.out.c1
      have s0 := HXx.out.c0
      have s1 := HXx.out.c1
      have t0 := HYy.out.c0
      have t1 := HYy.out.c1
      have HCU : Hid (∀ W, Below U4.heap.size U4 W → W.cell? ⟨g4, p4 + k * 4, none⟩ = some (.int .i64 m1) ∧ W.cell? ⟨g4, p4 + k * 4 + 1, none⟩ = some (.int .i64 m2) ∧ W.cell? ⟨g4, p4 + k * 4 + 2, none⟩ = some (.int .i64 m3) ∧ W.cell? ⟨g4, p4 + k * 4 + 3, none⟩ = some (.int .i64 m4)) := Lib.hid fun W hW => ⟨((below_step HBR.out hW).cell (p := ⟨g4, p4 + k * 4, none⟩) hg4).trans r0, ((below_step HBR.out hW).cell (p := ⟨g4, p4 + k * 4 + 1, none⟩) hg4).trans r1, ((below_step HBR.out hW).cell (p := ⟨g4, p4 + k * 4 + 2, none⟩) hg4).trans r2, ((below_step HBR.out hW).cell (p := ⟨g4, p4 + k * 4 + 3, none⟩) hg4).trans r3⟩
      have y0 : ∀ g : Gw U4, g.v.cell? ⟨gs, 0, none⟩ = some (.int .i64 m1) := fun g => (HXx.out.below g.h).c0
      have y1 : ∀ g : Gw U4, g.v.cell? ⟨gs, 1, none⟩ = some (.int .i64 m2) := fun g => (HXx.out.below g.h).c1
      have y2 : ∀ g : Gw U4, g.v.cell? ⟨gt, 0, none⟩ = some (.int .i64 m3) := fun g => (HYy.out.below g.h).c0
      have y3 : ∀ g : Gw U4, g.v.cell? ⟨gt, 1, none⟩ = some (.int .i64 m4) := fun g => (HYy.out.below g.h).c1
      have y4 : ∀ g : Gw U4, g.v.cell? ⟨g4, p4 + k * 4, none⟩ = some (.int .i64 m1) := fun g => ((HCU.out g.v g.h).1)
      have y5 : ∀ g : Gw U4, g.v.cell? ⟨g4, p4 + k * 4 + 1, none⟩ = some (.int .i64 m2) := fun g => ((HCU.out g.v g.h).2.1)
      have y6 : ∀ g : Gw U4, g.v.cell? ⟨g4, p4 + k * 4 + 2, none⟩ = some (.int .i64 m3) := fun g => ((HCU.out g.v g.h).2.2.1)
      have y7 : ∀ g : Gw U4, g.v.cell? ⟨g4, p4 + k * 4 + 3, none⟩ = some (.int .i64 m4) := fun g => ((HCU.out g.v g.h).2.2.2)
      go_wp2
      refine wp_region_grow (by kernel_rfl) (by kernel_rfl) ?_
      repeat (go_big_quiet_step ((first
        | fail)))
      refine wpQuiet_nil ?_
      rintro _ ⟨gq, rfl⟩
      have hX : Below U4.heap.size U4 gq.v := gq.h
      generalize gq.v = U5 at hX ⊢
      have HO := Lib.hid (Ow.below HO.out hX)
      have HG := Lib.hid (Rw.below HG.out hX)
      have HK := Lib.hid (Rw.below HK.out hX)
      have HX8 := Lib.hid (Rw.below HX8.out hX)
      have HQ := Lib.hid (QOut.below HQ.out hX)
      have HM13 := Lib.hid (Rw.below HM13.out hX)
      have HM14 := Lib.hid (Rw.below HM14.out hX)
      have HO5 := Lib.hid (Out.below HO5.out hX)
      have HPk := Lib.hid (Rw.below HPk.out hX)
      have HXx := Lib.hid (Rw.below HXx.out hX)
      have HYy := Lib.hid (Rw.below HYy.out hX)
      have HW : Hid (Below w.heap.size w _) := Lib.hid (below_step HW.out hX)
      have HB : Hid (Below X8.heap.size X8 _) := Lib.hid (below_step HB.out hX)
      have HBR : Hid (Below wr.heap.size wr _) := Lib.hid (below_step HBR.out hX)
      clear hX y0 y1 y2 y3 y4 y5 y6 y7
      have b0 := HO.out.c0
      have b1 := HO.out.c1
      have g0 := HG.out.c0
      have g1 := HG.out.c1
      have k0 := HK.out.c0
      have k1 := HK.out.c1
      have x0 := HX8.out.c0
      have x1 := HX8.out.c1
      have mm0 := HM13.out.c0
      have mm1 := HM13.out.c1
      have pp0 := HM14.out.c0
      have pp1 := HM14.out.c1
      have e0 := HPk.out.c0
      have e1 := HPk.out.c1
      have s0 := HXx.out.c0
      have s1 := HXx.out.c1
      have t0 := HYy.out.c0
      have t1 := HYy.out.c1
      go_upto_region 22 with (go_at_call 36; with_reducible refine (HVz.out _ A5 c5 HW.out HO5.out).mono ?_; rintro e u6 ⟨rfl, hb6⟩; have HO := Lib.hid (Ow.below HO.out hb6); have b0 := HO.out.c0; have b1 := HO.out.c1; have HG := Lib.hid (Rw.below HG.out hb6); have g0 := HG.out.c0; have g1 := HG.out.c1; have HK := Lib.hid (Rw.below HK.out hb6); have k0 := HK.out.c0; have k1 := HK.out.c1; have HX8 := Lib.hid (Rw.below HX8.out hb6); have x0 := HX8.out.c0; have x1 := HX8.out.c1; have HQ := Lib.hid (QOut.below HQ.out hb6); have HM13 := Lib.hid (Rw.below HM13.out hb6); have mm0 := HM13.out.c0; have mm1 := HM13.out.c1; have HM14 := Lib.hid (Rw.below HM14.out hb6); have pp0 := HM14.out.c0; have pp1 := HM14.out.c1; have HO5 := Lib.hid (Out.below HO5.out hb6); have HPk := Lib.hid (Rw.below HPk.out hb6); have e0 := HPk.out.c0; have e1 := HPk.out.c1; have HXx := Lib.hid (Rw.below HXx.out hb6); have s0 := HXx.out.c0; have s1 := HXx.out.c1; have HYy := Lib.hid (Rw.below HYy.out hb6); have t0 := HYy.out.c0; have t1 := HYy.out.c1; have HW : Hid (Below w.heap.size w _) := Lib.hid (below_step HW.out hb6); have HB : Hid (Below X8.heap.size X8 _) := Lib.hid (below_step HB.out hb6); have HBR : Hid (Below wr.heap.size wr _) := Lib.hid (below_step HBR.out hb6); clear hb6)
      go_wp2
      go_roundw
      case rel => exact ⟨k + 1, by omega, by omega, by go_num, HB⟩
      case measure => simp [intOf]; omega
    · have hfl := hfk hle
      clear hfk
      go_upto_region 13 with (go_at_call 26; with_reducible refine (HTk.out _ HW.out).mono ?_; rintro e u1 ⟨A5, c5, rfl, ho, hb1⟩; have HO := Lib.hid (Ow.below HO.out hb1); have b0 := HO.out.c0; have b1 := HO.out.c1; have HG := Lib.hid (Rw.below HG.out hb1); have g0 := HG.out.c0; have g1 := HG.out.c1; have HK := Lib.hid (Rw.below HK.out hb1); have k0 := HK.out.c0; have k1 := HK.out.c1; have HX8 := Lib.hid (Rw.below HX8.out hb1); have x0 := HX8.out.c0; have x1 := HX8.out.c1; have HQ := Lib.hid (QOut.below HQ.out hb1); have HM13 := Lib.hid (Rw.below HM13.out hb1); have mm0 := HM13.out.c0; have mm1 := HM13.out.c1; have HM14 := Lib.hid (Rw.below HM14.out hb1); have pp0 := HM14.out.c0; have pp1 := HM14.out.c1; have HW : Hid (Below w.heap.size w _) := Lib.hid (below_step HW.out hb1); have HB : Hid (Below X8.heap.size X8 _) := Lib.hid (below_step HB.out hb1); have HBR : Hid (Below wr.heap.size wr _) := Lib.hid (below_step HBR.out hb1); have HO5 := Lib.hid ho; clear ho; clear hb1)
      go_upto_region 14 with (go_at_call 28; with_reducible refine (HRk.out _ HW.out).mono ?_; rintro e u2 ⟨rfl, hb2⟩; have HO := Lib.hid (Ow.below HO.out hb2); have b0 := HO.out.c0; have b1 := HO.out.c1; have HG := Lib.hid (Rw.below HG.out hb2); have g0 := HG.out.c0; have g1 := HG.out.c1; have HK := Lib.hid (Rw.below HK.out hb2); have k0 := HK.out.c0; have k1 := HK.out.c1; have HX8 := Lib.hid (Rw.below HX8.out hb2); have x0 := HX8.out.c0; have x1 := HX8.out.c1; have HQ := Lib.hid (QOut.below HQ.out hb2); have HM13 := Lib.hid (Rw.below HM13.out hb2); have mm0 := HM13.out.c0; have mm1 := HM13.out.c1; have HM14 := Lib.hid (Rw.below HM14.out hb2); have pp0 := HM14.out.c0; have pp1 := HM14.out.c1; have HO5 := Lib.hid (Out.below HO5.out hb2); have HW : Hid (Below w.heap.size w _) := Lib.hid (below_step HW.out hb2); have HB : Hid (Below X8.heap.size X8 _) := Lib.hid (below_step HB.out hb2); have HBR : Hid (Below wr.heap.size wr _) := Lib.hid (below_step HBR.out hb2); clear hb2)
      have HLT := HM14.out.lt
      obtain ⟨U2, hU2, HW, HB, HBR, HPk, HO, HG, HK, HX8, HQ, HM13, HM14, HO5⟩ : ∃ X, (u2.alloc (.cells #[.int .i64 Pk, .int .i64 Qk] 28)) = X ∧ Hid (Below w.heap.size w X) ∧ Hid (Below X8.heap.size X8 X) ∧ Hid (Below wr.heap.size wr X) ∧ Hid (Rw X u2.heap.size (.int .i64 Pk) (.int .i64 Qk)) ∧ Hid (Ow X w.heap.size (.slice A ns.length c) (.slice B ss.length d)) ∧ Hid (Rw X (w.heap.size + 1) (.int .i64 N) (.int .i64 D)) ∧ Hid (Rw X (w.heap.size + 1 + 1) (.int .i64 PN) (.int .i64 PD)) ∧ Hid (Rw X gx (.int .i64 N) (.int .i64 D)) ∧ Hid (QOut X (some ⟨g4, p4, none⟩) c4 (cuL ns ss (ns.length + 1))) ∧ Hid (Rw X gm (.int .i64 nN) (.int .i64 nD)) ∧ Hid (Rw X gp (.int .i64 sN) (.int .i64 sD)) ∧ Hid (Out X A5 c5 os) :=
        ⟨_, rfl, Lib.hid (Below.alloc HW.out HW.out.size _), Lib.hid (Below.alloc HB.out HB.out.size _), Lib.hid (Below.alloc HBR.out HBR.out.size _), Lib.hid (Rw.new _ _ _), Lib.hid (HO.out.alloc _), Lib.hid (HG.out.alloc _), Lib.hid (HK.out.alloc _), Lib.hid (HX8.out.alloc _), Lib.hid (HQ.out.below (Below.alloc (Below.refl _ _) (Nat.le_refl _) _)), Lib.hid (HM13.out.alloc _), Lib.hid (HM14.out.alloc _), Lib.hid (HO5.out.below (Below.alloc (Below.refl _ _) (Nat.le_refl _) _))⟩
      rw [hU2]
      clear hU2 HLT
      obtain ⟨ge, hge⟩ : ∃ g, u2.heap.size = g := ⟨_, rfl⟩
      try rw [hge] at HPk ⊢
      clear hge
      have b0 := HO.out.c0
      have b1 := HO.out.c1
      have g0 := HG.out.c0
      have g1 := HG.out.c1
      have k0 := HK.out.c0
      have k1 := HK.out.c1
      have x0 := HX8.out.c0
      have x1 := HX8.out.c1
      have mm0 := HM13.out.c0
      have mm1 := HM13.out.c1
      have pp0 := HM14.out.c0
      have pp1 := HM14.out.c1
      have e0 := HPk.out.c0
      have e1 := HPk.out.c1
      go_upto_region 17 with (go_at_call 18; with_reducible refine (HXk.out _ A5 c5 HW.out HO5.out).mono ?_; rintro e u3 ⟨rfl, hb3⟩; have HO := Lib.hid (Ow.below HO.out hb3); have b0 := HO.out.c0; have b1 := HO.out.c1; have HG := Lib.hid (Rw.below HG.out hb3); have g0 := HG.out.c0; have g1 := HG.out.c1; have HK := Lib.hid (Rw.below HK.out hb3); have k0 := HK.out.c0; have k1 := HK.out.c1; have HX8 := Lib.hid (Rw.below HX8.out hb3); have x0 := HX8.out.c0; have x1 := HX8.out.c1; have HQ := Lib.hid (QOut.below HQ.out hb3); have HM13 := Lib.hid (Rw.below HM13.out hb3); have mm0 := HM13.out.c0; have mm1 := HM13.out.c1; have HM14 := Lib.hid (Rw.below HM14.out hb3); have pp0 := HM14.out.c0; have pp1 := HM14.out.c1; have HO5 := Lib.hid (Out.below HO5.out hb3); have HPk := Lib.hid (Rw.below HPk.out hb3); have e0 := HPk.out.c0; have e1 := HPk.out.c1; have HW : Hid (Below w.heap.size w _) := Lib.hid (below_step HW.out hb3); have HB : Hid (Below X8.heap.size X8 _) := Lib.hid (below_step HB.out hb3); have HBR : Hid (Below wr.heap.size wr _) := Lib.hid (below_step HBR.out hb3); clear hb3)
      have HLT := HPk.out.lt
      obtain ⟨U3, hU3, HW, HB, HBR, HXx, HO, HG, HK, HX8, HQ, HM13, HM14, HO5, HPk⟩ : ∃ X, (u3.alloc (.cells #[.int .i64 m1, .int .i64 m2] 28)) = X ∧ Hid (Below w.heap.size w X) ∧ Hid (Below X8.heap.size X8 X) ∧ Hid (Below wr.heap.size wr X) ∧ Hid (Rw X u3.heap.size (.int .i64 m1) (.int .i64 m2)) ∧ Hid (Ow X w.heap.size (.slice A ns.length c) (.slice B ss.length d)) ∧ Hid (Rw X (w.heap.size + 1) (.int .i64 N) (.int .i64 D)) ∧ Hid (Rw X (w.heap.size + 1 + 1) (.int .i64 PN) (.int .i64 PD)) ∧ Hid (Rw X gx (.int .i64 N) (.int .i64 D)) ∧ Hid (QOut X (some ⟨g4, p4, none⟩) c4 (cuL ns ss (ns.length + 1))) ∧ Hid (Rw X gm (.int .i64 nN) (.int .i64 nD)) ∧ Hid (Rw X gp (.int .i64 sN) (.int .i64 sD)) ∧ Hid (Out X A5 c5 os) ∧ Hid (Rw X ge (.int .i64 Pk) (.int .i64 Qk)) :=
        ⟨_, rfl, Lib.hid (Below.alloc HW.out HW.out.size _), Lib.hid (Below.alloc HB.out HB.out.size _), Lib.hid (Below.alloc HBR.out HBR.out.size _), Lib.hid (Rw.new _ _ _), Lib.hid (HO.out.alloc _), Lib.hid (HG.out.alloc _), Lib.hid (HK.out.alloc _), Lib.hid (HX8.out.alloc _), Lib.hid (HQ.out.below (Below.alloc (Below.refl _ _) (Nat.le_refl _) _)), Lib.hid (HM13.out.alloc _), Lib.hid (HM14.out.alloc _), Lib.hid (HO5.out.below (Below.alloc (Below.refl _ _) (Nat.le_refl _) _)), Lib.hid (HPk.out.alloc _)⟩
      rw [hU3]
      clear hU3 HLT
      obtain ⟨gs, hgs⟩ : ∃ g, u3.heap.size = g := ⟨_, rfl⟩
      try rw [hgs] at HXx ⊢
      clear hgs
      have b0 := HO.out.c0
      have b1 := HO.out.c1
      have g0 := HG.out.c0
      have g1 := HG.out.c1
      have k0 := HK.out.c0
      have k1 := HK.out.c1
      have x0 := HX8.out.c0
      have x1 := HX8.out.c1
      have mm0 := HM13.out.c0
      have mm1 := HM13.out.c1
      have pp0 := HM14.out.c0
      have pp1 := HM14.out.c1
      have e0 := HPk.out.c0
      have e1 := HPk.out.c1
      have s0 := HXx.out.c0
      have s1 := HXx.out.c1
      go_upto_region 18 with (go_at_call 20; with_reducible refine (HYk.out _ A5 c5 HW.out HO5.out).mono ?_; rintro e u4 ⟨rfl, hb4⟩; have HO := Lib.hid (Ow.below HO.out hb4); have b0 := HO.out.c0; have b1 := HO.out.c1; have HG := Lib.hid (Rw.below HG.out hb4); have g0 := HG.out.c0; have g1 := HG.out.c1; have HK := Lib.hid (Rw.below HK.out hb4); have k0 := HK.out.c0; have k1 := HK.out.c1; have HX8 := Lib.hid (Rw.below HX8.out hb4); have x0 := HX8.out.c0; have x1 := HX8.out.c1; have HQ := Lib.hid (QOut.below HQ.out hb4); have HM13 := Lib.hid (Rw.below HM13.out hb4); have mm0 := HM13.out.c0; have mm1 := HM13.out.c1; have HM14 := Lib.hid (Rw.below HM14.out hb4); have pp0 := HM14.out.c0; have pp1 := HM14.out.c1; have HO5 := Lib.hid (Out.below HO5.out hb4); have HPk := Lib.hid (Rw.below HPk.out hb4); have e0 := HPk.out.c0; have e1 := HPk.out.c1; have HXx := Lib.hid (Rw.below HXx.out hb4); have s0 := HXx.out.c0; have s1 := HXx.out.c1; have HW : Hid (Below w.heap.size w _) := Lib.hid (below_step HW.out hb4); have HB : Hid (Below X8.heap.size X8 _) := Lib.hid (below_step HB.out hb4); have HBR : Hid (Below wr.heap.size wr _) := Lib.hid (below_step HBR.out hb4); clear hb4)
      have HLT := HXx.out.lt
      obtain ⟨U4, hU4, HW, HB, HBR, HYy, HO, HG, HK, HX8, HQ, HM13, HM14, HO5, HPk, HXx⟩ : ∃ X, (u4.alloc (.cells #[.int .i64 m3, .int .i64 m4] 28)) = X ∧ Hid (Below w.heap.size w X) ∧ Hid (Below X8.heap.size X8 X) ∧ Hid (Below wr.heap.size wr X) ∧ Hid (Rw X u4.heap.size (.int .i64 m3) (.int .i64 m4)) ∧ Hid (Ow X w.heap.size (.slice A ns.length c) (.slice B ss.length d)) ∧ Hid (Rw X (w.heap.size + 1) (.int .i64 N) (.int .i64 D)) ∧ Hid (Rw X (w.heap.size + 1 + 1) (.int .i64 PN) (.int .i64 PD)) ∧ Hid (Rw X gx (.int .i64 N) (.int .i64 D)) ∧ Hid (QOut X (some ⟨g4, p4, none⟩) c4 (cuL ns ss (ns.length + 1))) ∧ Hid (Rw X gm (.int .i64 nN) (.int .i64 nD)) ∧ Hid (Rw X gp (.int .i64 sN) (.int .i64 sD)) ∧ Hid (Out X A5 c5 os) ∧ Hid (Rw X ge (.int .i64 Pk) (.int .i64 Qk)) ∧ Hid (Rw X gs (.int .i64 m1) (.int .i64 m2)) :=
        ⟨_, rfl, Lib.hid (Below.alloc HW.out HW.out.size _), Lib.hid (Below.alloc HB.out HB.out.size _), Lib.hid (Below.alloc HBR.out HBR.out.size _), Lib.hid (Rw.new _ _ _), Lib.hid (HO.out.alloc _), Lib.hid (HG.out.alloc _), Lib.hid (HK.out.alloc _), Lib.hid (HX8.out.alloc _), Lib.hid (HQ.out.below (Below.alloc (Below.refl _ _) (Nat.le_refl _) _)), Lib.hid (HM13.out.alloc _), Lib.hid (HM14.out.alloc _), Lib.hid (HO5.out.below (Below.alloc (Below.refl _ _) (Nat.le_refl _) _)), Lib.hid (HPk.out.alloc _), Lib.hid (HXx.out.alloc _)⟩
      rw [hU4]
      clear hU4 HLT
      obtain ⟨gt, hgt⟩ : ∃ g, u4.heap.size = g := ⟨_, rfl⟩
      try rw [hgt] at HYy ⊢
      clear hgt
      have b0 := HO.out.c0
      have b1 := HO.out.c1
      have g0 := HG.out.c0
      have g1 := HG.out.c1
      have k0 := HK.out.c0
      have k1 := HK.out.c1
      have x0 := HX8.out.c0
      have x1 := HX8.out.c1
      have mm0 := HM13.out.c0
      have mm1 := HM13.out.c1
      have pp0 := HM14.out.c0
      have pp1 := HM14.out.c1
      have e0 := HPk.out.c0
      have e1 := HPk.out.c1
      have s0 := HXx.out.c0
      have s1 := HXx.out.c1
      have t0 := HYy.out.c0
      have t1 := HYy.out.c1
      have HCU : Hid (∀ W, Below U4.heap.size U4 W → W.cell? ⟨g4, p4 + k * 4, none⟩ = some (.int .i64 m1) ∧ W.cell? ⟨g4, p4 + k * 4 + 1, none⟩ = some (.int .i64 m2) ∧ W.cell? ⟨g4, p4 + k * 4 + 2, none⟩ = some (.int .i64 m3) ∧ W.cell? ⟨g4, p4 + k * 4 + 3, none⟩ = some (.int .i64 m4)) := Lib.hid fun W hW => ⟨((below_step HBR.out hW).cell (p := ⟨g4, p4 + k * 4, none⟩) hg4).trans r0, ((below_step HBR.out hW).cell (p := ⟨g4, p4 + k * 4 + 1, none⟩) hg4).trans r1, ((below_step HBR.out hW).cell (p := ⟨g4, p4 + k * 4 + 2, none⟩) hg4).trans r2, ((below_step HBR.out hW).cell (p := ⟨g4, p4 + k * 4 + 3, none⟩) hg4).trans r3⟩
      have y0 : ∀ g : Gw U4, g.v.cell? ⟨gs, 0, none⟩ = some (.int .i64 m1) := fun g => (HXx.out.below g.h).c0
      have y1 : ∀ g : Gw U4, g.v.cell? ⟨gs, 1, none⟩ = some (.int .i64 m2) := fun g => (HXx.out.below g.h).c1
      have y2 : ∀ g : Gw U4, g.v.cell? ⟨gt, 0, none⟩ = some (.int .i64 m3) := fun g => (HYy.out.below g.h).c0
      have y3 : ∀ g : Gw U4, g.v.cell? ⟨gt, 1, none⟩ = some (.int .i64 m4) := fun g => (HYy.out.below g.h).c1
      have y4 : ∀ g : Gw U4, g.v.cell? ⟨g4, p4 + k * 4, none⟩ = some (.int .i64 m1) := fun g => ((HCU.out g.v g.h).1)
      have y5 : ∀ g : Gw U4, g.v.cell? ⟨g4, p4 + k * 4 + 1, none⟩ = some (.int .i64 m2) := fun g => ((HCU.out g.v g.h).2.1)
      have y6 : ∀ g : Gw U4, g.v.cell? ⟨g4, p4 + k * 4 + 2, none⟩ = some (.int .i64 m3) := fun g => ((HCU.out g.v g.h).2.2.1)
      have y7 : ∀ g : Gw U4, g.v.cell? ⟨g4, p4 + k * 4 + 3, none⟩ = some (.int .i64 m4) := fun g => ((HCU.out g.v g.h).2.2.2)
      go_wp2
      refine wp_region_grow (by kernel_rfl) (by kernel_rfl) ?_
      repeat (go_big_quiet_step ((first
        | fail)))
      refine wpQuiet_nil ?_
      rintro _ ⟨gq, rfl⟩
      have hX : Below U4.heap.size U4 gq.v := gq.h
      generalize gq.v = U5 at hX ⊢
      have HO := Lib.hid (Ow.below HO.out hX)
      have HG := Lib.hid (Rw.below HG.out hX)
      have HK := Lib.hid (Rw.below HK.out hX)
      have HX8 := Lib.hid (Rw.below HX8.out hX)
      have HQ := Lib.hid (QOut.below HQ.out hX)
      have HM13 := Lib.hid (Rw.below HM13.out hX)
      have HM14 := Lib.hid (Rw.below HM14.out hX)
      have HO5 := Lib.hid (Out.below HO5.out hX)
      have HPk := Lib.hid (Rw.below HPk.out hX)
      have HXx := Lib.hid (Rw.below HXx.out hX)
      have HYy := Lib.hid (Rw.below HYy.out hX)
      have HW : Hid (Below w.heap.size w _) := Lib.hid (below_step HW.out hX)
      have HB : Hid (Below X8.heap.size X8 _) := Lib.hid (below_step HB.out hX)
      have HBR : Hid (Below wr.heap.size wr _) := Lib.hid (below_step HBR.out hX)
      clear hX y0 y1 y2 y3 y4 y5 y6 y7
      have b0 := HO.out.c0
      have b1 := HO.out.c1
      have g0 := HG.out.c0
      have g1 := HG.out.c1
      have k0 := HK.out.c0
      have k1 := HK.out.c1
      have x0 := HX8.out.c0
      have x1 := HX8.out.c1
      have mm0 := HM13.out.c0
      have mm1 := HM13.out.c1
      have pp0 := HM14.out.c0
      have pp1 := HM14.out.c1
      have e0 := HPk.out.c0
      have e1 := HPk.out.c1
      have s0 := HXx.out.c0
      have s1 := HXx.out.c1
      have t0 := HYy.out.c0
      have t1 := HYy.out.c1
      go_upto_region 22 with (go_at_call 36; with_reducible refine (HVz.out _ A5 c5 HW.out HO5.out).mono ?_; rintro e u6 ⟨rfl, hb6⟩; have HO := Lib.hid (Ow.below HO.out hb6); have b0 := HO.out.c0; have b1 := HO.out.c1; have HG := Lib.hid (Rw.below HG.out hb6); have g0 := HG.out.c0; have g1 := HG.out.c1; have HK := Lib.hid (Rw.below HK.out hb6); have k0 := HK.out.c0; have k1 := HK.out.c1; have HX8 := Lib.hid (Rw.below HX8.out hb6); have x0 := HX8.out.c0; have x1 := HX8.out.c1; have HQ := Lib.hid (QOut.below HQ.out hb6); have HM13 := Lib.hid (Rw.below HM13.out hb6); have mm0 := HM13.out.c0; have mm1 := HM13.out.c1; have HM14 := Lib.hid (Rw.below HM14.out hb6); have pp0 := HM14.out.c0; have pp1 := HM14.out.c1; have HO5 := Lib.hid (Out.below HO5.out hb6); have HPk := Lib.hid (Rw.below HPk.out hb6); have e0 := HPk.out.c0; have e1 := HPk.out.c1; have HXx := Lib.hid (Rw.below HXx.out hb6); have s0 := HXx.out.c0; have s1 := HXx.out.c1; have HYy := Lib.hid (Rw.below HYy.out hb6); have t0 := HYy.out.c0; have t1 := HYy.out.c1; have HW : Hid (Below w.heap.size w _) := Lib.hid (below_step HW.out hb6); have HB : Hid (Below X8.heap.size X8 _) := Lib.hid (below_step HB.out hb6); have HBR : Hid (Below wr.heap.size wr _) := Lib.hid (below_step HBR.out hb6); clear hb6)
      go_wp2
      go_roundw
      case rel => exact ⟨k + 1, by omega, by omega, by go_num, HB⟩
      case measure => simp [intOf]; omega
  · clear HVk HFk
    go_upto_region 13 with (go_at_call 26; with_reducible refine (HTk.out _ HW.out).mono ?_; rintro e u1 ⟨A5, c5, rfl, ho, hb1⟩; have HO := Lib.hid (Ow.below HO.out hb1); have b0 := HO.out.c0; have b1 := HO.out.c1; have HG := Lib.hid (Rw.below HG.out hb1); have g0 := HG.out.c0; have g1 := HG.out.c1; have HK := Lib.hid (Rw.below HK.out hb1); have k0 := HK.out.c0; have k1 := HK.out.c1; have HX8 := Lib.hid (Rw.below HX8.out hb1); have x0 := HX8.out.c0; have x1 := HX8.out.c1; have HQ := Lib.hid (QOut.below HQ.out hb1); have HM13 := Lib.hid (Rw.below HM13.out hb1); have mm0 := HM13.out.c0; have mm1 := HM13.out.c1; have HM14 := Lib.hid (Rw.below HM14.out hb1); have pp0 := HM14.out.c0; have pp1 := HM14.out.c1; have HW : Hid (Below w.heap.size w _) := Lib.hid (below_step HW.out hb1); have HB : Hid (Below X8.heap.size X8 _) := Lib.hid (below_step HB.out hb1); have HBR : Hid (Below wr.heap.size wr _) := Lib.hid (below_step HBR.out hb1); have HO5 := Lib.hid ho; clear ho; clear hb1)
    go_upto_region 14 with (go_at_call 28; with_reducible refine (HRk.out _ HW.out).mono ?_; rintro e u2 ⟨rfl, hb2⟩; have HO := Lib.hid (Ow.below HO.out hb2); have b0 := HO.out.c0; have b1 := HO.out.c1; have HG := Lib.hid (Rw.below HG.out hb2); have g0 := HG.out.c0; have g1 := HG.out.c1; have HK := Lib.hid (Rw.below HK.out hb2); have k0 := HK.out.c0; have k1 := HK.out.c1; have HX8 := Lib.hid (Rw.below HX8.out hb2); have x0 := HX8.out.c0; have x1 := HX8.out.c1; have HQ := Lib.hid (QOut.below HQ.out hb2); have HM13 := Lib.hid (Rw.below HM13.out hb2); have mm0 := HM13.out.c0; have mm1 := HM13.out.c1; have HM14 := Lib.hid (Rw.below HM14.out hb2); have pp0 := HM14.out.c0; have pp1 := HM14.out.c1; have HO5 := Lib.hid (Out.below HO5.out hb2); have HW : Hid (Below w.heap.size w _) := Lib.hid (below_step HW.out hb2); have HB : Hid (Below X8.heap.size X8 _) := Lib.hid (below_step HB.out hb2); have HBR : Hid (Below wr.heap.size wr _) := Lib.hid (below_step HBR.out hb2); clear hb2)
    have HLT := HM14.out.lt
    obtain ⟨U2, hU2, HW, HB, HBR, HPk, HO, HG, HK, HX8, HQ, HM13, HM14, HO5⟩ : ∃ X, (u2.alloc (.cells #[.int .i64 Pk, .int .i64 Qk] 28)) = X ∧ Hid (Below w.heap.size w X) ∧ Hid (Below X8.heap.size X8 X) ∧ Hid (Below wr.heap.size wr X) ∧ Hid (Rw X u2.heap.size (.int .i64 Pk) (.int .i64 Qk)) ∧ Hid (Ow X w.heap.size (.slice A ns.length c) (.slice B ss.length d)) ∧ Hid (Rw X (w.heap.size + 1) (.int .i64 N) (.int .i64 D)) ∧ Hid (Rw X (w.heap.size + 1 + 1) (.int .i64 PN) (.int .i64 PD)) ∧ Hid (Rw X gx (.int .i64 N) (.int .i64 D)) ∧ Hid (QOut X (some ⟨g4, p4, none⟩) c4 (cuL ns ss (ns.length + 1))) ∧ Hid (Rw X gm (.int .i64 nN) (.int .i64 nD)) ∧ Hid (Rw X gp (.int .i64 sN) (.int .i64 sD)) ∧ Hid (Out X A5 c5 os) :=
      ⟨_, rfl, Lib.hid (Below.alloc HW.out HW.out.size _), Lib.hid (Below.alloc HB.out HB.out.size _), Lib.hid (Below.alloc HBR.out HBR.out.size _), Lib.hid (Rw.new _ _ _), Lib.hid (HO.out.alloc _), Lib.hid (HG.out.alloc _), Lib.hid (HK.out.alloc _), Lib.hid (HX8.out.alloc _), Lib.hid (HQ.out.below (Below.alloc (Below.refl _ _) (Nat.le_refl _) _)), Lib.hid (HM13.out.alloc _), Lib.hid (HM14.out.alloc _), Lib.hid (HO5.out.below (Below.alloc (Below.refl _ _) (Nat.le_refl _) _))⟩
    rw [hU2]
    clear hU2 HLT
    obtain ⟨ge, hge⟩ : ∃ g, u2.heap.size = g := ⟨_, rfl⟩
    try rw [hge] at HPk ⊢
    clear hge
    have b0 := HO.out.c0
    have b1 := HO.out.c1
    have g0 := HG.out.c0
    have g1 := HG.out.c1
    have k0 := HK.out.c0
    have k1 := HK.out.c1
    have x0 := HX8.out.c0
    have x1 := HX8.out.c1
    have mm0 := HM13.out.c0
    have mm1 := HM13.out.c1
    have pp0 := HM14.out.c0
    have pp1 := HM14.out.c1
    have e0 := HPk.out.c0
    have e1 := HPk.out.c1
    go_upto_region 17 with (go_at_call 18; with_reducible refine (HXk.out _ A5 c5 HW.out HO5.out).mono ?_; rintro e u3 ⟨rfl, hb3⟩; have HO := Lib.hid (Ow.below HO.out hb3); have b0 := HO.out.c0; have b1 := HO.out.c1; have HG := Lib.hid (Rw.below HG.out hb3); have g0 := HG.out.c0; have g1 := HG.out.c1; have HK := Lib.hid (Rw.below HK.out hb3); have k0 := HK.out.c0; have k1 := HK.out.c1; have HX8 := Lib.hid (Rw.below HX8.out hb3); have x0 := HX8.out.c0; have x1 := HX8.out.c1; have HQ := Lib.hid (QOut.below HQ.out hb3); have HM13 := Lib.hid (Rw.below HM13.out hb3); have mm0 := HM13.out.c0; have mm1 := HM13.out.c1; have HM14 := Lib.hid (Rw.below HM14.out hb3); have pp0 := HM14.out.c0; have pp1 := HM14.out.c1; have HO5 := Lib.hid (Out.below HO5.out hb3); have HPk := Lib.hid (Rw.below HPk.out hb3); have e0 := HPk.out.c0; have e1 := HPk.out.c1; have HW : Hid (Below w.heap.size w _) := Lib.hid (below_step HW.out hb3); have HB : Hid (Below X8.heap.size X8 _) := Lib.hid (below_step HB.out hb3); have HBR : Hid (Below wr.heap.size wr _) := Lib.hid (below_step HBR.out hb3); clear hb3)
    have HLT := HPk.out.lt
    obtain ⟨U3, hU3, HW, HB, HBR, HXx, HO, HG, HK, HX8, HQ, HM13, HM14, HO5, HPk⟩ : ∃ X, (u3.alloc (.cells #[.int .i64 m1, .int .i64 m2] 28)) = X ∧ Hid (Below w.heap.size w X) ∧ Hid (Below X8.heap.size X8 X) ∧ Hid (Below wr.heap.size wr X) ∧ Hid (Rw X u3.heap.size (.int .i64 m1) (.int .i64 m2)) ∧ Hid (Ow X w.heap.size (.slice A ns.length c) (.slice B ss.length d)) ∧ Hid (Rw X (w.heap.size + 1) (.int .i64 N) (.int .i64 D)) ∧ Hid (Rw X (w.heap.size + 1 + 1) (.int .i64 PN) (.int .i64 PD)) ∧ Hid (Rw X gx (.int .i64 N) (.int .i64 D)) ∧ Hid (QOut X (some ⟨g4, p4, none⟩) c4 (cuL ns ss (ns.length + 1))) ∧ Hid (Rw X gm (.int .i64 nN) (.int .i64 nD)) ∧ Hid (Rw X gp (.int .i64 sN) (.int .i64 sD)) ∧ Hid (Out X A5 c5 os) ∧ Hid (Rw X ge (.int .i64 Pk) (.int .i64 Qk)) :=
      ⟨_, rfl, Lib.hid (Below.alloc HW.out HW.out.size _), Lib.hid (Below.alloc HB.out HB.out.size _), Lib.hid (Below.alloc HBR.out HBR.out.size _), Lib.hid (Rw.new _ _ _), Lib.hid (HO.out.alloc _), Lib.hid (HG.out.alloc _), Lib.hid (HK.out.alloc _), Lib.hid (HX8.out.alloc _), Lib.hid (HQ.out.below (Below.alloc (Below.refl _ _) (Nat.le_refl _) _)), Lib.hid (HM13.out.alloc _), Lib.hid (HM14.out.alloc _), Lib.hid (HO5.out.below (Below.alloc (Below.refl _ _) (Nat.le_refl _) _)), Lib.hid (HPk.out.alloc _)⟩
    rw [hU3]
    clear hU3 HLT
    obtain ⟨gs, hgs⟩ : ∃ g, u3.heap.size = g := ⟨_, rfl⟩
    try rw [hgs] at HXx ⊢
    clear hgs
    have b0 := HO.out.c0
    have b1 := HO.out.c1
    have g0 := HG.out.c0
    have g1 := HG.out.c1
    have k0 := HK.out.c0
    have k1 := HK.out.c1
    have x0 := HX8.out.c0
    have x1 := HX8.out.c1
    have mm0 := HM13.out.c0
    have mm1 := HM13.out.c1
    have pp0 := HM14.out.c0
    have pp1 := HM14.out.c1
    have e0 := HPk.out.c0
    have e1 := HPk.out.c1
    have s0 := HXx.out.c0
    have s1 := HXx.out.c1
    go_upto_region 18 with (go_at_call 20; with_reducible refine (HYk.out _ A5 c5 HW.out HO5.out).mono ?_; rintro e u4 ⟨rfl, hb4⟩; have HO := Lib.hid (Ow.below HO.out hb4); have b0 := HO.out.c0; have b1 := HO.out.c1; have HG := Lib.hid (Rw.below HG.out hb4); have g0 := HG.out.c0; have g1 := HG.out.c1; have HK := Lib.hid (Rw.below HK.out hb4); have k0 := HK.out.c0; have k1 := HK.out.c1; have HX8 := Lib.hid (Rw.below HX8.out hb4); have x0 := HX8.out.c0; have x1 := HX8.out.c1; have HQ := Lib.hid (QOut.below HQ.out hb4); have HM13 := Lib.hid (Rw.below HM13.out hb4); have mm0 := HM13.out.c0; have mm1 := HM13.out.c1; have HM14 := Lib.hid (Rw.below HM14.out hb4); have pp0 := HM14.out.c0; have pp1 := HM14.out.c1; have HO5 := Lib.hid (Out.below HO5.out hb4); have HPk := Lib.hid (Rw.below HPk.out hb4); have e0 := HPk.out.c0; have e1 := HPk.out.c1; have HXx := Lib.hid (Rw.below HXx.out hb4); have s0 := HXx.out.c0; have s1 := HXx.out.c1; have HW : Hid (Below w.heap.size w _) := Lib.hid (below_step HW.out hb4); have HB : Hid (Below X8.heap.size X8 _) := Lib.hid (below_step HB.out hb4); have HBR : Hid (Below wr.heap.size wr _) := Lib.hid (below_step HBR.out hb4); clear hb4)
    have HLT := HXx.out.lt
    obtain ⟨U4, hU4, HW, HB, HBR, HYy, HO, HG, HK, HX8, HQ, HM13, HM14, HO5, HPk, HXx⟩ : ∃ X, (u4.alloc (.cells #[.int .i64 m3, .int .i64 m4] 28)) = X ∧ Hid (Below w.heap.size w X) ∧ Hid (Below X8.heap.size X8 X) ∧ Hid (Below wr.heap.size wr X) ∧ Hid (Rw X u4.heap.size (.int .i64 m3) (.int .i64 m4)) ∧ Hid (Ow X w.heap.size (.slice A ns.length c) (.slice B ss.length d)) ∧ Hid (Rw X (w.heap.size + 1) (.int .i64 N) (.int .i64 D)) ∧ Hid (Rw X (w.heap.size + 1 + 1) (.int .i64 PN) (.int .i64 PD)) ∧ Hid (Rw X gx (.int .i64 N) (.int .i64 D)) ∧ Hid (QOut X (some ⟨g4, p4, none⟩) c4 (cuL ns ss (ns.length + 1))) ∧ Hid (Rw X gm (.int .i64 nN) (.int .i64 nD)) ∧ Hid (Rw X gp (.int .i64 sN) (.int .i64 sD)) ∧ Hid (Out X A5 c5 os) ∧ Hid (Rw X ge (.int .i64 Pk) (.int .i64 Qk)) ∧ Hid (Rw X gs (.int .i64 m1) (.int .i64 m2)) :=
      ⟨_, rfl, Lib.hid (Below.alloc HW.out HW.out.size _), Lib.hid (Below.alloc HB.out HB.out.size _), Lib.hid (Below.alloc HBR.out HBR.out.size _), Lib.hid (Rw.new _ _ _), Lib.hid (HO.out.alloc _), Lib.hid (HG.out.alloc _), Lib.hid (HK.out.alloc _), Lib.hid (HX8.out.alloc _), Lib.hid (HQ.out.below (Below.alloc (Below.refl _ _) (Nat.le_refl _) _)), Lib.hid (HM13.out.alloc _), Lib.hid (HM14.out.alloc _), Lib.hid (HO5.out.below (Below.alloc (Below.refl _ _) (Nat.le_refl _) _)), Lib.hid (HPk.out.alloc _), Lib.hid (HXx.out.alloc _)⟩
    rw [hU4]
    clear hU4 HLT
    obtain ⟨gt, hgt⟩ : ∃ g, u4.heap.size = g := ⟨_, rfl⟩
    try rw [hgt] at HYy ⊢
    clear hgt
    have b0 := HO.out.c0
    have b1 := HO.out.c1
    have g0 := HG.out.c0
    have g1 := HG.out.c1
    have k0 := HK.out.c0
    have k1 := HK.out.c1
    have x0 := HX8.out.c0
    have x1 := HX8.out.c1
    have mm0 := HM13.out.c0
    have mm1 := HM13.out.c1
    have pp0 := HM14.out.c0
    have pp1 := HM14.out.c1
    have e0 := HPk.out.c0
    have e1 := HPk.out.c1
    have s0 := HXx.out.c0
    have s1 := HXx.out.c1
    have t0 := HYy.out.c0
    have t1 := HYy.out.c1
    have HCU : Hid (∀ W, Below U4.heap.size U4 W → W.cell? ⟨g4, p4 + k * 4, none⟩ = some (.int .i64 m1) ∧ W.cell? ⟨g4, p4 + k * 4 + 1, none⟩ = some (.int .i64 m2) ∧ W.cell? ⟨g4, p4 + k * 4 + 2, none⟩ = some (.int .i64 m3) ∧ W.cell? ⟨g4, p4 + k * 4 + 3, none⟩ = some (.int .i64 m4)) := Lib.hid fun W hW => ⟨((below_step HBR.out hW).cell (p := ⟨g4, p4 + k * 4, none⟩) hg4).trans r0, ((below_step HBR.out hW).cell (p := ⟨g4, p4 + k * 4 + 1, none⟩) hg4).trans r1, ((below_step HBR.out hW).cell (p := ⟨g4, p4 + k * 4 + 2, none⟩) hg4).trans r2, ((below_step HBR.out hW).cell (p := ⟨g4, p4 + k * 4 + 3, none⟩) hg4).trans r3⟩
    have y0 : ∀ g : Gw U4, g.v.cell? ⟨gs, 0, none⟩ = some (.int .i64 m1) := fun g => (HXx.out.below g.h).c0
    have y1 : ∀ g : Gw U4, g.v.cell? ⟨gs, 1, none⟩ = some (.int .i64 m2) := fun g => (HXx.out.below g.h).c1
    have y2 : ∀ g : Gw U4, g.v.cell? ⟨gt, 0, none⟩ = some (.int .i64 m3) := fun g => (HYy.out.below g.h).c0
    have y3 : ∀ g : Gw U4, g.v.cell? ⟨gt, 1, none⟩ = some (.int .i64 m4) := fun g => (HYy.out.below g.h).c1
    have y4 : ∀ g : Gw U4, g.v.cell? ⟨g4, p4 + k * 4, none⟩ = some (.int .i64 m1) := fun g => ((HCU.out g.v g.h).1)
    have y5 : ∀ g : Gw U4, g.v.cell? ⟨g4, p4 + k * 4 + 1, none⟩ = some (.int .i64 m2) := fun g => ((HCU.out g.v g.h).2.1)
    have y6 : ∀ g : Gw U4, g.v.cell? ⟨g4, p4 + k * 4 + 2, none⟩ = some (.int .i64 m3) := fun g => ((HCU.out g.v g.h).2.2.1)
    have y7 : ∀ g : Gw U4, g.v.cell? ⟨g4, p4 + k * 4 + 3, none⟩ = some (.int .i64 m4) := fun g => ((HCU.out g.v g.h).2.2.2)
    go_wp2
    refine wp_region_grow (by kernel_rfl) (by kernel_rfl) ?_
    repeat (go_big_quiet_step ((first
      | fail)))
    refine wpQuiet_nil ?_
    rintro _ ⟨gq, rfl⟩
    have hX : Below U4.heap.size U4 gq.v := gq.h
    generalize gq.v = U5 at hX ⊢
    have HO := Lib.hid (Ow.below HO.out hX)
    have HG := Lib.hid (Rw.below HG.out hX)
    have HK := Lib.hid (Rw.below HK.out hX)
    have HX8 := Lib.hid (Rw.below HX8.out hX)
    have HQ := Lib.hid (QOut.below HQ.out hX)
    have HM13 := Lib.hid (Rw.below HM13.out hX)
    have HM14 := Lib.hid (Rw.below HM14.out hX)
    have HO5 := Lib.hid (Out.below HO5.out hX)
    have HPk := Lib.hid (Rw.below HPk.out hX)
    have HXx := Lib.hid (Rw.below HXx.out hX)
    have HYy := Lib.hid (Rw.below HYy.out hX)
    have HW : Hid (Below w.heap.size w _) := Lib.hid (below_step HW.out hX)
    have HB : Hid (Below X8.heap.size X8 _) := Lib.hid (below_step HB.out hX)
    have HBR : Hid (Below wr.heap.size wr _) := Lib.hid (below_step HBR.out hX)
    clear hX y0 y1 y2 y3 y4 y5 y6 y7
    have b0 := HO.out.c0
    have b1 := HO.out.c1
    have g0 := HG.out.c0
    have g1 := HG.out.c1
    have k0 := HK.out.c0
    have k1 := HK.out.c1
    have x0 := HX8.out.c0
    have x1 := HX8.out.c1
    have mm0 := HM13.out.c0
    have mm1 := HM13.out.c1
    have pp0 := HM14.out.c0
    have pp1 := HM14.out.c1
    have e0 := HPk.out.c0
    have e1 := HPk.out.c1
    have s0 := HXx.out.c0
    have s1 := HXx.out.c1
    have t0 := HYy.out.c0
    have t1 := HYy.out.c1
    go_wp2
    go_roundw
    case rel => exact ⟨k + 1, by omega, by omega, by go_num, HB⟩
    case measure => simp [intOf]; omega
end Go.Proofs.Ytolpbbabmcpdkaa
