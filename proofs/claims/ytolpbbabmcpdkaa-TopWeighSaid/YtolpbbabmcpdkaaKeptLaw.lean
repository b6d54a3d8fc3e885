/-
  Contracts: IsPrice (firnref07), less, small, kept (firnlaw07).
-/
import Derived.Test.YtolpbbabmcpdkaaNoise
import Derived.Test.YtolpbbabmcpdkaaAt
set_option linter.unusedVariables false
set_option linter.unusedSimpArgs false
namespace Go.Proofs.Ytolpbbabmcpdkaa
open Go.RowKit Go.Shelf

set_option maxRecDepth 100000 in
theorem isPrice_any (p q : Int) (w : World) :
    Calls Try.prog 56 #[.agg #[.int .i64 p, .int .i64 q]] w fun e w' => e = .returned (.bool (okP p q)) ∧ Below w.heap.size w w' := by
  obtain ⟨t1, h1⟩ : ∃ x, decide (1 ≤ q) = x := ⟨_, rfl⟩
  obtain ⟨t2, h2⟩ : ∃ x, decide (q ≤ 10000000) = x := ⟨_, rfl⟩
  obtain ⟨t3, h3⟩ : ∃ x, decide (0 ≤ p) = x := ⟨_, rfl⟩
  have HR : Hid (okP p q = ((t1 && t2) && (t3 && decide (p ≤ 1000000000)))) := Lib.hid (by unfold okP; rw [h1, h2, h3])
  cases t1 <;> cases t2 <;> cases t3 <;> (
    go_enter Try.func56, Try.ntmps56
    go_wp2
    go_ret
    exact ⟨ret_bool (by rw [HR.out]; rfl), (by repeat (first | with_reducible exact Below.refl _ _ | with_reducible assumption | refine below_drewN ?_ _ | with_reducible refine Below.drew ?_ | (refine Below.setCell ?_ (by first | (simp; done) | (simp; omega) | omega) _) | (refine Below.alloc ?_ (by first | (simp; done) | (simp; omega) | omega) _)))⟩)
set_option maxRecDepth 100000 in
theorem lessR_any (a b x y : Int) (w : World) (ha : -2000000000 ≤ a ∧ a ≤ 2000000000) (hb : 0 ≤ b ∧ b ≤ 2000000000) (hx : -2000000000 ≤ x ∧ x ≤ 2000000000) (hy : 0 ≤ y ∧ y ≤ 2000000000) :
    Calls Try.prog 54 #[.agg #[.int .i64 a, .int .i64 b], .agg #[.int .i64 x, .int .i64 y]] w fun e w' => e = .returned (.bool (decide (a * y < x * b))) ∧ Below w.heap.size w w' := by
  have m1 : -4000000000000000000 ≤ a * y ∧ a * y ≤ 4000000000000000000 := by
    rcases Int.le_total 0 a with h | h
    · have := mul_bd h ha.2 hy.1 hy.2; omega
    · have := mul_bd (a := -a) (b := y) (A := 2000000000) (B := 2000000000) (by omega) (by omega) hy.1 hy.2
      rw [Int.neg_mul] at this; omega
  have m2 : -4000000000000000000 ≤ x * b ∧ x * b ≤ 4000000000000000000 := by
    rcases Int.le_total 0 x with h | h
    · have := mul_bd h hx.2 hb.1 hb.2; omega
    · have := mul_bd (a := -x) (b := b) (A := 2000000000) (B := 2000000000) (by omega) (by omega) hb.1 hb.2
      rw [Int.neg_mul] at this; omega
  go_enter Try.func54, Try.ntmps54
  go_wp2
  go_ret
  exact ⟨rfl, (by repeat (first | with_reducible exact Below.refl _ _ | with_reducible assumption | refine below_drewN ?_ _ | with_reducible refine Below.drew ?_ | (refine Below.setCell ?_ (by first | (simp; done) | (simp; omega) | omega) _) | (refine Below.alloc ?_ (by first | (simp; done) | (simp; omega) | omega) _)))⟩
/-- A ratio from 0 to 1 with a small denominator. -/
def smB (n d : Int) : Bool := ((decide (1 ≤ d) && decide (d ≤ 200000000)) && decide (0 ≤ n)) && decide (n ≤ d)
set_option maxRecDepth 100000 in
theorem small_any (n d : Int) (w : World) :
    Calls Try.prog 57 #[.agg #[.int .i64 n, .int .i64 d]] w fun e w' => e = .returned (.bool (smB n d)) ∧ Below w.heap.size w w' := by
  obtain ⟨t1, h1⟩ : ∃ x, decide (1 ≤ d) = x := ⟨_, rfl⟩
  obtain ⟨t2, h2⟩ : ∃ x, decide (d ≤ 200000000) = x := ⟨_, rfl⟩
  obtain ⟨t3, h3⟩ : ∃ x, decide (0 ≤ n) = x := ⟨_, rfl⟩
  have HR : Hid (smB n d = (((t1 && t2) && t3) && decide (n ≤ d))) := Lib.hid (by unfold smB; rw [h1, h2, h3])
  cases t1 <;> cases t2 <;> cases t3 <;> (
    go_enter Try.func57, Try.ntmps57
    go_wp2
    go_ret
    exact ⟨ret_bool (by rw [HR.out]; rfl), (by repeat (first | with_reducible exact Below.refl _ _ | with_reducible assumption | refine below_drewN ?_ _ | with_reducible refine Below.drew ?_ | (refine Below.setCell ?_ (by first | (simp; done) | (simp; omega) | omega) _) | (refine Below.alloc ?_ (by first | (simp; done) | (simp; omega) | omega) _)))⟩)
theorem low_pos {k s : Int} (h0 : 0 ≤ k) (hs : 0 < s) : 0 ≤ lowN k s := Int.ediv_nonneg h0 (Int.natCast_nonneg _)
theorem low_mul {k s : Int} (hs : 0 < s) : lowN k s * (Int.gcd k s : Int) = k ∧ lowD k s * (Int.gcd k s : Int) = s := ⟨Int.ediv_mul_cancel (Int.gcd_dvd_left k s), Int.ediv_mul_cancel (Int.gcd_dvd_right k s)⟩
theorem low_le {k s : Int} (h : k ≤ s) (hs : 0 < s) : lowN k s ≤ lowD k s := by
  have hg := gcd_pos (n := k) hs
  obtain ⟨e1, e2⟩ := low_mul (k := k) hs
  exact Int.le_of_mul_le_mul_right (show lowN k s * (Int.gcd k s : Int) ≤ lowD k s * (Int.gcd k s : Int) by rw [e1, e2]; exact h) hg
theorem sm_low {k s : Int} (h0 : 0 ≤ k) (h1 : k ≤ s) (hs : 0 < s) (hm : s ≤ 200000000) : smB (lowN k s) (lowD k s) = true := by
  have a := lowD_bd (n := k) hs
  have b := low_pos h0 hs
  have c := low_le h1 hs
  unfold smB
  simp only [Bool.and_eq_true, decide_eq_true_eq]; omega
theorem sm_of {n d : Int} (h : smB n d = true) : 1 ≤ d ∧ d ≤ 200000000 ∧ 0 ≤ n ∧ n ≤ d := by
  unfold smB at h
  simp only [Bool.and_eq_true, decide_eq_true_eq] at h; omega
/-- Cross products of ratios in lowest terms. -/
theorem low_cross {a b x y : Int} (hb : 0 < b) (hy : 0 < y) : (lowN a b * lowD x y < lowN x y * lowD a b) ↔ (a * y < x * b) := by
  obtain ⟨e1, e2⟩ := low_mul (k := a) hb
  obtain ⟨e3, e4⟩ := low_mul (k := x) hy
  have g1 := gcd_pos (n := a) hb
  have g2 := gcd_pos (n := x) hy
  generalize lowN a b = p at *
  generalize lowD a b = q at *
  generalize lowN x y = u at *
  generalize lowD x y = v at *
  generalize (Int.gcd a b : Int) = g at *
  generalize (Int.gcd x y : Int) = h at *
  subst e1 e2 e3 e4
  have hgh : 0 < g * h := Int.mul_pos g1 g2
  have r1 : p * g * (v * h) = (p * v) * (g * h) := by grind
  have r2 : u * h * (q * g) = (u * q) * (g * h) := by grind
  rw [r1, r2]
  exact ⟨fun k => Int.mul_lt_mul_of_pos_right k hgh, fun k => Int.lt_of_mul_lt_mul_right k (by omega)⟩
theorem cell_setS {w : World} {p : Addr} {u v : Value} (h : w.cell? p = some u) : (w.setCell p v).cell? p = some v := World.cell?_setCell_same w p v (by rw [h])
theorem cell_setO (w : World) {g i j : Nat} {v : Value} (h : i ≠ j) : (w.setCell ⟨g, i, none⟩ v).cell? ⟨g, j, none⟩ = w.cell? ⟨g, j, none⟩ := World.cell?_setCell_other w _ _ v (by intro e; cases e; exact h rfl)

theorem st2_c0 {w : World} {g : Nat} {a u v : Value} (h : w.cell? ⟨g, 0, none⟩ = some a) : ((w.setCell ⟨g, 0, none⟩ u).setCell ⟨g, 1, none⟩ v).cell? ⟨g, 0, none⟩ = some u := (cell_setO _ (by decide)).trans (cell_setS h)
theorem st2_c1 {w : World} {g : Nat} {a u v : Value} (h : w.cell? ⟨g, 1, none⟩ = some a) : ((w.setCell ⟨g, 0, none⟩ u).setCell ⟨g, 1, none⟩ v).cell? ⟨g, 1, none⟩ = some v := cell_setS ((cell_setO _ (by decide)).trans h)
theorem st2_old (w : World) {g j : Nat} {u v : Value} (hne : j ≠ g) : ((w.setCell ⟨g, 0, none⟩ u).setCell ⟨g, 1, none⟩ v).heap[j]? = w.heap[j]? :=
  (heap_setCell_other _ _ _ _ hne).trans (heap_setCell_other _ _ _ _ hne)
theorem st2_new (w : World) {g : Nat} {a b u v : Value} {t : TypeId} (h : w.heap[g]? = some (.cells #[a, b] t (0, 0))) : ((w.setCell ⟨g, 0, none⟩ u).setCell ⟨g, 1, none⟩ v).heap[g]? = some (.cells #[u, v] t (0, 0)) :=
  heap_setCell_same _ _ 1 _ _ _ (heap_setCell_same _ _ 0 _ _ _ h)
theorem st2_below {w0 w : World} {B g : Nat} {u v : Value} (h : Below B w0 w) (hg : B ≤ g) : Below B w0 ((w.setCell ⟨g, 0, none⟩ u).setCell ⟨g, 1, none⟩ v) := (h.setCell hg _).setCell hg _

set_option maxRecDepth 100000 in
set_option maxHeartbeats 2000000 in
theorem keptLaw_any (ns ss cs : List Int) (A B C : Option Addr) (c d e1 : Nat) (w : World) (hA : Ints w A ns) (hB : Ints w B ss) (hC : Ints w C cs) (hl3 : cs.length ≤ 1000) (hv : odB ns ss = true) (hq : cutB ns.length cs = true) :
    Calls Try.prog 53 #[.agg #[.slice A ns.length c, .slice B ss.length d], .slice C cs.length e1] w fun e w' => e = .returned (.tuple #[.agg #[.int .i64 (lowN (keptL ns cs) ns.sum), .int .i64 (lowD (keptL ns cs) ns.sum)], .agg #[.int .i64 (lowN (keptL ss cs) ss.sum), .int .i64 (lowD (keptL ss cs) ss.sum)], .bool true]) ∧ Below w.heap.size w w' := by
  have ho := od_of hv
  have hk := ho.kb hq
  have HA := Lib.hid hA
  have HB := Lib.hid hB
  have HC := Lib.hid hC
  have HV := Lib.hid hv
  have HQ := Lib.hid hq
  have S1 := Lib.hid (sm_low hk.1.1 hk.1.2 ho.np (by have := ho.nm; omega))
  have S2 := Lib.hid (sm_low hk.2.1 hk.2.2 ho.sp (by have := ho.sm; omega))
  have N1 := Lib.hid (wNoise_yes ns ss cs A B C c d e1)
  have N2 := Lib.hid (wSignal_yes ns ss cs A B C c d e1)
  generalize lowN (keptL ns cs) ns.sum = n1 at *
  generalize lowD (keptL ns cs) ns.sum = d1 at *
  generalize lowN (keptL ss cs) ss.sum = n2 at *
  generalize lowD (keptL ss cs) ss.sum = d2 at *
  clear hA hB hC hv hq hk
  obtain ⟨W0, hW0, HW, H0, H1, H2, z0, z1, z2⟩ := three_new1 w #[.slice A ns.length c, .slice B ss.length d] #[.int .i64 0, .int .i64 0] #[.int .i64 0, .int .i64 0] 24 28 28
  have n12 : w.heap.size + 1 ≠ w.heap.size + 1 + 1 := by omega
  have n21 : w.heap.size + 1 + 1 ≠ w.heap.size + 1 := by omega
  go_enter Try.func53, Try.ntmps53
  go_wp2_with (first
    | (go_at_call 17; with_reducible refine (N1.out _ (HA.out.below (by repeat (first | with_reducible exact Below.refl _ _ | with_reducible assumption | refine below_drewN ?_ _ | with_reducible refine Below.drew ?_ | (refine Below.setCell ?_ (by first | (simp; done) | (simp; omega) | omega) _) | (refine Below.alloc ?_ (by first | (simp; done) | (simp; omega) | omega) _)))) (HB.out.below (by repeat (first | with_reducible exact Below.refl _ _ | with_reducible assumption | refine below_drewN ?_ _ | with_reducible refine Below.drew ?_ | (refine Below.setCell ?_ (by first | (simp; done) | (simp; omega) | omega) _) | (refine Below.alloc ?_ (by first | (simp; done) | (simp; omega) | omega) _)))) (HC.out.below (by repeat (first | with_reducible exact Below.refl _ _ | with_reducible assumption | refine below_drewN ?_ _ | with_reducible refine Below.drew ?_ | (refine Below.setCell ?_ (by first | (simp; done) | (simp; omega) | omega) _) | (refine Below.alloc ?_ (by first | (simp; done) | (simp; omega) | omega) _)))) hl3 HV.out HQ.out).mono ?_; rintro e w1 ⟨rfl, hB1⟩; rw [← hW0] at hB1; have H0 := Lib.hid ((hB1.block _ z0).trans H0.out); have z0 := Nat.lt_of_lt_of_le z0 hB1.size; have b0 : World.cell? _ ⟨_, 0, none⟩ = some (.slice A ns.length c) := blk_cell H0.out 0 rfl; have b1 : World.cell? _ ⟨_, 1, none⟩ = some (.slice B ss.length d) := blk_cell H0.out 1 rfl; have H1 := Lib.hid ((hB1.block _ z1).trans H1.out); have z1 := Nat.lt_of_lt_of_le z1 hB1.size; have c0 : World.cell? _ ⟨_, 0, none⟩ = some (.int .i64 0) := blk_cell H1.out 0 rfl; have c1 : World.cell? _ ⟨_, 1, none⟩ = some (.int .i64 0) := blk_cell H1.out 1 rfl; have cf0 := blk_frozen H1.out 0; have cf1 := blk_frozen H1.out 1; have H2 := Lib.hid ((hB1.block _ z2).trans H2.out); have z2 := Nat.lt_of_lt_of_le z2 hB1.size; have x0 : World.cell? _ ⟨_, 0, none⟩ = some (.int .i64 0) := blk_cell H2.out 0 rfl; have x1 : World.cell? _ ⟨_, 1, none⟩ = some (.int .i64 0) := blk_cell H2.out 1 rfl; have xf0 := blk_frozen H2.out 0; have xf1 := blk_frozen H2.out 1; have HW : Hid (Below w.heap.size w _) := Lib.hid (below_step (by first | exact HW.out | exact Below.drew HW.out | exact below_drewN HW.out _) hB1); clear hB1)
    | (go_at_call 19; with_reducible refine (N2.out _ (HA.out.below (by repeat (first | with_reducible exact HW.out | with_reducible exact Below.refl _ _ | with_reducible refine below_drewN ?_ _ | with_reducible refine Below.drew ?_ | (with_reducible refine Below.setCell ?_ (by first | exact Nat.le_refl _ | exact Nat.le_succ _ | (simp; done) | (simp; omega) | omega) _) | (with_reducible refine Below.alloc ?_ (by first | exact HW.out.size | (simp; done) | (simp; omega) | omega) _)))) (HB.out.below (by repeat (first | with_reducible exact HW.out | with_reducible exact Below.refl _ _ | with_reducible refine below_drewN ?_ _ | with_reducible refine Below.drew ?_ | (with_reducible refine Below.setCell ?_ (by first | exact Nat.le_refl _ | exact Nat.le_succ _ | (simp; done) | (simp; omega) | omega) _) | (with_reducible refine Below.alloc ?_ (by first | exact HW.out.size | (simp; done) | (simp; omega) | omega) _)))) (HC.out.below (by repeat (first | with_reducible exact HW.out | with_reducible exact Below.refl _ _ | with_reducible refine below_drewN ?_ _ | with_reducible refine Below.drew ?_ | (with_reducible refine Below.setCell ?_ (by first | exact Nat.le_refl _ | exact Nat.le_succ _ | (simp; done) | (simp; omega) | omega) _) | (with_reducible refine Below.alloc ?_ (by first | exact HW.out.size | (simp; done) | (simp; omega) | omega) _)))) hl3 HV.out HQ.out).mono ?_; rintro e w2 ⟨rfl, hB2⟩; obtain ⟨X1, hX1⟩ : ∃ X, ((w1.setCell ⟨w.heap.size + 1, 0, none⟩ (.int .i64 n1)).setCell ⟨w.heap.size + 1, 1, none⟩ (.int .i64 d1)) = X := ⟨_, rfl⟩; have H0 := Lib.hid ((st2_old w1 (g := w.heap.size + 1) (u := .int .i64 n1) (v := .int .i64 d1) (by omega)).trans H0.out); rw [hX1] at H0; have z0 := (Array.getElem?_eq_some_iff.1 H0.out).1; have b0 : World.cell? _ ⟨_, 0, none⟩ = some (.slice A ns.length c) := blk_cell H0.out 0 rfl; have b1 : World.cell? _ ⟨_, 1, none⟩ = some (.slice B ss.length d) := blk_cell H0.out 1 rfl; have H1 := Lib.hid (st2_new w1 (u := .int .i64 n1) (v := .int .i64 d1) H1.out); rw [hX1] at H1; have z1 := (Array.getElem?_eq_some_iff.1 H1.out).1; have c0 : World.cell? _ ⟨_, 0, none⟩ = some (.int .i64 n1) := blk_cell H1.out 0 rfl; have c1 : World.cell? _ ⟨_, 1, none⟩ = some (.int .i64 d1) := blk_cell H1.out 1 rfl; have cf0 := blk_frozen H1.out 0; have cf1 := blk_frozen H1.out 1; have H2 := Lib.hid ((st2_old w1 (g := w.heap.size + 1) (u := .int .i64 n1) (v := .int .i64 d1) (by omega)).trans H2.out); rw [hX1] at H2; have z2 := (Array.getElem?_eq_some_iff.1 H2.out).1; have x0 : World.cell? _ ⟨_, 0, none⟩ = some (.int .i64 0) := blk_cell H2.out 0 rfl; have x1 : World.cell? _ ⟨_, 1, none⟩ = some (.int .i64 0) := blk_cell H2.out 1 rfl; have xf0 := blk_frozen H2.out 0; have xf1 := blk_frozen H2.out 1; have HW := Lib.hid (st2_below (u := .int .i64 n1) (v := .int .i64 d1) HW.out (show w.heap.size ≤ w.heap.size + 1 by omega)); rw [hX1] at HW; rw [hX1] at hB2; clear hX1; have H0 := Lib.hid ((hB2.block _ z0).trans H0.out); have z0 := Nat.lt_of_lt_of_le z0 hB2.size; have b0 : World.cell? _ ⟨_, 0, none⟩ = some (.slice A ns.length c) := blk_cell H0.out 0 rfl; have b1 : World.cell? _ ⟨_, 1, none⟩ = some (.slice B ss.length d) := blk_cell H0.out 1 rfl; have H1 := Lib.hid ((hB2.block _ z1).trans H1.out); have z1 := Nat.lt_of_lt_of_le z1 hB2.size; have c0 : World.cell? _ ⟨_, 0, none⟩ = some (.int .i64 n1) := blk_cell H1.out 0 rfl; have c1 : World.cell? _ ⟨_, 1, none⟩ = some (.int .i64 d1) := blk_cell H1.out 1 rfl; have cf0 := blk_frozen H1.out 0; have cf1 := blk_frozen H1.out 1; have H2 := Lib.hid ((hB2.block _ z2).trans H2.out); have z2 := Nat.lt_of_lt_of_le z2 hB2.size; have x0 : World.cell? _ ⟨_, 0, none⟩ = some (.int .i64 0) := blk_cell H2.out 0 rfl; have x1 : World.cell? _ ⟨_, 1, none⟩ = some (.int .i64 0) := blk_cell H2.out 1 rfl; have xf0 := blk_frozen H2.out 0; have xf1 := blk_frozen H2.out 1; have HW : Hid (Below w.heap.size w _) := Lib.hid (below_step (by first | exact HW.out | exact Below.drew HW.out | exact below_drewN HW.out _) hB2); clear hB2))
  obtain ⟨X2, hX2⟩ : ∃ X, ((w2.setCell ⟨w.heap.size + 1 + 1, 0, none⟩ (.int .i64 n2)).setCell ⟨w.heap.size + 1 + 1, 1, none⟩ (.int .i64 d2)) = X := ⟨_, rfl⟩
  have H0 := Lib.hid ((st2_old w2 (g := w.heap.size + 1 + 1) (u := .int .i64 n2) (v := .int .i64 d2) (by omega)).trans H0.out)
  rw [hX2] at H0
  have z0 := (Array.getElem?_eq_some_iff.1 H0.out).1
  have b0 : World.cell? _ ⟨_, 0, none⟩ = some (.slice A ns.length c) := blk_cell H0.out 0 rfl
  have b1 : World.cell? _ ⟨_, 1, none⟩ = some (.slice B ss.length d) := blk_cell H0.out 1 rfl
  have H1 := Lib.hid ((st2_old w2 (g := w.heap.size + 1 + 1) (u := .int .i64 n2) (v := .int .i64 d2) (by omega)).trans H1.out)
  rw [hX2] at H1
  have z1 := (Array.getElem?_eq_some_iff.1 H1.out).1
  have c0 : World.cell? _ ⟨_, 0, none⟩ = some (.int .i64 n1) := blk_cell H1.out 0 rfl
  have c1 : World.cell? _ ⟨_, 1, none⟩ = some (.int .i64 d1) := blk_cell H1.out 1 rfl
  have cf0 := blk_frozen H1.out 0
  have cf1 := blk_frozen H1.out 1
  have H2 := Lib.hid (st2_new w2 (u := .int .i64 n2) (v := .int .i64 d2) H2.out)
  rw [hX2] at H2
  have z2 := (Array.getElem?_eq_some_iff.1 H2.out).1
  have x0 : World.cell? _ ⟨_, 0, none⟩ = some (.int .i64 n2) := blk_cell H2.out 0 rfl
  have x1 : World.cell? _ ⟨_, 1, none⟩ = some (.int .i64 d2) := blk_cell H2.out 1 rfl
  have xf0 := blk_frozen H2.out 0
  have xf1 := blk_frozen H2.out 1
  have HW := Lib.hid (st2_below (u := .int .i64 n2) (v := .int .i64 d2) HW.out (show w.heap.size ≤ w.heap.size + 1 + 1 by omega))
  rw [hX2] at HW
  rw [hX2]
  clear hX2
  go_region_held3 (fun W => W.cell? ⟨w.heap.size + 1, 0, none⟩ = some (.int .i64 n1) ∧ W.cell? ⟨w.heap.size + 1, 1, none⟩ = some (.int .i64 d1) ∧ W.cell? ⟨w.heap.size + 1 + 1, 0, none⟩ = some (.int .i64 n2) ∧ W.cell? ⟨w.heap.size + 1 + 1, 1, none⟩ = some (.int .i64 d2))
    ((first | with_reducible exact ⟨c0, c1, x0, x1⟩ | (refine ⟨?_, ?_, ?_, ?_⟩ <;> (repeat (first | with_reducible exact c0 | with_reducible exact c1 | with_reducible exact x0 | with_reducible exact x1 | with_reducible refine (cell_drew1 _ _).trans ?_ | with_reducible refine (cell_set1 _ n12).trans ?_ | with_reducible refine (cell_set1 _ n21).trans ?_ | with_reducible exact st2_c0 c0 | with_reducible exact st2_c1 c1 | with_reducible exact st2_c0 x0 | with_reducible exact st2_c1 x1 | with_reducible exact st2_c0 ((cell_set1 _ n21).trans ((cell_set1 _ n21).trans x0)) | with_reducible exact st2_c1 ((cell_set1 _ n21).trans ((cell_set1 _ n21).trans x1)) | with_reducible exact st2_c0 ((cell_set1 _ n12).trans ((cell_set1 _ n12).trans c0)) | with_reducible exact st2_c1 ((cell_set1 _ n12).trans ((cell_set1 _ n12).trans c1)))))))
    ((first
    | (go_at_call 57; with_reducible refine (small_any n1 d1 _).mono ?_; rintro e w3 ⟨rfl, hB3⟩; rw [S1.out]; have H0 := Lib.hid ((hB3.block _ z0).trans H0.out); have z0 := Nat.lt_of_lt_of_le z0 hB3.size; have b0 : World.cell? _ ⟨_, 0, none⟩ = some (.slice A ns.length c) := blk_cell H0.out 0 rfl; have b1 : World.cell? _ ⟨_, 1, none⟩ = some (.slice B ss.length d) := blk_cell H0.out 1 rfl; have H1 := Lib.hid ((hB3.block _ z1).trans H1.out); have z1 := Nat.lt_of_lt_of_le z1 hB3.size; have c0 : World.cell? _ ⟨_, 0, none⟩ = some (.int .i64 n1) := blk_cell H1.out 0 rfl; have c1 : World.cell? _ ⟨_, 1, none⟩ = some (.int .i64 d1) := blk_cell H1.out 1 rfl; have cf0 := blk_frozen H1.out 0; have cf1 := blk_frozen H1.out 1; have H2 := Lib.hid ((hB3.block _ z2).trans H2.out); have z2 := Nat.lt_of_lt_of_le z2 hB3.size; have x0 : World.cell? _ ⟨_, 0, none⟩ = some (.int .i64 n2) := blk_cell H2.out 0 rfl; have x1 : World.cell? _ ⟨_, 1, none⟩ = some (.int .i64 d2) := blk_cell H2.out 1 rfl; have xf0 := blk_frozen H2.out 0; have xf1 := blk_frozen H2.out 1; have HW : Hid (Below w.heap.size w _) := Lib.hid (below_step (by first | exact HW.out | exact Below.drew HW.out | exact below_drewN HW.out _) hB3); clear hB3)
    | (go_at_call 57; with_reducible refine (small_any n2 d2 _).mono ?_; rintro e w4 ⟨rfl, hB4⟩; rw [S2.out]; have H0 := Lib.hid ((hB4.block _ z0).trans H0.out); have z0 := Nat.lt_of_lt_of_le z0 hB4.size; have b0 : World.cell? _ ⟨_, 0, none⟩ = some (.slice A ns.length c) := blk_cell H0.out 0 rfl; have b1 : World.cell? _ ⟨_, 1, none⟩ = some (.slice B ss.length d) := blk_cell H0.out 1 rfl; have H1 := Lib.hid ((hB4.block _ z1).trans H1.out); have z1 := Nat.lt_of_lt_of_le z1 hB4.size; have c0 : World.cell? _ ⟨_, 0, none⟩ = some (.int .i64 n1) := blk_cell H1.out 0 rfl; have c1 : World.cell? _ ⟨_, 1, none⟩ = some (.int .i64 d1) := blk_cell H1.out 1 rfl; have cf0 := blk_frozen H1.out 0; have cf1 := blk_frozen H1.out 1; have H2 := Lib.hid ((hB4.block _ z2).trans H2.out); have z2 := Nat.lt_of_lt_of_le z2 hB4.size; have x0 : World.cell? _ ⟨_, 0, none⟩ = some (.int .i64 n2) := blk_cell H2.out 0 rfl; have x1 : World.cell? _ ⟨_, 1, none⟩ = some (.int .i64 d2) := blk_cell H2.out 1 rfl; have xf0 := blk_frozen H2.out 0; have xf1 := blk_frozen H2.out 1; have HW : Hid (Below w.heap.size w _) := Lib.hid (below_step (by first | exact HW.out | exact Below.drew HW.out | exact below_drewN HW.out _) hB4); clear hB4)))
  all_goals
    go_wp2
    exact bodyPost_ret (v := .tuple #[.agg #[.int .i64 n1, .int .i64 d1], .agg #[.int .i64 n2, .int .i64 d2], .bool true]) (by simp [results, Try.results53, go_sem, c0, c1, x0, x1]) rfl ⟨rfl, (by repeat (first | with_reducible exact HW.out | with_reducible exact Below.refl _ _ | with_reducible refine below_drewN ?_ _ | with_reducible refine Below.drew ?_ | (with_reducible refine Below.setCell ?_ (by first | exact Nat.le_refl _ | exact Nat.le_succ _ | (simp; done) | (simp; omega) | omega) _) | (with_reducible refine Below.alloc ?_ (by first | exact HW.out.size | (simp; done) | (simp; omega) | omega) _)))⟩
end Go.Proofs.Ytolpbbabmcpdkaa
