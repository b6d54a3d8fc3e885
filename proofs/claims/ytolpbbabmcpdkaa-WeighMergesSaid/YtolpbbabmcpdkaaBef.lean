/-
  Contracts: before, empty (weigh), ahead, nothing (firnref07), cmp.Compare.
-/
import Derived.Test.YtolpbbabmcpdkaaCut
import Derived.Test.YtolpbbabmcpdkaaRowM
set_option linter.unusedVariables false
set_option linter.unusedSimpArgs false
namespace Go.Proofs.Ytolpbbabmcpdkaa
open Go.RowKit

theorem mul_bd {a b A B : Int} (ha : 0 ≤ a) (hA : a ≤ A) (hb : 0 ≤ b) (hB : b ≤ B) : 0 ≤ a * b ∧ a * b ≤ A * B :=
  ⟨Int.mul_nonneg ha hb, Int.mul_le_mul hA hB hb (by omega)⟩
/-- The weights of an outcome. -/
theorem Od.at_ {ns ss : List Int} (h : Od ns ss) {w : World} {A B : Option Addr} (hA : Ints w A ns) (hB : Ints w B ss) {a : Nat} (ha : a < ns.length) :
    ∃ (ad bd : Addr) (x y : Int), A = some ad ∧ B = some bd ∧ w.cell? (ad.add a) = some (.int .i64 x) ∧ w.cell? (bd.add a) = some (.int .i64 y) ∧ Hid (ns.getD a 0 = x) ∧ Hid (ss.getD a 0 = y) ∧ 0 ≤ x ∧ x ≤ 1000 ∧ 0 ≤ y ∧ y ≤ 1000 := by
  obtain ⟨ad, x, e1, _, h1, c1⟩ := hA.get ha
  obtain ⟨bd, y, e2, _, h2, c2⟩ := hB.get (show a < ss.length by rw [← h.len]; exact ha)
  have b1 := h.nb x (List.mem_of_getElem? h1.out)
  have b2 := h.sb y (List.mem_of_getElem? h2.out)
  exact ⟨ad, bd, x, y, e1, e2, c1, c2, getD_of h1.out, getD_of h2.out, b1.1, b1.2, b2.1, b2.2⟩
def cmpV (x y : Int) : Int := if x < y then -1 else if y < x then 1 else 0
set_option maxRecDepth 100000 in
theorem compare_any (x y : Int) (w : World) :
    Calls Try.prog 108 #[.int .i64 x, .int .i64 y] w fun e w' => e = .returned (.int .i64 (cmpV x y)) ∧ w = w' := by
  have HN : Hid (∀ z : Int, (z != z) = false) := Lib.hid (fun z => by simp)
  have CN : Hid (∀ (z : Int) (W : World), Calls Try.prog 126 #[.int .i64 z] W fun e w' => e = .returned (.bool false) ∧ W = w') := Lib.hid (by
    intro z W
    have t := HN.out z
    go_enter Try.func126, Try.ntmps126
    go_wp2
    go_ret
    exact ⟨ret_bool (by simp), rfl⟩)
  by_cases h1 : x < y
  · have t1 : decide (x < y) = true := decide_eq_true h1
    have HR : Hid (cmpV x y = -1) := Lib.hid (if_pos h1)
    go_enter Try.func108, Try.ntmps108
    go_wp2_with (go_at_call 126; first | (with_reducible refine (CN.out x _).mono ?_; rintro e w1 ⟨rfl, rfl⟩) | (with_reducible refine (CN.out y _).mono ?_; rintro e w1 ⟨rfl, rfl⟩))
    go_ret
    exact ⟨ret_int HR.out.symm, rfl⟩
  · have t1 : decide (x < y) = false := decide_eq_false h1
    by_cases h2 : y < x
    · have t2 : decide (y < x) = true := decide_eq_true h2
      have HR : Hid (cmpV x y = 1) := Lib.hid (by unfold cmpV; rw [if_neg h1, if_pos h2])
      go_enter Try.func108, Try.ntmps108
      go_wp2_with (go_at_call 126; first | (with_reducible refine (CN.out x _).mono ?_; rintro e w1 ⟨rfl, rfl⟩) | (with_reducible refine (CN.out y _).mono ?_; rintro e w1 ⟨rfl, rfl⟩))
      go_ret
      exact ⟨ret_int HR.out.symm, rfl⟩
    · have t2 : decide (y < x) = false := decide_eq_false h2
      have HR : Hid (cmpV x y = 0) := Lib.hid (by unfold cmpV; rw [if_neg h1, if_neg h2])
      go_enter Try.func108, Try.ntmps108
      go_wp2_with (go_at_call 126; first | (with_reducible refine (CN.out x _).mono ?_; rintro e w1 ⟨rfl, rfl⟩) | (with_reducible refine (CN.out y _).mono ?_; rintro e w1 ⟨rfl, rfl⟩))
      go_ret
      exact ⟨ret_int HR.out.symm, rfl⟩

set_option maxRecDepth 100000 in
set_option maxHeartbeats 1000000 in
theorem before_any (ns ss : List Int) (A B : Option Addr) (c d : Nat) (ho : Od ns ss) (a b : Nat) (ha : a < ns.length) (hb : b < ns.length) (w : World) (hA : Ints w A ns) (hB : Ints w B ss) :
    Calls Try.prog 111 #[.agg #[.slice A ns.length c, .slice B ss.length d, .int .i64 ns.sum, .int .i64 ss.sum], .int .i64 a, .int .i64 b] w fun e w' => e = .returned (.bool (gtB ns ss a b)) ∧ Below w.heap.size w w' := by
  obtain ⟨W0, hW0, HW, H0, z0⟩ := one_new w #[.slice A ns.length c, .slice B ss.length d, .int .i64 ns.sum, .int .i64 ss.sum] 67
  obtain ⟨ad, bd, x, y, rfl, rfl, c1, c2, e1, e2, x0, x1, y0, y1⟩ := ho.at_ (hA.below HW.out) (hB.below HW.out) ha
  obtain ⟨ad', bd', u, v, r1, r2, c3, c4, e3, e4, u0, u1, v0, v1⟩ := ho.at_ (hA.below HW.out) (hB.below HW.out) hb
  obtain rfl := Option.some.inj r1
  obtain rfl := Option.some.inj r2
  have HR : Hid (gtB ns ss a b = decide (v * x < y * u)) := Lib.hid (by unfold gtB; rw [e1.out, e2.out, e3.out, e4.out])
  obtain ⟨m0, m1⟩ := mul_bd y0 y1 u0 u1
  obtain ⟨m2, m3⟩ := mul_bd v0 v1 x0 x1
  have hl := ho.len
  have hb2 : b < ss.length := by omega
  have ha2 : a < ss.length := by omega
  have b0 : W0.cell? ⟨w.heap.size, 0, none⟩ = some (.slice (some ad) ns.length c) := blk_cell H0.out 0 rfl
  have b1 : W0.cell? ⟨w.heap.size, 1, none⟩ = some (.slice (some bd) ss.length d) := blk_cell H0.out 1 rfl
  have b2 : W0.cell? ⟨w.heap.size, 2, none⟩ = some (.int .i64 ns.sum) := blk_cell H0.out 2 rfl
  have b3 : W0.cell? ⟨w.heap.size, 3, none⟩ = some (.int .i64 ss.sum) := blk_cell H0.out 3 rfl
  clear r1 r2 hl hA hB
  go_enter Try.func111, Try.ntmps111
  go_wp2
  rw [← hW0]
  clear hW0
  go_quiet (fail)
  go_wp2
  go_ret
  exact ⟨ret_bool HR.out.symm, (by repeat (first | with_reducible exact HW.out | with_reducible exact Below.refl _ _ | with_reducible refine below_drewN ?_ _ | with_reducible refine Below.drew ?_ | (with_reducible refine Below.setCell ?_ (by first | exact Nat.le_refl _ | exact Nat.le_succ _ | (simp; done) | (simp; omega) | omega) _) | (with_reducible refine Below.alloc ?_ (by first | exact HW.out.size | (simp; done) | (simp; omega) | omega) _)))⟩

set_option maxRecDepth 100000 in
set_option maxHeartbeats 1000000 in
theorem ahead_any (ns ss : List Int) (A B : Option Addr) (c d : Nat) (ho : Od ns ss) (a b : Nat) (ha : a < ns.length) (hb : b < ns.length) (w : World) (hA : Ints w A ns) (hB : Ints w B ss) :
    Calls Try.prog 92 #[.agg #[.slice A ns.length c, .slice B ss.length d], .int .i64 a, .int .i64 b] w fun e w' => e = .returned (.bool (gtB ns ss a b)) ∧ Below w.heap.size w w' := by
  obtain ⟨W0, hW0, HW, H0, z0⟩ := one_new w #[.slice A ns.length c, .slice B ss.length d] 24
  obtain ⟨ad, bd, x, y, rfl, rfl, c1, c2, e1, e2, x0, x1, y0, y1⟩ := ho.at_ (hA.below HW.out) (hB.below HW.out) ha
  obtain ⟨ad', bd', u, v, r1, r2, c3, c4, e3, e4, u0, u1, v0, v1⟩ := ho.at_ (hA.below HW.out) (hB.below HW.out) hb
  obtain rfl := Option.some.inj r1
  obtain rfl := Option.some.inj r2
  have HR : Hid (gtB ns ss a b = decide (v * x < y * u)) := Lib.hid (by unfold gtB; rw [e1.out, e2.out, e3.out, e4.out])
  obtain ⟨m0, m1⟩ := mul_bd y0 y1 u0 u1
  obtain ⟨m2, m3⟩ := mul_bd v0 v1 x0 x1
  have hl := ho.len
  have hb2 : b < ss.length := by omega
  have ha2 : a < ss.length := by omega
  have b0 : W0.cell? ⟨w.heap.size, 0, none⟩ = some (.slice (some ad) ns.length c) := blk_cell H0.out 0 rfl
  have b1 : W0.cell? ⟨w.heap.size, 1, none⟩ = some (.slice (some bd) ss.length d) := blk_cell H0.out 1 rfl
  clear r1 r2 hl hA hB
  go_enter Try.func92, Try.ntmps92
  go_wp2
  rw [← hW0]
  clear hW0
  go_quiet (fail)
  go_wp2
  go_ret
  exact ⟨ret_bool HR.out.symm, (by repeat (first | with_reducible exact HW.out | with_reducible exact Below.refl _ _ | with_reducible refine below_drewN ?_ _ | with_reducible refine Below.drew ?_ | (with_reducible refine Below.setCell ?_ (by first | exact Nat.le_refl _ | exact Nat.le_succ _ | (simp; done) | (simp; omega) | omega) _) | (with_reducible refine Below.alloc ?_ (by first | exact HW.out.size | (simp; done) | (simp; omega) | omega) _)))⟩

set_option maxRecDepth 100000 in
set_option maxHeartbeats 1000000 in
theorem empty_any (ns ss : List Int) (A B : Option Addr) (c d : Nat) (ho : Od ns ss) (a : Nat) (ha : a < ns.length) (w : World) (hA : Ints w A ns) (hB : Ints w B ss) :
    Calls Try.prog 114 #[.agg #[.slice A ns.length c, .slice B ss.length d, .int .i64 ns.sum, .int .i64 ss.sum], .int .i64 a] w fun e w' => e = .returned (.bool (empB ns ss a)) ∧ Below w.heap.size w w' := by
  obtain ⟨W0, hW0, HW, H0, z0⟩ := one_new w #[.slice A ns.length c, .slice B ss.length d, .int .i64 ns.sum, .int .i64 ss.sum] 67
  obtain ⟨ad, bd, x, y, rfl, rfl, c1, c2, e1, e2, x0, x1, y0, y1⟩ := ho.at_ (hA.below HW.out) (hB.below HW.out) ha
  have HR : Hid (empB ns ss a = (decide (x = 0) && decide (y = 0))) := Lib.hid (by unfold empB; rw [e1.out, e2.out])
  have hl := ho.len
  have ha2 : a < ss.length := by omega
  have b0 : W0.cell? ⟨w.heap.size, 0, none⟩ = some (.slice (some ad) ns.length c) := blk_cell H0.out 0 rfl
  have b1 : W0.cell? ⟨w.heap.size, 1, none⟩ = some (.slice (some bd) ss.length d) := blk_cell H0.out 1 rfl
  have b2 : W0.cell? ⟨w.heap.size, 2, none⟩ = some (.int .i64 ns.sum) := blk_cell H0.out 2 rfl
  have b3 : W0.cell? ⟨w.heap.size, 3, none⟩ = some (.int .i64 ss.sum) := blk_cell H0.out 3 rfl
  clear hl hA hB
  subst hW0
  go_enter Try.func114, Try.ntmps114
  by_cases h1 : x = 0
  · have t1 : (x == 0) = true := by simp [h1]
    have HT : Hid (empB ns ss a = (y == 0)) := Lib.hid (by rw [HR.out, decide_eq_true h1]; simp; rfl)
    clear h1
    go_wp2
    go_ret
    exact ⟨ret_bool HT.out.symm, (by repeat (first | with_reducible exact HW.out | with_reducible exact Below.refl _ _ | with_reducible refine below_drewN ?_ _ | with_reducible refine Below.drew ?_ | (with_reducible refine Below.setCell ?_ (by first | exact Nat.le_refl _ | exact Nat.le_succ _ | (simp; done) | (simp; omega) | omega) _) | (with_reducible refine Below.alloc ?_ (by first | exact HW.out.size | (simp; done) | (simp; omega) | omega) _)))⟩
  · have t1 : (x == 0) = false := by simp [h1]
    have HT : Hid (empB ns ss a = false) := Lib.hid (by rw [HR.out, decide_eq_false h1]; simp)
    clear h1
    go_wp2
    go_ret
    exact ⟨ret_bool HT.out.symm, (by repeat (first | with_reducible exact HW.out | with_reducible exact Below.refl _ _ | with_reducible refine below_drewN ?_ _ | with_reducible refine Below.drew ?_ | (with_reducible refine Below.setCell ?_ (by first | exact Nat.le_refl _ | exact Nat.le_succ _ | (simp; done) | (simp; omega) | omega) _) | (with_reducible refine Below.alloc ?_ (by first | exact HW.out.size | (simp; done) | (simp; omega) | omega) _)))⟩

set_option maxRecDepth 100000 in
set_option maxHeartbeats 1000000 in
theorem nothing_any (ns ss : List Int) (A B : Option Addr) (c d : Nat) (ho : Od ns ss) (a : Nat) (ha : a < ns.length) (w : World) (hA : Ints w A ns) (hB : Ints w B ss) :
    Calls Try.prog 104 #[.agg #[.slice A ns.length c, .slice B ss.length d], .int .i64 a] w fun e w' => e = .returned (.bool (empB ns ss a)) ∧ Below w.heap.size w w' := by
  obtain ⟨W0, hW0, HW, H0, z0⟩ := one_new w #[.slice A ns.length c, .slice B ss.length d] 24
  obtain ⟨ad, bd, x, y, rfl, rfl, c1, c2, e1, e2, x0, x1, y0, y1⟩ := ho.at_ (hA.below HW.out) (hB.below HW.out) ha
  have HR : Hid (empB ns ss a = (decide (x = 0) && decide (y = 0))) := Lib.hid (by unfold empB; rw [e1.out, e2.out])
  have hl := ho.len
  have ha2 : a < ss.length := by omega
  have b0 : W0.cell? ⟨w.heap.size, 0, none⟩ = some (.slice (some ad) ns.length c) := blk_cell H0.out 0 rfl
  have b1 : W0.cell? ⟨w.heap.size, 1, none⟩ = some (.slice (some bd) ss.length d) := blk_cell H0.out 1 rfl
  clear hl hA hB
  subst hW0
  go_enter Try.func104, Try.ntmps104
  by_cases h1 : y = 0
  · have t1 : (y == 0) = true := by simp [h1]
    have HT : Hid (empB ns ss a = (x == 0)) := Lib.hid (by rw [HR.out, decide_eq_true h1]; simp; rfl)
    clear h1
    go_wp2
    go_ret
    exact ⟨ret_bool HT.out.symm, (by repeat (first | with_reducible exact HW.out | with_reducible exact Below.refl _ _ | with_reducible refine below_drewN ?_ _ | with_reducible refine Below.drew ?_ | (with_reducible refine Below.setCell ?_ (by first | exact Nat.le_refl _ | exact Nat.le_succ _ | (simp; done) | (simp; omega) | omega) _) | (with_reducible refine Below.alloc ?_ (by first | exact HW.out.size | (simp; done) | (simp; omega) | omega) _)))⟩
  · have t1 : (y == 0) = false := by simp [h1]
    have HT : Hid (empB ns ss a = false) := Lib.hid (by rw [HR.out, decide_eq_false h1]; simp)
    clear h1
    go_wp2
    go_ret
    exact ⟨ret_bool HT.out.symm, (by repeat (first | with_reducible exact HW.out | with_reducible exact Below.refl _ _ | with_reducible refine below_drewN ?_ _ | with_reducible refine Below.drew ?_ | (with_reducible refine Below.setCell ?_ (by first | exact Nat.le_refl _ | exact Nat.le_succ _ | (simp; done) | (simp; omega) | omega) _) | (with_reducible refine Below.alloc ?_ (by first | exact HW.out.size | (simp; done) | (simp; omega) | omega) _)))⟩
end Go.Proofs.Ytolpbbabmcpdkaa
