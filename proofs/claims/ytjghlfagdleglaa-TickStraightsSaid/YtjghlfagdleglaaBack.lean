/-
  Contract: Back (tick).
-/
import Derived.Test.YtjghlfagdleglaaAt2
import Derived.Test.YtjghlfagdleglaaLineOfT
namespace Go.Proofs.Ytjghlfagdleglaa
open Go.RowKit

def okT (N D : Int) : Bool := decide ((1 ≤ D ∧ D ≤ 100000) ∧ (-100000000000 ≤ N ∧ N ≤ 100000000000))
def okBack (ms : List (Int × Int)) (N D : Int) : Bool := vkB ms && okT N D
def backE (ms : List (Int × Int)) (N D : Int) : Int := if vkB ms then (if okT N D then 0 else 2) else 11
/-- What the j-th line says at a true time. -/
def backNj (ms : List (Int × Int)) (j : Nat) (N D : Int) : Int := lineN (mA ms j).2 (mA ms j).1 (mA ms (j + 1)).2 (mA ms (j + 1)).1 N D
def backDj (ms : List (Int × Int)) (j : Nat) (D : Int) : Int := lineD (mA ms j).2 (mA ms (j + 1)).2 D
def backRN (ms : List (Int × Int)) (N D : Int) : Int := if okBack ms N D then lowN (backNj ms (segT ms N D) N D) (backDj ms (segT ms N D) D) else 0
def backRD (ms : List (Int × Int)) (N D : Int) : Int := if okBack ms N D then lowD (backNj ms (segT ms N D) N D) (backDj ms (segT ms N D) D) else 0

set_option maxRecDepth 100000 in
set_option maxHeartbeats 3200000 in
theorem back_any (ms : List (Int × Int)) (A : Option Addr) (c : Nat) (N D : Int) (w : World) (h : Clk w A c ms) :
    Calls Try.prog 34 #[.slice A ms.length c, .agg #[.int .i64 N, .int .i64 D]] w fun e w' => ∃ n d E : Int, e = .returned (.tuple #[.agg #[.int .i64 n, .int .i64 d], .int .i64 E]) ∧ Below w.heap.size w w' ∧ Hid (n = backRN ms N D ∧ d = backRD ms N D ∧ E = backE ms N D) := by
  have H := Lib.hid h
  clear h
  have H0 := Lib.hid (H.out.below (show Below w.heap.size w ((w.alloc (.cells #[.int .i64 N, .int .i64 D] 36)).alloc (.cells #[.int .i64 0, .int .i64 0] 36)) from (by repeat (first | with_reducible exact Below.refl _ _ | with_reducible assumption | refine below_drewN ?_ _ | with_reducible refine Below.drew ?_ | (refine Below.setCell ?_ (by first | (simp; done) | (simp; omega) | omega) _) | (refine Below.alloc ?_ (by first | (simp; done) | (simp; omega) | omega) _)))))
  by_cases hv : vkB ms = true
  · have HV := Lib.hid hv
    by_cases ht : (1 ≤ D ∧ D ≤ 100000) ∧ (-100000000000 ≤ N ∧ N ≤ 100000000000)
    · have HT : Hid (okT N D = true) := decide_eq_true ht
      obtain ⟨⟨hD0, hD1⟩, hN0, hN1⟩ := ht
      have t1 : decide (D < 1) = false := decide_eq_false (by omega)
      have t2 : decide (100000 < D) = false := decide_eq_false (by omega)
      have t3 : decide (N < -100000000000) = false := decide_eq_false (by omega)
      have t4 : decide (100000000000 < N) = false := decide_eq_false (by omega)
      go_enter Try.func34, Try.ntmps34
      go_wp2_with (go_at_call 32; refine (validClock_any _ _ _ _ H0.out.marks H0.out.len).mono ?_; rintro e w1 ⟨he, hB1⟩; rw [HV.out] at he; subst he; obtain ⟨hcc, hff⟩ := bcell hB1; have hz1' := hB1.size; simp at hz1')
      have hW : Below w.heap.size w w1 := Below.trans (by repeat (first | with_reducible exact Below.refl _ _ | with_reducible assumption | refine below_drewN ?_ _ | with_reducible refine Below.drew ?_ | (refine Below.setCell ?_ (by first | (simp; done) | (simp; omega) | omega) _) | (refine Below.alloc ?_ (by first | (simp; done) | (simp; omega) | omega) _))) (hB1.mono (by first | (simp; done) | (simp; omega) | omega))
      have k5 : w1.heap[w.heap.size]? = some (.cells #[.int .i64 N, .int .i64 D] 36 (0, 0)) := (hB1.block w.heap.size (by simp; omega)).trans ((Below.heap_alloc _ _ _ (by simp)).trans (heap_alloc_new w _))
      have k0 : w1.heap[w.heap.size + 1]? = some (.cells #[.int .i64 0, .int .i64 0] 36 (0, 0)) := (hB1.block (w.heap.size + 1) (by simp)).trans (by rw [show w.heap.size + 1 = (w.alloc (.cells #[.int .i64 N, .int .i64 D] 36)).heap.size by simp]; exact heap_alloc_new _ _)
      have HC := Lib.hid ((H0.out.below hB1).drew)
      clear hcc hff hB1
      have hz1 : w.heap.size < w1.heap.size := by omega
      have hz2 : w.heap.size + 1 < w1.heap.size := by omega
      have c0 : w1.cell? ⟨w.heap.size, 0, none⟩ = some (.int .i64 N) := cell_of_row w1 _ 0 _ _ _ k5
      have c1 : w1.cell? ⟨w.heap.size, 1, none⟩ = some (.int .i64 D) := cell_of_row w1 _ 1 _ _ _ k5
      have d0 : w1.cell? ⟨w.heap.size + 1, 0, none⟩ = some (.int .i64 0) := cell_of_row w1 _ 0 _ _ _ k0
      have d1 : w1.cell? ⟨w.heap.size + 1, 1, none⟩ = some (.int .i64 0) := cell_of_row w1 _ 1 _ _ _ k0
      have e0 := blk_frozen k0 0
      have e1 := blk_frozen k0 1
      clear k5 k0 hz1'
      have hW := hW.drew
      go_region_held3 (fun w' => w'.cell? ⟨w.heap.size, 0, none⟩ = some (.int .i64 N) ∧ w'.cell? ⟨w.heap.size, 1, none⟩ = some (.int .i64 D))
        (first | exact ⟨c0, c1⟩ | exact ⟨(cell_far2 (p := ⟨w.heap.size, 0, none⟩) (by simp)).trans c0, (cell_far2 (p := ⟨w.heap.size, 1, none⟩) (by simp)).trans c1⟩)
        (first
          | (go_at_call 64; refine (lineOfT_any ms A c N D _ HC.out HV.out (by omega) (by omega)).mono ?_; rintro e w3 ⟨a, b, p, q, rfl, hB3, hpq⟩; have c0 := (hB3.cell (p := ⟨w.heap.size, 0, none⟩) hz1).trans c0; have c1 := (hB3.cell (p := ⟨w.heap.size, 1, none⟩) hz1).trans c1; have d0 := (hB3.cell (p := ⟨w.heap.size + 1, 0, none⟩) hz2).trans d0; have d1 := (hB3.cell (p := ⟨w.heap.size + 1, 1, none⟩) hz2).trans d1; have e0 := (hB3.frozen (p := ⟨w.heap.size + 1, 0, none⟩) hz2).trans e0; have e1 := (hB3.frozen (p := ⟨w.heap.size + 1, 1, none⟩) hz2).trans e1; have hW := Below.trans hW (hB3.mono (Nat.le_of_lt hz1)); have hz1 := Nat.lt_of_lt_of_le hz1 hB3.size; have hz2 := Nat.lt_of_lt_of_le hz2 hB3.size; have ha := vk_at HV.out hpq.out.1; have hp := vk_at HV.out hpq.out.2; have hlt := vk_lt HV.out hpq.out.1 hpq.out.2)
          | (go_at_call 66; refine (lineInverse_any a b p q _).mono ?_; rintro e w3 ⟨rfl, hB3⟩; have c0 := (hB3.cell (p := ⟨w.heap.size, 0, none⟩) hz1).trans c0; have c1 := (hB3.cell (p := ⟨w.heap.size, 1, none⟩) hz1).trans c1; have d0 := (hB3.cell (p := ⟨w.heap.size + 1, 0, none⟩) hz2).trans d0; have d1 := (hB3.cell (p := ⟨w.heap.size + 1, 1, none⟩) hz2).trans d1; have e0 := (hB3.frozen (p := ⟨w.heap.size + 1, 0, none⟩) hz2).trans e0; have e1 := (hB3.frozen (p := ⟨w.heap.size + 1, 1, none⟩) hz2).trans e1; have hW := Below.trans hW (hB3.mono (Nat.le_of_lt hz1)); have hz1 := Nat.lt_of_lt_of_le hz1 hB3.size; have hz2 := Nat.lt_of_lt_of_le hz2 hB3.size)
          | (go_at_call 67; refine (lineAt_any b a q p N D _ (by omega) (by omega) (by omega) (by omega) (by omega) (by omega) (by omega) (by omega) (by omega) (by omega)).mono ?_; rintro e w3 ⟨rfl, hB3⟩; have c0 := (hB3.cell (p := ⟨w.heap.size, 0, none⟩) hz1).trans c0; have c1 := (hB3.cell (p := ⟨w.heap.size, 1, none⟩) hz1).trans c1; have d0 := (hB3.cell (p := ⟨w.heap.size + 1, 0, none⟩) hz2).trans d0; have d1 := (hB3.cell (p := ⟨w.heap.size + 1, 1, none⟩) hz2).trans d1; have e0 := (hB3.frozen (p := ⟨w.heap.size + 1, 0, none⟩) hz2).trans e0; have e1 := (hB3.frozen (p := ⟨w.heap.size + 1, 1, none⟩) hz2).trans e1; have hW := Below.trans hW (hB3.mono (Nat.le_of_lt hz1)); have hz1 := Nat.lt_of_lt_of_le hz1 hB3.size; have hz2 := Nat.lt_of_lt_of_le hz2 hB3.size))
      go_wp2
      refine bodyPost_ret (v := .tuple #[.agg #[.int .i64 (lowN (lineN b a q p N D) (lineD b q D)), .int .i64 (lowD (lineN b a q p N D) (lineD b q D))], .int .i64 0]) (by simp [results, Try.results34, go_sem, d0, d1]) rfl ⟨_, _, _, rfl, by refine Below.setCell (Below.setCell hW ?_ _) ?_ _ <;> simp, ?_⟩
      have h1 := mA_of hpq.out.1
      have h2 := mA_of hpq.out.2
      have ho : okBack ms N D = true := by simp [okBack, HV.out, HT.out]
      refine ⟨?_, ?_, by simp [backE, HV.out, HT.out]⟩
      · rw [backRN, if_pos ho, backNj, backDj, segT, h1, h2]
      · rw [backRD, if_pos ho, backNj, backDj, segT, h1, h2]
    · have HT : Hid (okT N D = false) := decide_eq_false ht
      have ho : okBack ms N D = false := by simp [okBack, HT.out]
      have HO := Lib.hid ho
      clear ho
      have fin : ∀ E : Int, E = 2 → Hid (0 = backRN ms N D ∧ 0 = backRD ms N D ∧ E = backE ms N D) := fun E hE => ⟨by simp [backRN, HO.out], by simp [backRD, HO.out], by simp [backE, HV.out, HT.out, hE]⟩
      have FIN := Lib.hid fin
      clear fin
      go_enter Try.func34, Try.ntmps34
      go_wp2_with (go_at_call 32; refine (validClock_any _ _ _ _ H0.out.marks H0.out.len).mono ?_; rintro e w1 ⟨he, hB1⟩; rw [HV.out] at he; subst he; obtain ⟨hcc, hff⟩ := bcell hB1; have hz1' := hB1.size; simp at hz1'; have hz3 : w.heap.size < w1.heap.size := (by omega))
      all_goals first
        | (exfalso; omega)
        | (have hW : Below w.heap.size w w1 := Below.trans (by repeat (first | with_reducible exact Below.refl _ _ | with_reducible assumption | refine below_drewN ?_ _ | with_reducible refine Below.drew ?_ | (refine Below.setCell ?_ (by first | (simp; done) | (simp; omega) | omega) _) | (refine Below.alloc ?_ (by first | (simp; done) | (simp; omega) | omega) _))) (hB1.mono (by first | (simp; done) | (simp; omega) | omega))
           exact bodyPost_ret (v := .tuple #[.agg #[.int .i64 0, .int .i64 0], .int .i64 2]) (by simp [results, Try.results34, go_sem, hcc]) rfl ⟨0, 0, 2, rfl, (by repeat (first | with_reducible exact Below.refl _ _ | with_reducible assumption | refine below_drewN ?_ _ | with_reducible refine Below.drew ?_ | (refine Below.setCell ?_ (by first | (simp; done) | (simp; omega) | omega) _) | (refine Below.alloc ?_ (by first | (simp; done) | (simp; omega) | omega) _))), FIN.out 2 rfl⟩)
  · have hv2 : vkB ms = false := by simpa using hv
    have ho : okBack ms N D = false := by simp [okBack, hv2]
    go_enter Try.func34, Try.ntmps34
    go_wp2_with (go_at_call 32; refine (validClock_any _ _ _ _ H0.out.marks H0.out.len).mono ?_; rintro e w1 ⟨he, hB1⟩; rw [hv2] at he; subst he; obtain ⟨hcc, hff⟩ := bcell hB1; have hz1' := hB1.size; simp at hz1')
    have hW : Below w.heap.size w w1 := Below.trans (by repeat (first | with_reducible exact Below.refl _ _ | with_reducible assumption | refine below_drewN ?_ _ | with_reducible refine Below.drew ?_ | (refine Below.setCell ?_ (by first | (simp; done) | (simp; omega) | omega) _) | (refine Below.alloc ?_ (by first | (simp; done) | (simp; omega) | omega) _))) (hB1.mono (by first | (simp; done) | (simp; omega) | omega))
    refine bodyPost_ret (v := .tuple #[.agg #[.int .i64 0, .int .i64 0], .int .i64 11]) (by simp [results, Try.results34, go_sem, hcc]) rfl ⟨0, 0, 11, rfl, (by repeat (first | with_reducible exact Below.refl _ _ | with_reducible assumption | refine below_drewN ?_ _ | with_reducible refine Below.drew ?_ | (refine Below.setCell ?_ (by first | (simp; done) | (simp; omega) | omega) _) | (refine Below.alloc ?_ (by first | (simp; done) | (simp; omega) | omega) _))), ?_⟩
    exact ⟨by simp [backRN, ho], by simp [backRD, ho], by simp [backE, hv2]⟩
end Go.Proofs.Ytjghlfagdleglaa
