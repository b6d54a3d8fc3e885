/-
  Contracts: firnref01.at, At, speed, Speed.
-/
import Derived.Test.YtjghlfagdleglaaRefLine
namespace Go.Proofs.Ytjghlfagdleglaa
open Go.RowKit

set_option maxRecDepth 100000 in
set_option maxHeartbeats 1600000 in
theorem refat_any (ms : List (Int × Int)) (A : Option Addr) (c : Nat) (x : Int) (w : World) (h : Clk w A c ms) (hv : vkB ms = true) (hx0 : -1 ≤ x) (hx1 : x ≤ 100001) :
    Calls Try.prog 62 #[.slice A ms.length c, .int .i64 x] w fun e w' => ∃ n d : Int, e = .returned (.agg #[.int .i64 n, .int .i64 d]) ∧ Below w.heap.size w w' ∧ Hid (n = lowN (atN ms x) (atD ms x) ∧ d = lowD (atN ms x) (atD ms x)) := by
  have H := Lib.hid h
  have HV := Lib.hid hv
  clear h hv
  have H0 := Lib.hid (H.out.below (show Below w.heap.size w (w.alloc (.cells #[.int .i64 0, .int .i64 0] 36)) from (by repeat (first | with_reducible exact Below.refl _ _ | with_reducible assumption | refine below_drewN ?_ _ | with_reducible refine Below.drew ?_ | (refine Below.setCell ?_ (by first | (simp; done) | (simp; omega) | omega) _) | (refine Below.alloc ?_ (by first | (simp; done) | (simp; omega) | omega) _)))))
  go_enter Try.func62, Try.ntmps62
  go_wp2_with (first
    | (go_at_call 71; refine (refLine_any ms A c x _ H0.out HV.out).mono ?_; rintro e w1 ⟨a, b, p, q, rfl, hB1, hpq⟩; have ha := vk_at HV.out hpq.out.1; have hp := vk_at HV.out hpq.out.2; have hlt := vk_lt HV.out hpq.out.1 hpq.out.2; have m1 := mul_box (x := b) (y := p - a) (X := 100000) (Y := 100000) (by omega) (by omega) (by omega) (by omega); have m2 := mul_box (x := x - a) (y := q - b) (X := 100001) (Y := 100000) (by omega) (by omega) (by omega) (by omega); simp only [Int.reduceMul, Int.reduceNeg] at m1 m2; obtain ⟨hcc, hff⟩ := bcell hB1; have hz1 := hB1.size; simp at hz1; have hz3 : w.heap.size < w1.heap.size := (by omega); have hz4 : w.heap.size < w1.heap.size + 1 + 1 := (by omega))
    | (go_at_call 52; refine (ratio_any _ _ _ (by omega) (by omega) (by omega) (by omega)).mono ?_; rintro e w2 ⟨rfl, hB2⟩; obtain ⟨hcc2, hff2⟩ := bcell hB2))
  have hz2 := hB2.size
  simp at hz2
  have hW1 : Below w.heap.size w w1 := Below.trans (by repeat (first | with_reducible exact Below.refl _ _ | with_reducible assumption | refine below_drewN ?_ _ | with_reducible refine Below.drew ?_ | (refine Below.setCell ?_ (by first | (simp; done) | (simp; omega) | omega) _) | (refine Below.alloc ?_ (by first | (simp; done) | (simp; omega) | omega) _))) (hB1.mono (by first | (simp; done) | (simp; omega) | omega))
  have hW : Below w.heap.size w w2 := Below.trans (by exact (by repeat (first | with_reducible exact Below.refl _ _ | with_reducible assumption | refine below_drewN ?_ _ | with_reducible refine Below.drew ?_ | (refine Below.setCell ?_ (by first | (simp; done) | (simp; omega) | omega) _) | (refine Below.alloc ?_ (by first | (simp; done) | (simp; omega) | omega) _)))) (hB2.mono (by first | (simp; done) | (simp; omega) | omega))
  have g1 : w1.heap[w.heap.size]? = some (.cells #[.int .i64 0, .int .i64 0] 36 (0, 0)) := (hB1.block w.heap.size (by simp)).trans (heap_alloc_new w _)
  have g2 := (hB2.block w.heap.size (by simp; omega)).trans ((Below.heap_alloc _ _ _ (by simp; omega)).trans ((Below.heap_alloc _ _ _ (by omega)).trans g1))
  have c0 := cell_of_row w2 w.heap.size 0 _ _ _ g2
  have c1 := cell_of_row w2 w.heap.size 1 _ _ _ g2
  simp at c0 c1
  have h1 := mA_of hpq.out.1
  have h2 := mA_of hpq.out.2
  have e1 : atN ms x = b * (p - a) + (x - a) * (q - b) := by rw [atN, h1, h2, lineN, Int.mul_one, Int.mul_one]
  have e2 : atD ms x = p - a := by rw [atD, h1, h2, lineD, Int.one_mul]
  rw [e1, e2]
  exact bodyPost_ret (v := .agg #[.int .i64 (lowN (b * (p - a) + (x - a) * (q - b)) (p - a)), .int .i64 (lowD (b * (p - a) + (x - a) * (q - b)) (p - a))]) (by simp [results, Try.results62, go_sem, c0, c1]) rfl ⟨_, _, rfl, (by repeat (first | with_reducible exact Below.refl _ _ | with_reducible assumption | refine below_drewN ?_ _ | with_reducible refine Below.drew ?_ | (refine Below.setCell ?_ (by first | (simp; done) | (simp; omega) | omega) _) | (refine Below.alloc ?_ (by first | (simp; done) | (simp; omega) | omega) _))), rfl, rfl⟩

set_option maxRecDepth 100000 in
set_option maxHeartbeats 800000 in
theorem refAt_any (ms : List (Int × Int)) (A : Option Addr) (c : Nat) (x : Int) (w : World) (h : Clk w A c ms) :
    Calls Try.prog 31 #[.slice A ms.length c, .int .i64 x] w fun e w' => ∃ n d E : Int, e = .returned (.tuple #[.agg #[.int .i64 n, .int .i64 d], .int .i64 E]) ∧ Below w.heap.size w w' ∧ Hid (n = atRN ms x ∧ d = atRD ms x ∧ E = atE ms x) := by
  have H := Lib.hid h
  clear h
  have H0 := Lib.hid (H.out.below (show Below w.heap.size w (w.alloc (.cells #[.int .i64 0, .int .i64 0] 36)) from (by repeat (first | with_reducible exact Below.refl _ _ | with_reducible assumption | refine below_drewN ?_ _ | with_reducible refine Below.drew ?_ | (refine Below.setCell ?_ (by first | (simp; done) | (simp; omega) | omega) _) | (refine Below.alloc ?_ (by first | (simp; done) | (simp; omega) | omega) _)))))
  by_cases hv : vkB ms = true
  · have HV := Lib.hid hv
    clear hv
    by_cases ht : tickB x = true
    · have hok : okAt ms x = true := by simp [okAt, HV.out, ht]
      have HOK := Lib.hid hok
      clear hok
      obtain ⟨hx0, hx1⟩ : 0 ≤ x ∧ x ≤ 100000 := by simpa [tickB] using ht
      go_enter Try.func31, Try.ntmps31
      go_wp2_with (first
        | (go_at_call 33; refine (refValidClock_any _ _ _ _ H0.out.marks H0.out.len).mono ?_; rintro e w1 ⟨he, hB1⟩; rw [HV.out] at he; subst he)
        | (go_at_call 61; refine (isTick_any _ _).mono ?_; rintro e w' ⟨rfl, rfl⟩)
        | (go_at_call 62; refine (refat_any _ _ _ _ _ (H0.out.below hB1) HV.out (by omega) (by omega)).mono ?_; rintro e w2 ⟨n, d, rfl, hB2, hnd⟩; obtain ⟨hcc, hff⟩ := bcell hB1; obtain ⟨hcc2, hff2⟩ := bcell hB2; have hz1 := hB1.size; have hz2 := hB2.size; simp at hz1; have hz3 : w.heap.size < w1.heap.size := (by omega)))
      have hW : Below w.heap.size w w2 := Below.trans (Below.trans (by repeat (first | with_reducible exact Below.refl _ _ | with_reducible assumption | refine below_drewN ?_ _ | with_reducible refine Below.drew ?_ | (refine Below.setCell ?_ (by first | (simp; done) | (simp; omega) | omega) _) | (refine Below.alloc ?_ (by first | (simp; done) | (simp; omega) | omega) _))) (hB1.mono (by first | (simp; done) | (simp; omega) | omega))) (hB2.mono (by omega))
      refine bodyPost_ret (v := .tuple #[.agg #[.int .i64 n, .int .i64 d], .int .i64 0]) (by simp [results, Try.results31, go_sem, hcc, hcc2, hz3]) rfl ⟨n, d, 0, rfl, (by repeat (first | with_reducible exact Below.refl _ _ | with_reducible assumption | refine below_drewN ?_ _ | with_reducible refine Below.drew ?_ | (refine Below.setCell ?_ (by first | (simp; done) | (simp; omega) | omega) _) | (refine Below.alloc ?_ (by first | (simp; done) | (simp; omega) | omega) _))), ?_⟩
      exact ⟨by rw [atRN, if_pos HOK.out]; exact hnd.out.1, by rw [atRD, if_pos HOK.out]; exact hnd.out.2, (atE_ok HOK.out).symm⟩
    · have ht2 : tickB x = false := by simpa using ht
      have fin : Hid (0 = atRN ms x ∧ 0 = atRD ms x ∧ 2 = atE ms x) := ⟨by simp [atRN, okAt, ht2], by simp [atRD, okAt, ht2], by simp [atE, HV.out, ht2]⟩
      go_enter Try.func31, Try.ntmps31
      go_wp2_with (first
        | (go_at_call 33; refine (refValidClock_any _ _ _ _ H0.out.marks H0.out.len).mono ?_; rintro e w1 ⟨he, hB1⟩; rw [HV.out] at he; subst he; obtain ⟨hcc, hff⟩ := bcell hB1; have hz1 := hB1.size; simp at hz1)
        | (go_at_call 61; refine (isTick_any _ _).mono ?_; rintro e w' ⟨rfl, rfl⟩))
      have hW : Below w.heap.size w w1 := Below.trans (by repeat (first | with_reducible exact Below.refl _ _ | with_reducible assumption | refine below_drewN ?_ _ | with_reducible refine Below.drew ?_ | (refine Below.setCell ?_ (by first | (simp; done) | (simp; omega) | omega) _) | (refine Below.alloc ?_ (by first | (simp; done) | (simp; omega) | omega) _))) (hB1.mono (by first | (simp; done) | (simp; omega) | omega))
      exact bodyPost_ret (v := .tuple #[.agg #[.int .i64 0, .int .i64 0], .int .i64 2]) (by simp [results, Try.results31, go_sem, hcc]) rfl ⟨0, 0, 2, rfl, (by repeat (first | with_reducible exact Below.refl _ _ | with_reducible assumption | refine below_drewN ?_ _ | with_reducible refine Below.drew ?_ | (refine Below.setCell ?_ (by first | (simp; done) | (simp; omega) | omega) _) | (refine Below.alloc ?_ (by first | (simp; done) | (simp; omega) | omega) _))), fin⟩
  · have hv2 : vkB ms = false := by simpa using hv
    have fin : Hid (0 = atRN ms x ∧ 0 = atRD ms x ∧ 11 = atE ms x) := ⟨by simp [atRN, okAt, hv2], by simp [atRD, okAt, hv2], by simp [atE, hv2]⟩
    go_enter Try.func31, Try.ntmps31
    go_wp2_with (go_at_call 33; refine (refValidClock_any _ _ _ _ H0.out.marks H0.out.len).mono ?_; rintro e w1 ⟨he, hB1⟩; rw [hv2] at he; subst he; obtain ⟨hcc, hff⟩ := bcell hB1; have hz1 := hB1.size; simp at hz1)
    have hW : Below w.heap.size w w1 := Below.trans (by repeat (first | with_reducible exact Below.refl _ _ | with_reducible assumption | refine below_drewN ?_ _ | with_reducible refine Below.drew ?_ | (refine Below.setCell ?_ (by first | (simp; done) | (simp; omega) | omega) _) | (refine Below.alloc ?_ (by first | (simp; done) | (simp; omega) | omega) _))) (hB1.mono (by first | (simp; done) | (simp; omega) | omega))
    exact bodyPost_ret (v := .tuple #[.agg #[.int .i64 0, .int .i64 0], .int .i64 11]) (by simp [results, Try.results31, go_sem, hcc]) rfl ⟨0, 0, 11, rfl, (by repeat (first | with_reducible exact Below.refl _ _ | with_reducible assumption | refine below_drewN ?_ _ | with_reducible refine Below.drew ?_ | (refine Below.setCell ?_ (by first | (simp; done) | (simp; omega) | omega) _) | (refine Below.alloc ?_ (by first | (simp; done) | (simp; omega) | omega) _))), fin⟩

set_option maxRecDepth 100000 in
theorem refspeed_any (a b p q : Int) (w : World) (ha : 0 ≤ a) (hb : 0 ≤ b) (hap : a < p) (hbq : b < q) (hp : p ≤ 100000) (hq : q ≤ 100000) :
    Calls Try.prog 72 #[.agg #[.int .i64 a, .int .i64 b], .agg #[.int .i64 p, .int .i64 q]] w fun e w' =>
      e = .returned (.agg #[.int .i64 (lowN (q - b) (p - a)), .int .i64 (lowD (q - b) (p - a))]) ∧ Below w.heap.size w w' := by
  go_enter Try.func72, Try.ntmps72
  go_wp2_with (go_at_call 52; refine (ratio_any _ _ _ (by omega) (by omega) (by omega) (by omega)).mono ?_; rintro e w1 ⟨rfl, hB1⟩; obtain ⟨hcc, hff⟩ := bcell hB1)
  have hz1 := hB1.size
  simp at hz1
  have hBw : Below w.heap.size w w1 := Below.trans (by repeat (first | with_reducible exact Below.refl _ _ | with_reducible assumption | refine below_drewN ?_ _ | with_reducible refine Below.drew ?_ | (refine Below.setCell ?_ (by first | (simp; done) | (simp; omega) | omega) _) | (refine Below.alloc ?_ (by first | (simp; done) | (simp; omega) | omega) _))) (hB1.mono (by first | (simp; done) | (simp; omega) | omega))
  exact bodyPost_ret (v := .agg #[.int .i64 (lowN (q - b) (p - a)), .int .i64 (lowD (q - b) (p - a))]) (by simp [results, Try.results72, go_sem, hcc]) rfl ⟨rfl, (by repeat (first | with_reducible exact Below.refl _ _ | with_reducible assumption | refine below_drewN ?_ _ | with_reducible refine Below.drew ?_ | (refine Below.setCell ?_ (by first | (simp; done) | (simp; omega) | omega) _) | (refine Below.alloc ?_ (by first | (simp; done) | (simp; omega) | omega) _)))⟩

set_option maxRecDepth 100000 in
set_option maxHeartbeats 800000 in
theorem refSpeed_any (ms : List (Int × Int)) (A : Option Addr) (c : Nat) (x : Int) (w : World) (h : Clk w A c ms) :
    Calls Try.prog 37 #[.slice A ms.length c, .int .i64 x] w fun e w' => ∃ n d E : Int, e = .returned (.tuple #[.agg #[.int .i64 n, .int .i64 d], .int .i64 E]) ∧ Below w.heap.size w w' ∧ Hid (n = spRN ms x ∧ d = spRD ms x ∧ E = atE ms x) := by
  have H := Lib.hid h
  clear h
  have H0 := Lib.hid (H.out.below (show Below w.heap.size w (w.alloc (.cells #[.int .i64 0, .int .i64 0] 36)) from (by repeat (first | with_reducible exact Below.refl _ _ | with_reducible assumption | refine below_drewN ?_ _ | with_reducible refine Below.drew ?_ | (refine Below.setCell ?_ (by first | (simp; done) | (simp; omega) | omega) _) | (refine Below.alloc ?_ (by first | (simp; done) | (simp; omega) | omega) _)))))
  by_cases hv : vkB ms = true
  · have HV := Lib.hid hv
    clear hv
    by_cases ht : tickB x = true
    · have hok : okAt ms x = true := by simp [okAt, HV.out, ht]
      have HOK := Lib.hid hok
      clear hok
      go_enter Try.func37, Try.ntmps37
      go_wp2_with (first
        | (go_at_call 33; refine (refValidClock_any _ _ _ _ H0.out.marks H0.out.len).mono ?_; rintro e w1 ⟨he, hB1⟩; rw [HV.out] at he; subst he)
        | (go_at_call 61; refine (isTick_any _ _).mono ?_; rintro e w' ⟨rfl, rfl⟩)
        | (go_at_call 71; refine (refLine_any ms A c x _ (H0.out.below hB1) HV.out).mono ?_; rintro e w2 ⟨a, b, p, q, rfl, hB2, hpq⟩; have ha := vk_at HV.out hpq.out.1; have hp := vk_at HV.out hpq.out.2; have hlt := vk_lt HV.out hpq.out.1 hpq.out.2; have hz1 := hB1.size; have hz2 := hB2.size; simp at hz1)
        | (go_at_call 72; refine (refspeed_any a b p q _ (by omega) (by omega) (by omega) (by omega) (by omega) (by omega)).mono ?_; rintro e w3 ⟨rfl, hB3⟩; have g1 := (hB1.block w.heap.size (by simp)).trans (heap_alloc_new w (.cells #[.int .i64 0, .int .i64 0] 36)); have g2 := (hB2.block w.heap.size (by omega)).trans g1; have g3 := (hB3.block w.heap.size (by simp; omega)).trans ((Below.heap_alloc _ _ _ (by simp; omega)).trans ((Below.heap_alloc _ _ _ (by omega)).trans g2)); have c0 := cell_of_row w3 w.heap.size 0 _ _ _ g3; have c1 := cell_of_row w3 w.heap.size 1 _ _ _ g3; have e0 := blk_frozen g3 0; have e1 := blk_frozen g3 1; clear g1 g2 g3; simp at c0 c1))
      have hz3 := hB3.size
      simp at hz3
      have hW2 : Below w.heap.size w w2 := Below.trans (Below.trans (by repeat (first | with_reducible exact Below.refl _ _ | with_reducible assumption | refine below_drewN ?_ _ | with_reducible refine Below.drew ?_ | (refine Below.setCell ?_ (by first | (simp; done) | (simp; omega) | omega) _) | (refine Below.alloc ?_ (by first | (simp; done) | (simp; omega) | omega) _))) (hB1.mono (by first | (simp; done) | (simp; omega) | omega))) (hB2.mono (by omega))
      have hW : Below w.heap.size w w3 := Below.trans (by exact (by repeat (first | with_reducible exact Below.refl _ _ | with_reducible assumption | refine below_drewN ?_ _ | with_reducible refine Below.drew ?_ | (refine Below.setCell ?_ (by first | (simp; done) | (simp; omega) | omega) _) | (refine Below.alloc ?_ (by first | (simp; done) | (simp; omega) | omega) _)))) (hB3.mono (by first | (simp; done) | (simp; omega) | omega))
      refine bodyPost_ret (v := .tuple #[.agg #[.int .i64 (lowN (q - b) (p - a)), .int .i64 (lowD (q - b) (p - a))], .int .i64 0]) (by simp [results, Try.results37, go_sem, c0, c1]) rfl ⟨_, _, 0, rfl, (by repeat (first | with_reducible exact Below.refl _ _ | with_reducible assumption | refine below_drewN ?_ _ | with_reducible refine Below.drew ?_ | (refine Below.setCell ?_ (by first | (simp; done) | (simp; omega) | omega) _) | (refine Below.alloc ?_ (by first | (simp; done) | (simp; omega) | omega) _))), ?_⟩
      have h1 := mA_of hpq.out.1
      have h2 := mA_of hpq.out.2
      refine ⟨?_, ?_, (atE_ok HOK.out).symm⟩
      · rw [spRN, if_pos HOK.out, spN, spD, h1, h2]
      · rw [spRD, if_pos HOK.out, spN, spD, h1, h2]
    · have ht2 : tickB x = false := by simpa using ht
      have fin : Hid (0 = spRN ms x ∧ 0 = spRD ms x ∧ 2 = atE ms x) := ⟨by simp [spRN, okAt, ht2], by simp [spRD, okAt, ht2], by simp [atE, HV.out, ht2]⟩
      go_enter Try.func37, Try.ntmps37
      go_wp2_with (first
        | (go_at_call 33; refine (refValidClock_any _ _ _ _ H0.out.marks H0.out.len).mono ?_; rintro e w1 ⟨he, hB1⟩; rw [HV.out] at he; subst he; obtain ⟨hcc, hff⟩ := bcell hB1; have hz1 := hB1.size; simp at hz1)
        | (go_at_call 61; refine (isTick_any _ _).mono ?_; rintro e w' ⟨rfl, rfl⟩))
      have hW : Below w.heap.size w w1 := Below.trans (by repeat (first | with_reducible exact Below.refl _ _ | with_reducible assumption | refine below_drewN ?_ _ | with_reducible refine Below.drew ?_ | (refine Below.setCell ?_ (by first | (simp; done) | (simp; omega) | omega) _) | (refine Below.alloc ?_ (by first | (simp; done) | (simp; omega) | omega) _))) (hB1.mono (by first | (simp; done) | (simp; omega) | omega))
      exact bodyPost_ret (v := .tuple #[.agg #[.int .i64 0, .int .i64 0], .int .i64 2]) (by simp [results, Try.results37, go_sem, hcc]) rfl ⟨0, 0, 2, rfl, (by repeat (first | with_reducible exact Below.refl _ _ | with_reducible assumption | refine below_drewN ?_ _ | with_reducible refine Below.drew ?_ | (refine Below.setCell ?_ (by first | (simp; done) | (simp; omega) | omega) _) | (refine Below.alloc ?_ (by first | (simp; done) | (simp; omega) | omega) _))), fin⟩
  · have hv2 : vkB ms = false := by simpa using hv
    have fin : Hid (0 = spRN ms x ∧ 0 = spRD ms x ∧ 11 = atE ms x) := ⟨by simp [spRN, okAt, hv2], by simp [spRD, okAt, hv2], by simp [atE, hv2]⟩
    go_enter Try.func37, Try.ntmps37
    go_wp2_with (go_at_call 33; refine (refValidClock_any _ _ _ _ H0.out.marks H0.out.len).mono ?_; rintro e w1 ⟨he, hB1⟩; rw [hv2] at he; subst he; obtain ⟨hcc, hff⟩ := bcell hB1; have hz1 := hB1.size; simp at hz1)
    have hW : Below w.heap.size w w1 := Below.trans (by repeat (first | with_reducible exact Below.refl _ _ | with_reducible assumption | refine below_drewN ?_ _ | with_reducible refine Below.drew ?_ | (refine Below.setCell ?_ (by first | (simp; done) | (simp; omega) | omega) _) | (refine Below.alloc ?_ (by first | (simp; done) | (simp; omega) | omega) _))) (hB1.mono (by first | (simp; done) | (simp; omega) | omega))
    exact bodyPost_ret (v := .tuple #[.agg #[.int .i64 0, .int .i64 0], .int .i64 11]) (by simp [results, Try.results37, go_sem, hcc]) rfl ⟨0, 0, 11, rfl, (by repeat (first | with_reducible exact Below.refl _ _ | with_reducible assumption | refine below_drewN ?_ _ | with_reducible refine Below.drew ?_ | (refine Below.setCell ?_ (by first | (simp; done) | (simp; omega) | omega) _) | (refine Below.alloc ?_ (by first | (simp; done) | (simp; omega) | omega) _))), fin⟩
end Go.Proofs.Ytjghlfagdleglaa
