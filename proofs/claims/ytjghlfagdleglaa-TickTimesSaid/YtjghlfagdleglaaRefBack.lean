/-
  Contract: firnref01.Back.
-/
import Derived.Test.YtjghlfagdleglaaRefAt
namespace Go.Proofs.Ytjghlfagdleglaa
open Go.RowKit

theorem low_mul {L X : Int} (hX : 0 < X) : lowN (L * X) X = L ∧ lowD (L * X) X = 1 := by
  have hg : (Int.gcd (L * X) X : Int) = X := by
    rw [Int.gcd_mul_left_left]
    exact Int.natAbs_of_nonneg (by omega)
  rw [lowN, lowD, hg]
  exact ⟨Int.mul_ediv_cancel _ (by omega), Int.ediv_self (by omega)⟩
theorem cell_drewN' (w : World) (n : Nat) (p : Addr) : (w.drewN n).cell? p = w.cell? p := rfl
theorem set_far4 {w : World} {g g' h : Nat} {x y z u : Value} (h1 : h ≠ g) (h2 : h ≠ g') : ((((w.setCell ⟨g, 0, none⟩ x).setCell ⟨g, 1, none⟩ y).setCell ⟨g', 0, none⟩ z).setCell ⟨g', 1, none⟩ u).heap[h]? = w.heap[h]? := by
  rw [Below.heap_setCell _ _ _ _ h2, Below.heap_setCell _ _ _ _ h2, Below.heap_setCell _ _ _ _ h1, Below.heap_setCell _ _ _ _ h1]
def segS (ms : List (Int × Int)) (N D : Int) (k : Nat) : Nat := segI (fun i => decide ((ms.getD i (0, 0)).2 * D < N)) k
theorem segI_congr {p q : Nat → Bool} : ∀ {k : Nat}, (∀ j, 1 ≤ j → j ≤ k → p j = q j) → segI p k = segI q k
  | 0, _ => rfl
  | k + 1, h => by
    rw [segI, segI, h (k + 1) (by omega) (by omega), segI_congr (k := k) fun j a b => h j a (by omega)]
theorem mul_lt_D {a b D : Int} (h : a < b) (hD : 1 ≤ D) : a * D < b * D := Int.mul_lt_mul_of_pos_right h (by omega)
theorem back_same {ms : List (Int × Int)} {N D : Int} (hv : vkB ms = true) (hD : 1 ≤ D) :
    lowN (backNj ms (segS ms N D (ms.length - 2)) N D) (backDj ms (segS ms N D (ms.length - 2)) D) = lowN (backNj ms (segT ms N D) N D) (backDj ms (segT ms N D) D) ∧
    lowD (backNj ms (segS ms N D (ms.length - 2)) N D) (backDj ms (segS ms N D (ms.length - 2)) D) = lowD (backNj ms (segT ms N D) N D) (backDj ms (segT ms N D) D) := by
  obtain ⟨hn2, _⟩ := vk_parts hv
  by_cases hex : ∃ i, 1 ≤ i ∧ i ≤ ms.length - 2 ∧ (mA ms i).2 * D = N
  · obtain ⟨i, h1, hi, he⟩ := hex
    have hlow : ∀ j, j < i → (mA ms j).2 * D < N := fun j hj => by rw [← he]; exact mul_lt_D (asc_mono hv hj (by omega)).2 hD
    have hhigh : ∀ j, i < j → j < ms.length → N < (mA ms j).2 * D := fun j hj hl => by rw [← he]; exact mul_lt_D (asc_mono hv hj hl).2 hD
    have eT : segT ms N D = i := by
      refine segI_cut hi (fun j a b => ?_) (fun j a b => ?_)
      · rcases Nat.lt_or_ge j i with h | h
        · have := hlow j h
          simp only [mA] at this
          simpa using (by omega : (ms.getD j (0, 0)).2 * D ≤ N)
        · obtain rfl : j = i := by omega
          simp only [mA] at he
          simpa using (by omega : (ms.getD j (0, 0)).2 * D ≤ N)
      · have := hhigh j a (by omega)
        simp only [mA] at this
        simpa using (by omega : N < (ms.getD j (0, 0)).2 * D)
    have eS : segS ms N D (ms.length - 2) = i - 1 := by
      refine segI_cut (by omega) (fun j a b => ?_) (fun j a b => ?_)
      · have := hlow j (by omega)
        simp only [mA] at this
        simpa using this
      · rcases Nat.lt_or_ge i j with h | h
        · have := hhigh j h (by omega)
          simp only [mA] at this
          simpa using (by omega : N ≤ (ms.getD j (0, 0)).2 * D)
        · obtain rfl : j = i := by omega
          simp only [mA] at he
          simpa using (by omega : N ≤ (ms.getD j (0, 0)).2 * D)
    rw [eT, eS]
    have a1 := asc_mono hv (show i < i + 1 by omega) (by omega)
    have a2 := asc_mono hv (show i - 1 < i by omega) (by omega)
    have e0 : i - 1 + 1 = i := by omega
    have x1 : backNj ms i N D = (mA ms i).1 * backDj ms i D := by
      rw [backNj, backDj, lineN, lineD, he]
      rw [Int.sub_self, Int.zero_mul, Int.add_zero, Int.mul_assoc]
    have x2 : backNj ms (i - 1) N D = (mA ms i).1 * backDj ms (i - 1) D := by
      rw [backNj, backDj, lineN, lineD, e0, ← he, ← Int.sub_mul]
      generalize (mA ms i).2 = t; generalize (mA ms (i - 1)).2 = s; generalize (mA ms i).1 = l; generalize (mA ms (i - 1)).1 = k
      have : (t - s) * D * (l - k) = l * (D * (t - s)) - k * D * (t - s) := by
        rw [Int.mul_sub, Int.mul_comm ((t - s) * D) l, Int.mul_comm (t - s) D, Int.mul_comm (D * (t - s)) k, Int.mul_assoc k]
      omega
    have p1 : 0 < backDj ms i D := by rw [backDj, lineD]; exact Int.mul_pos (by omega) (by omega)
    have p2 : 0 < backDj ms (i - 1) D := by rw [backDj, lineD, e0]; exact Int.mul_pos (by omega) (by omega)
    rw [x1, x2, (low_mul p1).1, (low_mul p1).2, (low_mul p2).1, (low_mul p2).2]
    exact ⟨rfl, rfl⟩
  · have : segS ms N D (ms.length - 2) = segT ms N D := segI_congr fun j a b => by
      have hne : (mA ms j).2 * D ≠ N := fun e => hex ⟨j, a, b, e⟩
      show decide ((ms.getD j (0, 0)).2 * D < N) = decide ((ms.getD j (0, 0)).2 * D ≤ N)
      simp only [mA] at hne
      generalize (ms.getD j (0, 0)).2 * D = v at hne ⊢
      rw [Bool.eq_iff_iff]; simp; omega
    rw [this]
    exact ⟨rfl, rfl⟩

set_option maxRecDepth 100000 in
set_option maxHeartbeats 3200000 in
theorem refBack_any (ms : List (Int × Int)) (A : Option Addr) (c : Nat) (N D : Int) (w : World) (h : Clk w A c ms) :
    Calls Try.prog 35 #[.slice A ms.length c, .agg #[.int .i64 N, .int .i64 D]] w fun e w' => ∃ n d E : Int, e = .returned (.tuple #[.agg #[.int .i64 n, .int .i64 d], .int .i64 E]) ∧ Below w.heap.size w w' ∧ Hid (n = backRN ms N D ∧ d = backRD ms N D ∧ E = backE ms N D) := by
  have H := Lib.hid h
  clear h
  have H0 := Lib.hid (H.out.below (show Below w.heap.size w ((w.alloc (.cells #[.int .i64 N, .int .i64 D] 36)).alloc (.cells #[.int .i64 0, .int .i64 0] 36)) from (by repeat (first | with_reducible exact Below.refl _ _ | with_reducible assumption | refine below_drewN ?_ _ | with_reducible refine Below.drew ?_ | (refine Below.setCell ?_ (by first | (simp; done) | (simp; omega) | omega) _) | (refine Below.alloc ?_ (by first | (simp; done) | (simp; omega) | omega) _)))))
  by_cases hv : vkB ms = true
  · have HV := Lib.hid hv
    clear hv
    by_cases ht : (1 ≤ D ∧ D ≤ 100000) ∧ (-100000000000 ≤ N ∧ N ≤ 100000000000)
    · have HT : Hid (okT N D = true) := decide_eq_true ht
      obtain ⟨⟨hD0, hD1⟩, hN0, hN1⟩ := ht
      have t1 : decide (D < 1) = false := decide_eq_false (by omega)
      have t2 : decide (100000 < D) = false := decide_eq_false (by omega)
      have t3 : decide (N < -100000000000) = false := decide_eq_false (by omega)
      have t4 : decide (100000000000 < N) = false := decide_eq_false (by omega)
      obtain ⟨hn2, hn30⟩ := vk_parts HV.out
      have HM := Lib.hid H.out.marks
      obtain ⟨bl, off, rfl, hbk, hcells⟩ := H.out.marks.open_ (by omega)
      go_enter Try.func35, Try.ntmps35
      go_wp2_with (go_at_call 33; refine (refValidClock_any _ _ _ _ H0.out.marks H0.out.len).mono ?_; rintro e w1 ⟨he, hB1⟩; rw [HV.out] at he; subst he; obtain ⟨hcc, hff⟩ := bcell hB1; have hz1' := hB1.size; simp at hz1')
      have hW : Below w.heap.size w w1 := Below.trans (by repeat (first | with_reducible exact Below.refl _ _ | with_reducible assumption | refine below_drewN ?_ _ | with_reducible refine Below.drew ?_ | (refine Below.setCell ?_ (by first | (simp; done) | (simp; omega) | omega) _) | (refine Below.alloc ?_ (by first | (simp; done) | (simp; omega) | omega) _))) (hB1.mono (by first | (simp; done) | (simp; omega) | omega))
      have k5 : w1.heap[w.heap.size]? = some (.cells #[.int .i64 N, .int .i64 D] 36 (0, 0)) := (hB1.block w.heap.size (by simp; omega)).trans ((Below.heap_alloc _ _ _ (by simp)).trans (heap_alloc_new w _))
      have k0 : w1.heap[w.heap.size + 1]? = some (.cells #[.int .i64 0, .int .i64 0] 36 (0, 0)) := (hB1.block (w.heap.size + 1) (by simp)).trans (by rw [show w.heap.size + 1 = (w.alloc (.cells #[.int .i64 N, .int .i64 D] 36)).heap.size by simp]; exact heap_alloc_new _ _)
      have HC : Hid (∀ (k : Nat) (m : Int × Int), ms[k]? = some m → w1.cell? ⟨bl, off + k * 2, none⟩ = some (.int .i64 m.1) ∧ w1.cell? ⟨bl, off + k * 2 + 1, none⟩ = some (.int .i64 m.2)) :=
        fun k m hm => ⟨(hW.cell (p := ⟨bl, _, none⟩) hbk).trans (hcells k m hm).1, (hW.cell (p := ⟨bl, _, none⟩) hbk).trans (hcells k m hm).2⟩
      have HCW := Lib.hid hcells
      clear hcc hff hB1 hcells H0 HM
      obtain ⟨a0, b0, hm0⟩ := getM_of_lt (show 0 < ms.length by omega)
      obtain ⟨p0, q0, hm1⟩ := getM_of_lt (show 1 < ms.length by omega)
      have f0 : w1.cell? ⟨bl, off, none⟩ = some (.int .i64 a0) := by simpa using (HC.out 0 _ hm0).1
      have f1 : w1.cell? ⟨bl, off + 1, none⟩ = some (.int .i64 b0) := by simpa using (HC.out 0 _ hm0).2
      have f2 : w1.cell? ⟨bl, off + 2, none⟩ = some (.int .i64 p0) := by simpa using (HC.out 1 _ hm1).1
      have f3 : w1.cell? ⟨bl, off + 3, none⟩ = some (.int .i64 q0) := by simpa using (HC.out 1 _ hm1).2
      have HM0 := Lib.hid hm0
      have HM1 := Lib.hid hm1
      clear hm0 hm1
      have j0 : 0 < ms.length := by omega
      have j1 : 1 < ms.length := by omega
      have hb1 : bl < w1.heap.size := by omega
      have j2 : (0 : Int) < (ms.length : Int) := by omega
      have j3 : (1 : Int) < (ms.length : Int) := by omega
      go_region_held3 (fun w' => w'.cell? ⟨bl, off, none⟩ = some (.int .i64 a0) ∧ w'.cell? ⟨bl, off + 1, none⟩ = some (.int .i64 b0) ∧ w'.cell? ⟨bl, off + 2, none⟩ = some (.int .i64 p0) ∧ w'.cell? ⟨bl, off + 3, none⟩ = some (.int .i64 q0))
        (go_keep)
        ((fail))
      · have hBW : Below w.heap.size w ((w1.alloc (.cells #[.int .i64 a0, .int .i64 b0] 61)).alloc (.cells #[.int .i64 p0, .int .i64 q0] 61)) := (hW.alloc (by omega) _).alloc (by simp; omega) _
        have k5 : ((w1.alloc (.cells #[.int .i64 a0, .int .i64 b0] 61)).alloc (.cells #[.int .i64 p0, .int .i64 q0] 61)).heap[w.heap.size]? = some (.cells #[.int .i64 N, .int .i64 D] 36 (0, 0)) := (Below.heap_alloc _ _ _ (by simp; omega)).trans ((Below.heap_alloc _ _ _ (by omega)).trans k5)
        have k0 : ((w1.alloc (.cells #[.int .i64 a0, .int .i64 b0] 61)).alloc (.cells #[.int .i64 p0, .int .i64 q0] 61)).heap[w.heap.size + 1]? = some (.cells #[.int .i64 0, .int .i64 0] 36 (0, 0)) := (Below.heap_alloc _ _ _ (by simp; omega)).trans ((Below.heap_alloc _ _ _ (by omega)).trans k0)
        have hn0 : ((w1.alloc (.cells #[.int .i64 a0, .int .i64 b0] 61)).alloc (.cells #[.int .i64 p0, .int .i64 q0] 61)).heap[w1.heap.size]? = some (.cells #[.int .i64 a0, .int .i64 b0] 61 (0, 0)) := (Below.heap_alloc _ _ _ (by simp)).trans (heap_alloc_new w1 _)
        have hn1 : ((w1.alloc (.cells #[.int .i64 a0, .int .i64 b0] 61)).alloc (.cells #[.int .i64 p0, .int .i64 q0] 61)).heap[w1.heap.size + 1]? = some (.cells #[.int .i64 p0, .int .i64 q0] 61 (0, 0)) := by
          rw [show w1.heap.size + 1 = (w1.alloc (.cells #[.int .i64 a0, .int .i64 b0] 61)).heap.size by simp]; exact heap_alloc_new _ _
        generalize ((w1.alloc (.cells #[.int .i64 a0, .int .i64 b0] 61)).alloc (.cells #[.int .i64 p0, .int .i64 q0] 61)) = W at *
        have hg2 : w.heap.size + 2 ≤ w1.heap.size := by omega
        clear hW HC hz1' hb1 f0 f1 f2 f3 j0 j1 j2 j3
        have hgab0 : w1.heap.size < w1.heap.size + 1 := by omega
        generalize w1.heap.size + 1 = gb at *
        generalize w1.heap.size = ga at *
        have hga := hn0
        have hgb := hn1
        have hgab : ga ≠ gb := by omega
        clear hn0 hn1
        have hcw : Hid (∀ (k : Nat) (m : Int × Int), ms[k]? = some m → w.cell? ⟨bl, off + k * 2, none⟩ = some (.int .i64 m.1) ∧ w.cell? ⟨bl, off + k * 2 + 1, none⟩ = some (.int .i64 m.2)) := HCW.out
        go_wp2
        go_loopw [8] (fun i wr => ∃ (k : Nat) (a b p q : Int), 2 ≤ k ∧ k ≤ ms.length ∧ i = .int .i64 k ∧ Below w.heap.size w wr ∧ wr.heap[w.heap.size]? = some (.cells #[.int .i64 N, .int .i64 D] 36 (0, 0)) ∧ wr.heap[w.heap.size + 1]? = some (.cells #[.int .i64 0, .int .i64 0] 36 (0, 0)) ∧
            wr.heap[ga]? = some (.cells #[.int .i64 a, .int .i64 b] 61 (0, 0)) ∧ wr.heap[gb]? = some (.cells #[.int .i64 p, .int .i64 q] 61 (0, 0)) ∧
            Hid (ms[segS ms N D (k - 2)]? = some (a, b) ∧ ms[segS ms N D (k - 2) + 1]? = some (p, q))) (fun i _ => ms.length - (intOf i).toNat)
        case atStart => exact ⟨2, a0, b0, p0, q0, by omega, by omega, rfl, hBW.drew, k5, k0, hga, hgb, HM0.out, HM1.out⟩
        case round =>
          clear hBW k5 k0 hga hgb
          obtain ⟨k, a, b, p, q, hk2, hk, rfl, hB, k5, k0, hga, hgb, hpq⟩ := hrel
          have b0 := cell_of_row wr _ 0 _ _ _ k5
          have b1 := cell_of_row wr _ 1 _ _ _ k5
          have c0 := cell_of_row wr _ 0 _ _ _ hga
          have c1 := cell_of_row wr _ 1 _ _ _ hga
          have c2 := cell_of_row wr _ 0 _ _ _ hgb
          have c3 := cell_of_row wr _ 1 _ _ _ hgb
          have e0 := blk_frozen hga 0
          have e1 := blk_frozen hga 1
          have e2 := blk_frozen hgb 0
          have e3 := blk_frozen hgb 1
          simp at b0 b1 c0 c1 c2 c3
          have K5 := Lib.hid k5
          have K0 := Lib.hid k0
          have HGA := Lib.hid hga
          have HGB := Lib.hid hgb
          clear k5 k0 hga hgb
          by_cases hlt : k < ms.length
          · obtain ⟨u, v, hx⟩ := getM_of_lt (show k - 1 < ms.length by omega)
            obtain ⟨y, z, hy⟩ := getM_of_lt hlt
            have f0 := (hB.cell (p := ⟨bl, off + (k - 1) * 2, none⟩) hbk).trans (hcw.out _ _ hx).1
            have f1 := (hB.cell (p := ⟨bl, off + (k - 1) * 2 + 1, none⟩) hbk).trans (hcw.out _ _ hx).2
            have f2 := (hB.cell (p := ⟨bl, off + k * 2, none⟩) hbk).trans (hcw.out _ _ hy).1
            have f3 := (hB.cell (p := ⟨bl, off + k * 2 + 1, none⟩) hbk).trans (hcw.out _ _ hy).2
            have hv := vk_at HV.out hx
            have HX := Lib.hid hx
            have HY := Lib.hid hy
            clear hx hy
            have i0 : (0 : Int) ≤ (k : Int) := by omega
            have i1 : (k : Int) < (ms.length : Int) := by omega
            have i3 : (0 : Int) ≤ (k : Int) - 1 := by omega
            have i4 : (k : Int) - 1 < (ms.length : Int) := by omega
            have i7 : (1 : Int) ≤ (k : Int) := by omega
            have i8 : (k : Int) ≤ (ms.length : Int) := by omega
            have i2 : IntKind.i64.wrap ((k : Int) - 1) = (k : Int) - 1 := IntWalk.i64_in _ (by omega)
            have i5 : ((k : Int) - 1).toNat = k - 1 := by omega
            have hm1 := mul_tick (a := v) (D := D) (by omega) (by omega) hD0 hD1
            have iw : IntKind.i64.wrap (v * D) = v * D := IntWalk.i64_in _ (by omega)
            have hne : bl ≠ ga := by omega
            have hne2 : bl ≠ gb := by omega
            by_cases htt : v * D < N
            · have hdt : decide (v * D < N) = true := decide_eq_true htt
              have hseg : Hid (segS ms N D (k + 1 - 2) = k - 1) := by
                show segS ms N D (k + 1 - 2) = k - 1
                rw [show k + 1 - 2 = (k - 2) + 1 by omega, segS, segI_yes (by show decide _ = true; rw [show k - 2 + 1 = k - 1 by omega, getDM HX.out]; exact hdt)]
                omega
              go_wp2
              go_quiet (fail)
              go_wp2
              have G0 := Lib.hid (And.intro HGA.out HGB.out)
              have f0' : (wr.drewN nq).cell? ⟨bl, off + (k - 1) * 2, none⟩ = some (.int .i64 u) := f0
              have f1' : (wr.drewN nq).cell? ⟨bl, off + (k - 1) * 2 + 1, none⟩ = some (.int .i64 v) := f1
              have f2' : (wr.drewN nq).cell? ⟨bl, off + k * 2, none⟩ = some (.int .i64 y) := f2
              have f3' : (wr.drewN nq).cell? ⟨bl, off + k * 2 + 1, none⟩ = some (.int .i64 z) := f3
              go_region_held3 (fun w' => w'.cell? ⟨bl, off + (k - 1) * 2, none⟩ = some (.int .i64 u) ∧ w'.cell? ⟨bl, off + (k - 1) * 2 + 1, none⟩ = some (.int .i64 v) ∧ w'.cell? ⟨bl, off + k * 2, none⟩ = some (.int .i64 y) ∧ w'.cell? ⟨bl, off + k * 2 + 1, none⟩ = some (.int .i64 z))
                (refine ⟨?_, ?_, ?_, ?_⟩ <;> (repeat (first | rw [cell_drew'] | rw [cell_drewN'] | rw [cell_far2 (p := ⟨bl, _, none⟩) hne] | rw [cell_far2 (p := ⟨bl, _, none⟩) hne2])) <;> with_reducible assumption)
                ((fail))
              clear i2 i5 iw
              go_wp2
              go_roundw
              case rel =>
                obtain ⟨g0, g1⟩ := set22 (a := .int .i64 u) (b := .int .i64 v) (p := .int .i64 y) (q := .int .i64 z) HGA.out HGB.out hgab
                refine ⟨k + 1, u, v, y, z, by omega, by omega, by go_num, ?_, ?_, ?_, g0, g1, ?_⟩
                · exact below_drewN (Below.setCell (Below.setCell (Below.setCell (Below.setCell hB (by show _ ≤ ga; omega) _) (by show _ ≤ ga; omega) _) (by show _ ≤ gb; omega) _) (by show _ ≤ gb; omega) _) (nq + 1)
                · exact (set_far4 (w := wr) (by omega) (by omega)).trans K5.out
                · exact (set_far4 (w := wr) (by omega) (by omega)).trans K0.out
                · rw [hseg.out, show k - 1 + 1 = k by omega]; exact ⟨HX.out, HY.out⟩
              case measure => simp [intOf]; omega
            · have hdt : decide (v * D < N) = false := decide_eq_false htt
              have hseg : Hid (segS ms N D (k + 1 - 2) = segS ms N D (k - 2)) := by
                show segS ms N D (k + 1 - 2) = segS ms N D (k - 2)
                rw [show k + 1 - 2 = (k - 2) + 1 by omega, segS, segI_no (by show ¬ decide _ = true; rw [show k - 2 + 1 = k - 1 by omega, getDM HX.out]; simpa using htt)]
                rfl
              go_wp2
              go_quiet (fail)
              clear i2 i5 iw
              go_wp2
              go_roundw
              case rel => exact ⟨k + 1, a, b, p, q, by omega, by omega, by go_num, below_drewN hB nq, K5.out, K0.out, HGA.out, HGB.out, by rw [hseg.out]; exact hpq⟩
              case measure => simp [intOf]; omega
          · obtain rfl : k = ms.length := by omega
            have ha := vk_at HV.out hpq.out.1
            have hp := vk_at HV.out hpq.out.2
            have hlt2 := vk_lt HV.out hpq.out.1 hpq.out.2
            have r0 := cell_of_row wr _ 0 _ _ _ K0.out
            have r1 := cell_of_row wr _ 1 _ _ _ K0.out
            have s0 := blk_frozen K0.out 0
            have s1 := blk_frozen K0.out 1
            simp at r0 r1
            have m1 := mul_box (x := a) (y := q - b) (X := 100000) (Y := 100000) (by omega) (by omega) (by omega) (by omega)
            have m2 := mul_box (x := a * (q - b)) (y := D) (X := 10000000000) (Y := 100000) (by omega) (by omega) (by omega) (by omega)
            have m3 := mul_box (x := b) (y := D) (X := 100000) (Y := 100000) (by omega) (by omega) (by omega) (by omega)
            have m4 := mul_box (x := N - b * D) (y := p - a) (X := 110000000000) (Y := 100000) (by omega) (by omega) (by omega) (by omega)
            have m5 := mul_box (x := q - b) (y := D) (X := 100000) (Y := 100000) (by omega) (by omega) (by omega) (by omega)
            have m6 : 0 < (q - b) * D := Int.mul_pos (by omega) (by omega)
            simp only [Int.reduceMul, Int.reduceNeg] at m1 m2 m3 m4 m5
            go_wp2_with (go_at_call 52; refine (ratio_any _ _ _ (by omega) (by omega) (by omega) (by omega)).mono ?_; rintro e w5 ⟨rfl, hB5⟩; have t0 := (hB5.cell (p := ⟨w.heap.size + 1, 0, none⟩) (World.block_lt_of_cell? _ _ r0)).trans r0; have t1 := (hB5.cell (p := ⟨w.heap.size + 1, 1, none⟩) (World.block_lt_of_cell? _ _ r1)).trans r1; have u0 := (hB5.frozen (p := ⟨w.heap.size + 1, 0, none⟩) (World.block_lt_of_cell? _ _ r0)).trans s0; have u1 := (hB5.frozen (p := ⟨w.heap.size + 1, 1, none⟩) (World.block_lt_of_cell? _ _ r1)).trans s1)
            have hW5 : Below w.heap.size w w5 := Below.trans hB (hB5.mono hB.size)
            refine bodyPost_ret (v := .tuple #[.agg #[.int .i64 (lowN (a * (q - b) * D + (N - b * D) * (p - a)) ((q - b) * D)), .int .i64 (lowD (a * (q - b) * D + (N - b * D) * (p - a)) ((q - b) * D))], .int .i64 0]) (by simp [results, Try.results35, go_sem, t0, t1]) rfl ⟨_, _, 0, rfl, (by repeat (first | with_reducible exact Below.refl _ _ | with_reducible assumption | refine below_drewN ?_ _ | with_reducible refine Below.drew ?_ | (refine Below.setCell ?_ (by first | (simp; done) | (simp; omega) | omega) _) | (refine Below.alloc ?_ (by first | (simp; done) | (simp; omega) | omega) _))), ?_⟩
            have h1 := mA_of hpq.out.1
            have h2 := mA_of hpq.out.2
            have ho : okBack ms N D = true := by simp [okBack, HV.out, HT.out]
            have hs := back_same (N := N) HV.out hD0
            have e1 : backNj ms (segS ms N D (ms.length - 2)) N D = a * (q - b) * D + (N - b * D) * (p - a) := by
              rw [backNj, lineN, h1, h2]; simp only []; rw [Int.mul_assoc a D, Int.mul_comm D, ← Int.mul_assoc]
            have e2 : backDj ms (segS ms N D (ms.length - 2)) D = (q - b) * D := by rw [backDj, lineD, h1, h2]; exact Int.mul_comm _ _
            rw [e1, e2] at hs
            refine ⟨?_, ?_, by simp [backE, HV.out, HT.out]⟩
            · rw [backRN, if_pos ho]; exact hs.1
            · rw [backRD, if_pos ho]; exact hs.2
      · have hBW : Below w.heap.size w ((w1.alloc (.cells #[.int .i64 p0, .int .i64 q0] 61)).alloc (.cells #[.int .i64 a0, .int .i64 b0] 61)) := (hW.alloc (by omega) _).alloc (by simp; omega) _
        have k5 : ((w1.alloc (.cells #[.int .i64 p0, .int .i64 q0] 61)).alloc (.cells #[.int .i64 a0, .int .i64 b0] 61)).heap[w.heap.size]? = some (.cells #[.int .i64 N, .int .i64 D] 36 (0, 0)) := (Below.heap_alloc _ _ _ (by simp; omega)).trans ((Below.heap_alloc _ _ _ (by omega)).trans k5)
        have k0 : ((w1.alloc (.cells #[.int .i64 p0, .int .i64 q0] 61)).alloc (.cells #[.int .i64 a0, .int .i64 b0] 61)).heap[w.heap.size + 1]? = some (.cells #[.int .i64 0, .int .i64 0] 36 (0, 0)) := (Below.heap_alloc _ _ _ (by simp; omega)).trans ((Below.heap_alloc _ _ _ (by omega)).trans k0)
        have hn0 : ((w1.alloc (.cells #[.int .i64 p0, .int .i64 q0] 61)).alloc (.cells #[.int .i64 a0, .int .i64 b0] 61)).heap[w1.heap.size]? = some (.cells #[.int .i64 p0, .int .i64 q0] 61 (0, 0)) := (Below.heap_alloc _ _ _ (by simp)).trans (heap_alloc_new w1 _)
        have hn1 : ((w1.alloc (.cells #[.int .i64 p0, .int .i64 q0] 61)).alloc (.cells #[.int .i64 a0, .int .i64 b0] 61)).heap[w1.heap.size + 1]? = some (.cells #[.int .i64 a0, .int .i64 b0] 61 (0, 0)) := by
          rw [show w1.heap.size + 1 = (w1.alloc (.cells #[.int .i64 p0, .int .i64 q0] 61)).heap.size by simp]; exact heap_alloc_new _ _
        generalize ((w1.alloc (.cells #[.int .i64 p0, .int .i64 q0] 61)).alloc (.cells #[.int .i64 a0, .int .i64 b0] 61)) = W at *
        have hg2 : w.heap.size + 2 ≤ w1.heap.size := by omega
        clear hW HC hz1' hb1 f0 f1 f2 f3 j0 j1 j2 j3
        have hgab0 : w1.heap.size < w1.heap.size + 1 := by omega
        generalize w1.heap.size + 1 = ga at *
        generalize w1.heap.size = gb at *
        have hga := hn1
        have hgb := hn0
        have hgab : ga ≠ gb := by omega
        clear hn0 hn1
        have hcw : Hid (∀ (k : Nat) (m : Int × Int), ms[k]? = some m → w.cell? ⟨bl, off + k * 2, none⟩ = some (.int .i64 m.1) ∧ w.cell? ⟨bl, off + k * 2 + 1, none⟩ = some (.int .i64 m.2)) := HCW.out
        go_wp2
        go_loopw [8] (fun i wr => ∃ (k : Nat) (a b p q : Int), 2 ≤ k ∧ k ≤ ms.length ∧ i = .int .i64 k ∧ Below w.heap.size w wr ∧ wr.heap[w.heap.size]? = some (.cells #[.int .i64 N, .int .i64 D] 36 (0, 0)) ∧ wr.heap[w.heap.size + 1]? = some (.cells #[.int .i64 0, .int .i64 0] 36 (0, 0)) ∧
            wr.heap[ga]? = some (.cells #[.int .i64 a, .int .i64 b] 61 (0, 0)) ∧ wr.heap[gb]? = some (.cells #[.int .i64 p, .int .i64 q] 61 (0, 0)) ∧
            Hid (ms[segS ms N D (k - 2)]? = some (a, b) ∧ ms[segS ms N D (k - 2) + 1]? = some (p, q))) (fun i _ => ms.length - (intOf i).toNat)
        case atStart => exact ⟨2, a0, b0, p0, q0, by omega, by omega, rfl, hBW.drew, k5, k0, hga, hgb, HM0.out, HM1.out⟩
        case round =>
          clear hBW k5 k0 hga hgb
          obtain ⟨k, a, b, p, q, hk2, hk, rfl, hB, k5, k0, hga, hgb, hpq⟩ := hrel
          have b0 := cell_of_row wr _ 0 _ _ _ k5
          have b1 := cell_of_row wr _ 1 _ _ _ k5
          have c0 := cell_of_row wr _ 0 _ _ _ hga
          have c1 := cell_of_row wr _ 1 _ _ _ hga
          have c2 := cell_of_row wr _ 0 _ _ _ hgb
          have c3 := cell_of_row wr _ 1 _ _ _ hgb
          have e0 := blk_frozen hga 0
          have e1 := blk_frozen hga 1
          have e2 := blk_frozen hgb 0
          have e3 := blk_frozen hgb 1
          simp at b0 b1 c0 c1 c2 c3
          have K5 := Lib.hid k5
          have K0 := Lib.hid k0
          have HGA := Lib.hid hga
          have HGB := Lib.hid hgb
          clear k5 k0 hga hgb
          by_cases hlt : k < ms.length
          · obtain ⟨u, v, hx⟩ := getM_of_lt (show k - 1 < ms.length by omega)
            obtain ⟨y, z, hy⟩ := getM_of_lt hlt
            have f0 := (hB.cell (p := ⟨bl, off + (k - 1) * 2, none⟩) hbk).trans (hcw.out _ _ hx).1
            have f1 := (hB.cell (p := ⟨bl, off + (k - 1) * 2 + 1, none⟩) hbk).trans (hcw.out _ _ hx).2
            have f2 := (hB.cell (p := ⟨bl, off + k * 2, none⟩) hbk).trans (hcw.out _ _ hy).1
            have f3 := (hB.cell (p := ⟨bl, off + k * 2 + 1, none⟩) hbk).trans (hcw.out _ _ hy).2
            have hv := vk_at HV.out hx
            have HX := Lib.hid hx
            have HY := Lib.hid hy
            clear hx hy
            have i0 : (0 : Int) ≤ (k : Int) := by omega
            have i1 : (k : Int) < (ms.length : Int) := by omega
            have i3 : (0 : Int) ≤ (k : Int) - 1 := by omega
            have i4 : (k : Int) - 1 < (ms.length : Int) := by omega
            have i7 : (1 : Int) ≤ (k : Int) := by omega
            have i8 : (k : Int) ≤ (ms.length : Int) := by omega
            have i2 : IntKind.i64.wrap ((k : Int) - 1) = (k : Int) - 1 := IntWalk.i64_in _ (by omega)
            have i5 : ((k : Int) - 1).toNat = k - 1 := by omega
            have hm1 := mul_tick (a := v) (D := D) (by omega) (by omega) hD0 hD1
            have iw : IntKind.i64.wrap (v * D) = v * D := IntWalk.i64_in _ (by omega)
            have hne : bl ≠ ga := by omega
            have hne2 : bl ≠ gb := by omega
            by_cases htt : v * D < N
            · have hdt : decide (v * D < N) = true := decide_eq_true htt
              have hseg : Hid (segS ms N D (k + 1 - 2) = k - 1) := by
                show segS ms N D (k + 1 - 2) = k - 1
                rw [show k + 1 - 2 = (k - 2) + 1 by omega, segS, segI_yes (by show decide _ = true; rw [show k - 2 + 1 = k - 1 by omega, getDM HX.out]; exact hdt)]
                omega
              go_wp2
              go_quiet (fail)
              go_wp2
              have G0 := Lib.hid (And.intro HGA.out HGB.out)
              have f0' : (wr.drewN nq).cell? ⟨bl, off + (k - 1) * 2, none⟩ = some (.int .i64 u) := f0
              have f1' : (wr.drewN nq).cell? ⟨bl, off + (k - 1) * 2 + 1, none⟩ = some (.int .i64 v) := f1
              have f2' : (wr.drewN nq).cell? ⟨bl, off + k * 2, none⟩ = some (.int .i64 y) := f2
              have f3' : (wr.drewN nq).cell? ⟨bl, off + k * 2 + 1, none⟩ = some (.int .i64 z) := f3
              go_region_held3 (fun w' => w'.cell? ⟨bl, off + (k - 1) * 2, none⟩ = some (.int .i64 u) ∧ w'.cell? ⟨bl, off + (k - 1) * 2 + 1, none⟩ = some (.int .i64 v) ∧ w'.cell? ⟨bl, off + k * 2, none⟩ = some (.int .i64 y) ∧ w'.cell? ⟨bl, off + k * 2 + 1, none⟩ = some (.int .i64 z))
                (refine ⟨?_, ?_, ?_, ?_⟩ <;> (repeat (first | rw [cell_drew'] | rw [cell_drewN'] | rw [cell_far2 (p := ⟨bl, _, none⟩) hne] | rw [cell_far2 (p := ⟨bl, _, none⟩) hne2])) <;> with_reducible assumption)
                ((fail))
              clear i2 i5 iw
              go_wp2
              go_roundw
              case rel =>
                obtain ⟨g0, g1⟩ := set22 (a := .int .i64 u) (b := .int .i64 v) (p := .int .i64 y) (q := .int .i64 z) HGA.out HGB.out hgab
                refine ⟨k + 1, u, v, y, z, by omega, by omega, by go_num, ?_, ?_, ?_, g0, g1, ?_⟩
                · exact below_drewN (Below.setCell (Below.setCell (Below.setCell (Below.setCell hB (by show _ ≤ ga; omega) _) (by show _ ≤ ga; omega) _) (by show _ ≤ gb; omega) _) (by show _ ≤ gb; omega) _) (nq + 1)
                · exact (set_far4 (w := wr) (by omega) (by omega)).trans K5.out
                · exact (set_far4 (w := wr) (by omega) (by omega)).trans K0.out
                · rw [hseg.out, show k - 1 + 1 = k by omega]; exact ⟨HX.out, HY.out⟩
              case measure => simp [intOf]; omega
            · have hdt : decide (v * D < N) = false := decide_eq_false htt
              have hseg : Hid (segS ms N D (k + 1 - 2) = segS ms N D (k - 2)) := by
                show segS ms N D (k + 1 - 2) = segS ms N D (k - 2)
                rw [show k + 1 - 2 = (k - 2) + 1 by omega, segS, segI_no (by show ¬ decide _ = true; rw [show k - 2 + 1 = k - 1 by omega, getDM HX.out]; simpa using htt)]
                rfl
              go_wp2
              go_quiet (fail)
              clear i2 i5 iw
              go_wp2
              go_roundw
              case rel => exact ⟨k + 1, a, b, p, q, by omega, by omega, by go_num, below_drewN hB nq, K5.out, K0.out, HGA.out, HGB.out, by rw [hseg.out]; exact hpq⟩
              case measure => simp [intOf]; omega
          · obtain rfl : k = ms.length := by omega
            have ha := vk_at HV.out hpq.out.1
            have hp := vk_at HV.out hpq.out.2
            have hlt2 := vk_lt HV.out hpq.out.1 hpq.out.2
            have r0 := cell_of_row wr _ 0 _ _ _ K0.out
            have r1 := cell_of_row wr _ 1 _ _ _ K0.out
            have s0 := blk_frozen K0.out 0
            have s1 := blk_frozen K0.out 1
            simp at r0 r1
            have m1 := mul_box (x := a) (y := q - b) (X := 100000) (Y := 100000) (by omega) (by omega) (by omega) (by omega)
            have m2 := mul_box (x := a * (q - b)) (y := D) (X := 10000000000) (Y := 100000) (by omega) (by omega) (by omega) (by omega)
            have m3 := mul_box (x := b) (y := D) (X := 100000) (Y := 100000) (by omega) (by omega) (by omega) (by omega)
            have m4 := mul_box (x := N - b * D) (y := p - a) (X := 110000000000) (Y := 100000) (by omega) (by omega) (by omega) (by omega)
            have m5 := mul_box (x := q - b) (y := D) (X := 100000) (Y := 100000) (by omega) (by omega) (by omega) (by omega)
            have m6 : 0 < (q - b) * D := Int.mul_pos (by omega) (by omega)
            simp only [Int.reduceMul, Int.reduceNeg] at m1 m2 m3 m4 m5
            go_wp2_with (go_at_call 52; refine (ratio_any _ _ _ (by omega) (by omega) (by omega) (by omega)).mono ?_; rintro e w5 ⟨rfl, hB5⟩; have t0 := (hB5.cell (p := ⟨w.heap.size + 1, 0, none⟩) (World.block_lt_of_cell? _ _ r0)).trans r0; have t1 := (hB5.cell (p := ⟨w.heap.size + 1, 1, none⟩) (World.block_lt_of_cell? _ _ r1)).trans r1; have u0 := (hB5.frozen (p := ⟨w.heap.size + 1, 0, none⟩) (World.block_lt_of_cell? _ _ r0)).trans s0; have u1 := (hB5.frozen (p := ⟨w.heap.size + 1, 1, none⟩) (World.block_lt_of_cell? _ _ r1)).trans s1)
            have hW5 : Below w.heap.size w w5 := Below.trans hB (hB5.mono hB.size)
            refine bodyPost_ret (v := .tuple #[.agg #[.int .i64 (lowN (a * (q - b) * D + (N - b * D) * (p - a)) ((q - b) * D)), .int .i64 (lowD (a * (q - b) * D + (N - b * D) * (p - a)) ((q - b) * D))], .int .i64 0]) (by simp [results, Try.results35, go_sem, t0, t1]) rfl ⟨_, _, 0, rfl, (by repeat (first | with_reducible exact Below.refl _ _ | with_reducible assumption | refine below_drewN ?_ _ | with_reducible refine Below.drew ?_ | (refine Below.setCell ?_ (by first | (simp; done) | (simp; omega) | omega) _) | (refine Below.alloc ?_ (by first | (simp; done) | (simp; omega) | omega) _))), ?_⟩
            have h1 := mA_of hpq.out.1
            have h2 := mA_of hpq.out.2
            have ho : okBack ms N D = true := by simp [okBack, HV.out, HT.out]
            have hs := back_same (N := N) HV.out hD0
            have e1 : backNj ms (segS ms N D (ms.length - 2)) N D = a * (q - b) * D + (N - b * D) * (p - a) := by
              rw [backNj, lineN, h1, h2]; simp only []; rw [Int.mul_assoc a D, Int.mul_comm D, ← Int.mul_assoc]
            have e2 : backDj ms (segS ms N D (ms.length - 2)) D = (q - b) * D := by rw [backDj, lineD, h1, h2]; exact Int.mul_comm _ _
            rw [e1, e2] at hs
            refine ⟨?_, ?_, by simp [backE, HV.out, HT.out]⟩
            · rw [backRN, if_pos ho]; exact hs.1
            · rw [backRD, if_pos ho]; exact hs.2
    · have HT : Hid (okT N D = false) := decide_eq_false ht
      have ho : okBack ms N D = false := by simp [okBack, HT.out]
      have HO := Lib.hid ho
      clear ho
      have fin : ∀ E : Int, E = 2 → Hid (0 = backRN ms N D ∧ 0 = backRD ms N D ∧ E = backE ms N D) := fun E hE => ⟨by simp [backRN, HO.out], by simp [backRD, HO.out], by simp [backE, HV.out, HT.out, hE]⟩
      have FIN := Lib.hid fin
      clear fin
      go_enter Try.func35, Try.ntmps35
      go_wp2_with (first
        | (go_at_call 33; refine (refValidClock_any _ _ _ _ H0.out.marks H0.out.len).mono ?_; rintro e w1 ⟨he, hB1⟩; rw [HV.out] at he; subst he; obtain ⟨hcc, hff⟩ := bcell hB1; have hz1' := hB1.size; simp at hz1'; have hz3 : w.heap.size < w1.heap.size := (by omega)))
      all_goals first
        | (exfalso; omega)
        | (have hW : Below w.heap.size w w1 := Below.trans (by repeat (first | with_reducible exact Below.refl _ _ | with_reducible assumption | refine below_drewN ?_ _ | with_reducible refine Below.drew ?_ | (refine Below.setCell ?_ (by first | (simp; done) | (simp; omega) | omega) _) | (refine Below.alloc ?_ (by first | (simp; done) | (simp; omega) | omega) _))) (hB1.mono (by first | (simp; done) | (simp; omega) | omega))
           exact bodyPost_ret (v := .tuple #[.agg #[.int .i64 0, .int .i64 0], .int .i64 2]) (by simp [results, Try.results35, go_sem, hcc]) rfl ⟨0, 0, 2, rfl, (by repeat (first | with_reducible exact Below.refl _ _ | with_reducible assumption | refine below_drewN ?_ _ | with_reducible refine Below.drew ?_ | (refine Below.setCell ?_ (by first | (simp; done) | (simp; omega) | omega) _) | (refine Below.alloc ?_ (by first | (simp; done) | (simp; omega) | omega) _))), FIN.out 2 rfl⟩)
  · have hv2 : vkB ms = false := by simpa using hv
    have ho : okBack ms N D = false := by simp [okBack, hv2]
    go_enter Try.func35, Try.ntmps35
    go_wp2_with (go_at_call 33; refine (refValidClock_any _ _ _ _ H0.out.marks H0.out.len).mono ?_; rintro e w1 ⟨he, hB1⟩; rw [hv2] at he; subst he; obtain ⟨hcc, hff⟩ := bcell hB1; have hz1' := hB1.size; simp at hz1')
    have hW : Below w.heap.size w w1 := Below.trans (by repeat (first | with_reducible exact Below.refl _ _ | with_reducible assumption | refine below_drewN ?_ _ | with_reducible refine Below.drew ?_ | (refine Below.setCell ?_ (by first | (simp; done) | (simp; omega) | omega) _) | (refine Below.alloc ?_ (by first | (simp; done) | (simp; omega) | omega) _))) (hB1.mono (by first | (simp; done) | (simp; omega) | omega))
    refine bodyPost_ret (v := .tuple #[.agg #[.int .i64 0, .int .i64 0], .int .i64 11]) (by simp [results, Try.results35, go_sem, hcc]) rfl ⟨0, 0, 11, rfl, (by repeat (first | with_reducible exact Below.refl _ _ | with_reducible assumption | refine below_drewN ?_ _ | with_reducible refine Below.drew ?_ | (refine Below.setCell ?_ (by first | (simp; done) | (simp; omega) | omega) _) | (refine Below.alloc ?_ (by first | (simp; done) | (simp; omega) | omega) _))), ?_⟩
    exact ⟨by simp [backRN, ho], by simp [backRD, ho], by simp [backE, hv2]⟩
end Go.Proofs.Ytjghlfagdleglaa
