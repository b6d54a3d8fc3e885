/-
  The walk of TickMoves.
-/
import Derived.Test.YtjghlfagdleglaaMoved2
import Derived.Test.YtjghlfagdleglaaJoined
namespace Go.Proofs.Ytjghlfagdleglaa
open Go.RowKit

theorem lowN_sm {n d B : Int} (hd : 0 < d) (h0 : -B ≤ n) (h1 : n ≤ B) : -B ≤ lowN n d ∧ lowN n d ≤ B := by
  have hg := gcd_pos (n := n) hd
  rw [lowN]
  generalize (Int.gcd n d : Int) = g at hg ⊢
  have e := Int.mul_ediv_add_emod n g
  have m0 := Int.emod_nonneg n (show g ≠ 0 by omega)
  have m1 := Int.emod_lt_of_pos n hg
  generalize n / g = q at e ⊢
  generalize n % g = r at e m0 m1
  rcases Int.le_total 0 q with hq | hq
  · have := Int.mul_le_mul_of_nonneg_right (show (1 : Int) ≤ g by omega) hq
    rw [Int.one_mul] at this
    omega
  · have hq' : 0 ≤ -q := by omega
    have := Int.mul_le_mul_of_nonneg_right (show (1 : Int) ≤ g by omega) hq'
    rw [Int.one_mul, Int.mul_neg] at this
    rcases Int.lt_or_eq_of_le hq with h | h
    · have h2 := Int.mul_le_mul_of_nonneg_right (show (1 : Int) ≤ g by omega) (show 0 ≤ -q - 1 by omega)
      rw [Int.one_mul, Int.mul_sub, Int.mul_neg, Int.mul_one] at h2
      omega
    · omega
theorem atR_bd {ms : List (Int × Int)} {x : Int} (hv : vkB ms = true) (hx : tickB x = true) : (1 ≤ atRD ms x ∧ atRD ms x ≤ 100000) ∧ (-20000000000 ≤ atRN ms x ∧ atRN ms x ≤ 20000000000) := by
  have k1 : okAt ms x = true := by simp [okAt, hv, hx]
  have hs := seg_lt (vk_parts hv).1 x 1
  obtain ⟨hx0, hx1⟩ : 0 ≤ x ∧ x ≤ 100000 := by simpa [tickB] using hx
  obtain ⟨a, b, h0⟩ := getM_of_lt (show segL ms x 1 < ms.length by omega)
  obtain ⟨p, q, h1⟩ := getM_of_lt hs
  have k0 := vk_at hv h0
  have k2 := vk_at hv h1
  have kl := vk_lt hv h0 h1
  have hd : atD ms x = p - a := by rw [atD, mA_of h0, mA_of h1]; simp only [lineD]; omega
  have hn : atN ms x = b * (p - a) + (x - a) * (q - b) := by rw [atN, mA_of h0, mA_of h1]; simp only [lineN, Int.mul_one]
  rw [atRD, atRN, if_pos k1, if_pos k1]
  have hdp := atD_pos hv x
  have b1 := lowD_bd (n := atN ms x) hdp
  have m1 := mul_box (x := b) (y := p - a) (X := 100000) (Y := 100000) (by omega) (by omega) (by omega) (by omega)
  have m2 := mul_box (x := x - a) (y := q - b) (X := 100000) (Y := 100000) (by omega) (by omega) (by omega) (by omega)
  have b2 := lowN_sm (n := atN ms x) (B := 20000000000) hdp (by rw [hn]; omega) (by rw [hn]; omega)
  exact ⟨⟨b1.1, by omega⟩, b2⟩
theorem tick_mod (n : Int) : tickB (n % 100001) = true := by
  rw [tickB]
  exact decide_eq_true (by omega)

set_option maxRecDepth 100000 in
set_option maxHeartbeats 800000 in
theorem tickMoves_walk (ms : List (Int × Int)) (A : Option Addr) (c : Nat) (by_ loc : Int) (w : World) (hA : Marks w A ms) (hle : ms.length ≤ c) (hcap : c ≤ maxLen)
    (_wb : (Lit.int .i64 by_).wf = true) (wl : (Lit.int .u32 loc).wf = true) :
    Calls Try.prog 11 #[.slice A ms.length c, .int .i64 by_, .int .u32 loc] w fun e w' => e = .returned (.bool true) ∧ Below w.heap.size w w' := by
  have HC : Hid (Clk w A c ms) := ⟨hA, hle, hcap⟩
  clear hA hle hcap
  have hloc : 0 ≤ loc ∧ loc ≤ 4294967295 := by rw [Lit.wf, Bool.and_eq_true] at wl; exact ⟨of_decide_eq_true wl.1, of_decide_eq_true wl.2⟩
  by_cases hl : 100 < ms.length
  · have hl1 : decide (100 < ms.length) = true := decide_eq_true hl
    go_enter Try.func11, Try.ntmps11
    go_wp2_with (first
      | (go_at_call 29; refine (long_any _ _ _ _).mono ?_; rintro e w' ⟨rfl, rfl⟩)
      | (go_at_call 15; refine (awake_any _).mono ?_; rintro e w1 ⟨rfl, hB1⟩))
    go_ret
    exact ⟨rfl, Below.trans (by repeat (first | with_reducible exact Below.refl _ _ | with_reducible assumption | refine below_drewN ?_ _ | with_reducible refine Below.drew ?_ | (refine Below.setCell ?_ (by first | (simp; done) | (simp; omega) | omega) _) | (refine Below.alloc ?_ (by first | (simp; done) | (simp; omega) | omega) _))) (hB1.mono (by first | (simp; done) | (simp; omega) | omega))⟩
  · have hl1 : decide (100 < ms.length) = false := decide_eq_false hl
    clear hl
    by_cases hv : vkB ms = true
    · by_cases ho : okMv ms by_ = true
      · obtain ⟨ho1, ho2⟩ := okMv_iff ho
        obtain ⟨n2, n30⟩ := vk_parts hv
        obtain ⟨a0, b0, h0⟩ := getM_of_lt (show 0 < ms.length by omega)
        obtain ⟨a1, b1, h1⟩ := getM_of_lt (show ms.length - 1 < ms.length by omega)
        have hb0 := vk_at hv h0
        have hb1 := vk_at hv h1
        rw [mA_of h0] at ho1
        rw [mA_of h1] at ho2
        have hby : -100000 ≤ by_ ∧ by_ ≤ 100000 := by simp only at ho1 ho2; omega
        clear hb0 hb1 ho1 ho2 h0 h1 a0 b0 a1 b1
        have hx := tick_mod loc
        have bd := atR_bd hv hx
        have HM := Lib.hid (moved_at hv ho hx)
        have HT := Lib.hid (moved_twice hv ho)
        have H1 : Hid (movedE ms by_ = 0) := by show _ = _; simp [movedE, hv, ho]
        have HV := Lib.hid hv
        have hmb := mul_box (x := by_) (y := atRD ms (loc % 100001)) (X := 100000) (Y := 100000) (by omega) (by omega) (by omega) (by omega)
        have hme : 0 ≤ loc % 100001 ∧ loc % 100001 ≤ 100000 := by simpa [tickB] using hx
        clear hv ho hx
        go_enter Try.func11, Try.ntmps11
        have TA : Hid True := Lib.hid trivial
        have TB := TA
        have TC := TA
        have TD := TA
        go_wp2_with (first
          | (go_at_call 29; refine (long_any _ _ _ _).mono ?_; rintro e w' ⟨rfl, rfl⟩)
          | (go_at_call 33; refine (refValidClock_any _ _ _ _ (HC.out.below (by repeat (first | with_reducible exact Below.refl _ _ | with_reducible assumption | refine below_drewN ?_ _ | with_reducible refine Below.drew ?_ | (refine Below.setCell ?_ (by first | (simp; done) | (simp; omega) | omega) _) | (refine Below.alloc ?_ (by first | (simp; done) | (simp; omega) | omega) _)))).marks HC.out.len).mono ?_; rintro e w1 ⟨he, hB1⟩; rw [HV.out] at he; subst he)
          | (go_at_call 45; refine (moved_any ys _ _ _ _ (HC2.out)).mono ?_; rintro e w3 ⟨A3, c3, zs, E, rfl, hC3, hB3, hF3⟩; obtain rfl : E = 0 := (by rw [hF3.out.2, HY.out]; exact HT.out.2); obtain rfl : ms = zs := (by rw [hF3.out.1, HY.out]; exact HT.out.1.symm); have HC3 := Lib.hid hC3; have HC4 := Lib.hid (HC2.out.below hB3); clear hC3 hF3; have hW3 : Below w.heap.size w w3 := hW2.trans (hB3.mono hW2.size))
          | (go_at_call 45; refine (moved_any ms _ _ _ _ (HC.out.below (hB1))).mono ?_; rintro e w2 ⟨A2, c2, ys, E, rfl, hC2, hB2, hF2⟩; obtain rfl : E = 0 := hF2.out.2.trans H1.out; have HY := Lib.hid hF2.out.1; have HC2 := Lib.hid hC2; clear hC2 hF2; have hW2 : Below w.heap.size w w2 := hB1.trans (hB2.mono hB1.size))
          | (clear TB; go_at_call 30; have hstop := hB4; refine (at_any ys _ _ _ _ (HC4.out.below (by exact (by repeat (first | with_reducible exact Below.refl _ _ | with_reducible assumption | refine below_drewN ?_ _ | with_reducible refine Below.drew ?_ | (refine Below.setCell ?_ (by first | (simp; done) | (simp; omega) | omega) _) | (refine Below.alloc ?_ (by first | (simp; done) | (simp; omega) | omega) _)))))).mono ?_; rintro e w5 ⟨n2, d2, E, rfl, hB5, hF5⟩; obtain rfl : E = 0 := (by rw [hF5.out.2.2, HY.out]; exact HM.out.2.2.1); obtain rfl : d1 = d2 := (by rw [hF5.out.2.1, hF4.out.2.1, HY.out]; exact HM.out.1.symm); obtain rfl : n2 = n1 + by_ * d1 := (by rw [hF5.out.1, hF4.out.1, hF4.out.2.1, HY.out]; exact HM.out.2.1); clear hF5; have k0 := (hB5.cell (p := ⟨w4.heap.size, 0, none⟩) (by simp)).trans (cell_of_row _ _ 0 _ _ _ (heap_alloc_new w4 _)); have k1 := (hB5.cell (p := ⟨w4.heap.size, 1, none⟩) (by simp)).trans (cell_of_row _ _ 1 _ _ _ (heap_alloc_new w4 _)); have z5 := hB5.size; simp at z5; have s1 : w4.heap.size < w5.heap.size := (by omega); have s1' : w4.heap.size < w5.heap.size + 1 := (by omega); have hW5 : Below w.heap.size w w5 := Below.trans (by exact (by repeat (first | with_reducible exact Below.refl _ _ | with_reducible assumption | refine below_drewN ?_ _ | with_reducible refine Below.drew ?_ | (refine Below.setCell ?_ (by first | (simp; done) | (simp; omega) | omega) _) | (refine Below.alloc ?_ (by first | (simp; done) | (simp; omega) | omega) _)))) (hB5.mono (by simp; omega)))
          | (clear TA; go_at_call 30; refine (at_any ms _ _ _ _ (HC.out.below hW3)).mono ?_; rintro e w4 ⟨n1, d1, E, rfl, hB4, hF4⟩; obtain rfl : E = 0 := hF4.out.2.2.trans HM.out.2.2.2.1; obtain ⟨hd1, hn1⟩ : (1 ≤ d1 ∧ d1 ≤ 100000) ∧ (-20000000000 ≤ n1 ∧ n1 ≤ 20000000000) := (by rw [hF4.out.1, hF4.out.2.1]; exact bd); have hm : -(100000 * 100000) ≤ by_ * d1 ∧ by_ * d1 ≤ 100000 * 100000 := (by rw [hF4.out.2.1]; exact hmb); have z3 := hW3.size; have z4 := hB4.size; have hW4 : Below w.heap.size w w4 := hW3.trans (hB4.mono z3))
          | (clear TD; go_at_call 36; have hstop := hB6; refine (speed_any ys _ _ _ _ (HC5.out.below (by exact (by repeat (first | with_reducible exact Below.refl _ _ | with_reducible assumption | refine below_drewN ?_ _ | with_reducible refine Below.drew ?_ | (refine Below.setCell ?_ (by first | (simp; done) | (simp; omega) | omega) _) | (refine Below.alloc ?_ (by first | (simp; done) | (simp; omega) | omega) _)))))).mono ?_; rintro e w7 ⟨n4, d4, E, rfl, hB7, hF7⟩; obtain rfl : E = 0 := (by rw [hF7.out.2.2, HY.out]; exact HM.out.2.2.1); obtain rfl : d3 = d4 := (by rw [hF7.out.2.1, hF6.out.2.1, HY.out]; exact HM.out.2.2.2.2.2.symm); obtain rfl : n3 = n4 := (by rw [hF7.out.1, hF6.out.1, HY.out]; exact HM.out.2.2.2.2.1.symm); clear hF7 hF6; have m0 := (hB7.cell (p := ⟨w6.heap.size, 0, none⟩) (by simp)).trans (cell_of_row _ _ 0 _ _ _ (heap_alloc_new w6 _)); have m1 := (hB7.cell (p := ⟨w6.heap.size, 1, none⟩) (by simp)).trans (cell_of_row _ _ 1 _ _ _ (heap_alloc_new w6 _)); have l0 := (hB7.cell (p := ⟨w5.heap.size, 0, none⟩) (by simp; omega)).trans ((World.cell?_alloc_lt w6 _ ⟨w5.heap.size, 0, none⟩ (by simp; omega)).trans l0); have l1 := (hB7.cell (p := ⟨w5.heap.size, 1, none⟩) (by simp; omega)).trans ((World.cell?_alloc_lt w6 _ ⟨w5.heap.size, 1, none⟩ (by simp; omega)).trans l1); have k0 := (hB7.cell (p := ⟨w4.heap.size, 0, none⟩) (by simp; omega)).trans ((World.cell?_alloc_lt w6 _ ⟨w4.heap.size, 0, none⟩ (by simp; omega)).trans k0); have k1 := (hB7.cell (p := ⟨w4.heap.size, 1, none⟩) (by simp; omega)).trans ((World.cell?_alloc_lt w6 _ ⟨w4.heap.size, 1, none⟩ (by simp; omega)).trans k1); have z7 := hB7.size; simp at z7; have s3 : w6.heap.size < w7.heap.size := (by omega); have s3' : w6.heap.size < w7.heap.size + 1 := (by omega); have s4 : w5.heap.size < w7.heap.size := (by omega); have s4' : w5.heap.size < w7.heap.size + 1 := (by omega); have s5 : w4.heap.size < w7.heap.size := (by omega); have s5' : w4.heap.size < w7.heap.size + 1 := (by omega); have hW7 : Below w.heap.size w w7 := Below.trans (by exact (by repeat (first | with_reducible exact Below.refl _ _ | with_reducible assumption | refine below_drewN ?_ _ | with_reducible refine Below.drew ?_ | (refine Below.setCell ?_ (by first | (simp; done) | (simp; omega) | omega) _) | (refine Below.alloc ?_ (by first | (simp; done) | (simp; omega) | omega) _)))) (hB7.mono (by simp; omega)); have HC6 := Lib.hid (HC3.out.below (show Below w3.heap.size w3 w7 from Below.trans (by exact (by repeat (first | with_reducible exact Below.refl _ _ | with_reducible assumption | refine below_drewN ?_ _ | with_reducible refine Below.drew ?_ | (refine Below.setCell ?_ (by first | (simp; done) | (simp; omega) | omega) _) | (refine Below.alloc ?_ (by first | (simp; done) | (simp; omega) | omega) _)))) (hB7.mono (by simp; omega)))))
          | (clear TC; go_at_call 36; refine (speed_any ms _ _ _ _ (HC.out.below (by exact (by repeat (first | with_reducible exact Below.refl _ _ | with_reducible assumption | refine below_drewN ?_ _ | with_reducible refine Below.drew ?_ | (refine Below.setCell ?_ (by first | (simp; done) | (simp; omega) | omega) _) | (refine Below.alloc ?_ (by first | (simp; done) | (simp; omega) | omega) _)))))).mono ?_; rintro e w6 ⟨n3, d3, E, rfl, hB6, hF6⟩; obtain rfl : E = 0 := hF6.out.2.2.trans HM.out.2.2.2.1; have l0 := (hB6.cell (p := ⟨w5.heap.size, 0, none⟩) (by simp)).trans (cell_of_row _ _ 0 _ _ _ (heap_alloc_new w5 _)); have l1 := (hB6.cell (p := ⟨w5.heap.size, 1, none⟩) (by simp)).trans (cell_of_row _ _ 1 _ _ _ (heap_alloc_new w5 _)); have k0 := (hB6.cell (p := ⟨w4.heap.size, 0, none⟩) (by simp; omega)).trans ((World.cell?_alloc_lt w5 _ ⟨w4.heap.size, 0, none⟩ (by simp; omega)).trans k0); have k1 := (hB6.cell (p := ⟨w4.heap.size, 1, none⟩) (by simp; omega)).trans ((World.cell?_alloc_lt w5 _ ⟨w4.heap.size, 1, none⟩ (by simp; omega)).trans k1); have z6 := hB6.size; simp at z6; have hW6 : Below w.heap.size w w6 := Below.trans (by exact (by repeat (first | with_reducible exact Below.refl _ _ | with_reducible assumption | refine below_drewN ?_ _ | with_reducible refine Below.drew ?_ | (refine Below.setCell ?_ (by first | (simp; done) | (simp; omega) | omega) _) | (refine Below.alloc ?_ (by first | (simp; done) | (simp; omega) | omega) _)))) (hB6.mono (by simp; omega)); have hV5 : Below w3.heap.size w3 w5 := Below.trans (by exact (by repeat (first | with_reducible exact Below.refl _ _ | with_reducible assumption | refine below_drewN ?_ _ | with_reducible refine Below.drew ?_ | (refine Below.setCell ?_ (by first | (simp; done) | (simp; omega) | omega) _) | (refine Below.alloc ?_ (by first | (simp; done) | (simp; omega) | omega) _)))) (hB5.mono (by simp; omega)); have hV6 : Below w3.heap.size w3 w6 := Below.trans (by exact (by repeat (first | with_reducible exact Below.refl _ _ | with_reducible assumption | refine below_drewN ?_ _ | with_reducible refine Below.drew ?_ | (refine Below.setCell ?_ (by first | (simp; done) | (simp; omega) | omega) _) | (refine Below.alloc ?_ (by first | (simp; done) | (simp; omega) | omega) _)))) (hB6.mono (by simp; omega)); have HC5 := Lib.hid (HC4.out.below hV6))
          | (go_at_call 42; refine (equal_any ms ms _ _ _ _ _ (HC6.out.below (by exact (by repeat (first | with_reducible exact Below.refl _ _ | with_reducible assumption | refine below_drewN ?_ _ | with_reducible refine Below.drew ?_ | (refine Below.setCell ?_ (by first | (simp; done) | (simp; omega) | omega) _) | (refine Below.alloc ?_ (by first | (simp; done) | (simp; omega) | omega) _))))).marks (HC.out.below (by exact (by repeat (first | with_reducible exact Below.refl _ _ | with_reducible assumption | refine below_drewN ?_ _ | with_reducible refine Below.drew ?_ | (refine Below.setCell ?_ (by first | (simp; done) | (simp; omega) | omega) _) | (refine Below.alloc ?_ (by first | (simp; done) | (simp; omega) | omega) _))))).marks HC.out.len).mono ?_; rintro e w8 ⟨rfl, q, rfl⟩)
          | (go_at_call 15; refine (awake_any _).mono ?_; rintro e w9 ⟨rfl, hB9⟩))
        go_ret
        exact ⟨by simp, Below.trans (by exact (by repeat (first | with_reducible exact Below.refl _ _ | with_reducible assumption | refine below_drewN ?_ _ | with_reducible refine Below.drew ?_ | (refine Below.setCell ?_ (by first | (simp; done) | (simp; omega) | omega) _) | (refine Below.alloc ?_ (by first | (simp; done) | (simp; omega) | omega) _)))) (hB9.mono (by first | (simp; done) | (simp; omega) | omega))⟩
      · have hE : Hid ([] = movedF ms by_ ∧ 2 = movedE ms by_) := by
          have : okMv ms by_ = false := by simpa using ho
          exact ⟨by simp [movedF, this], by simp [movedE, hv, this]⟩
        have HV := Lib.hid hv
        clear hv ho
        go_enter Try.func11, Try.ntmps11
        go_wp2_with (first
          | (go_at_call 29; refine (long_any _ _ _ _).mono ?_; rintro e w' ⟨rfl, rfl⟩)
          | (go_at_call 33; refine (refValidClock_any _ _ _ _ (HC.out.below (by repeat (first | with_reducible exact Below.refl _ _ | with_reducible assumption | refine below_drewN ?_ _ | with_reducible refine Below.drew ?_ | (refine Below.setCell ?_ (by first | (simp; done) | (simp; omega) | omega) _) | (refine Below.alloc ?_ (by first | (simp; done) | (simp; omega) | omega) _)))).marks HC.out.len).mono ?_; rintro e w1 ⟨he, hB1⟩; rw [HV.out] at he; subst he)
          | (go_at_call 45; refine (moved_any _ _ _ _ _ (HC.out.below (hB1))).mono ?_; rintro e w2 ⟨A2, c2, ys, E, rfl, hC2, hB2, hF2⟩; obtain rfl : ys = [] := hF2.out.1.trans hE.out.1.symm; obtain rfl : E = 2 := hF2.out.2.trans hE.out.2.symm)
          | (go_at_call 15; refine (awake_any _).mono ?_; rintro e w3 ⟨rfl, hB3⟩))
        go_ret
        exact ⟨rfl, (hB1.trans (hB2.mono hB1.size)).trans (hB3.mono (Nat.le_trans hB1.size hB2.size))⟩
    · have hv2 : vkB ms = false := by simpa using hv
      go_enter Try.func11, Try.ntmps11
      go_wp2_with (first
        | (go_at_call 29; refine (long_any _ _ _ _).mono ?_; rintro e w' ⟨rfl, rfl⟩)
        | (go_at_call 33; refine (refValidClock_any _ _ _ _ (HC.out.below (by repeat (first | with_reducible exact Below.refl _ _ | with_reducible assumption | refine below_drewN ?_ _ | with_reducible refine Below.drew ?_ | (refine Below.setCell ?_ (by first | (simp; done) | (simp; omega) | omega) _) | (refine Below.alloc ?_ (by first | (simp; done) | (simp; omega) | omega) _)))).marks HC.out.len).mono ?_; rintro e w1 ⟨he, hB1⟩; rw [hv2] at he; subst he)
        | (go_at_call 15; refine (awake_any _).mono ?_; rintro e w3 ⟨rfl, hB3⟩))
      go_ret
      exact ⟨rfl, hB1.trans (hB3.mono hB1.size)⟩
end Go.Proofs.Ytjghlfagdleglaa
