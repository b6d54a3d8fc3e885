/-
  The walk of IceLosses: it returns true, whatever it is given.
-/
import Derived.Test.YtmndfcjkokolbaaSane
namespace Go.Proofs.Ytmndfcjkokolbaa
open Go.RowKit Go.Shelf

set_option maxRecDepth 100000 in
set_option maxHeartbeats 1000000 in
theorem iceLosses_walk (ms : List (Int × Int)) (A : Option Addr) (c : Nat) (a b : Int) (w : World) (hA : Marks w A ms) (hc : ms.length ≤ c) (hc0 : c ≤ maxLen) (_ha : (Lit.int .i64 a).wf = true) (_hb : (Lit.int .i64 b).wf = true) :
    Calls Try.prog 3 #[.slice A ms.length c, .int .i64 a, .int .i64 b] w fun e w' => e = .returned (.bool true) ∧ Below w.heap.size w w' := by
  have H : Hid (Clk w A c ms) := ⟨hA, hc, hc0⟩
  clear hA hc hc0 _ha _hb
  by_cases hm : 60 < ms.length
  · have hm1 : decide (60 < ms.length) = true := decide_eq_true hm
    go_enter Try.func3, Try.ntmps3
    go_wp2_with (first
      | (go_at_call 17; refine (lawLong_any _ _ _ _).mono ?_; rintro e w' ⟨rfl, rfl⟩)
      | (go_at_call 18; refine (sane_any _).mono ?_; rintro e w' ⟨rfl, hW⟩))
    go_ret
    exact ⟨rfl, hW⟩
  have hm1 : decide (60 < ms.length) = false := decide_eq_false hm
  clear hm
  go_enter Try.func3, Try.ntmps3
  go_wp2_with (first
    | (go_at_call 17; refine (lawLong_any _ _ _ _).mono ?_; rintro e w' ⟨rfl, rfl⟩)
    | (go_at_call 19; refine (iceDepth_any _ _ _ _ H.out).mono ?_; rintro e w1 ⟨r, E, rfl, hB1, hF1⟩)
    | (go_at_call 20; refine (refDepth_any _ _ _ _ (H.out.below hB1)).mono ?_; rintro e w2 ⟨r2, E2, rfl, hB2, hF2⟩; obtain rfl : r2 = r := hF2.out.1.trans hF1.out.1.symm; obtain rfl : E2 = E := hF2.out.2.trans hF1.out.2.symm; have hW2 := below_step hB1 hB2)
    | (go_at_call 21; refine (valid_any _ _ _ _ (H.out.below hW2).marks H.out.len).mono ?_; rintro e w3 ⟨rfl, hB3⟩; have hW3 := below_step hW2 hB3)
    | (go_at_call 22; refine (refValid_any _ _ _ _ (H.out.below hW3).marks H.out.len).mono ?_; rintro e w4 ⟨rfl, n4, rfl⟩; have hW4 := below_drewN hW3 n4)
    | (go_at_call 23; refine (iceDim_any _ _ _ _ _ (H.out.below hW4)).mono ?_; rintro e w5 ⟨r5, E5, rfl, hB5, hF5⟩; have hW5 := below_step hW4 hB5)
    | (go_at_call 24; refine (refDim_any _ _ _ _ _ (H.out.below hW5)).mono ?_; rintro e w6 ⟨r6, E6, rfl, hB6, hF6⟩; obtain rfl : r6 = r5 := hF6.out.1.trans hF5.out.1.symm; obtain rfl : E6 = E5 := hF6.out.2.trans hF5.out.2.symm; have hW6 := below_step hW5 hB6)
    | (go_at_call 25; refine (iceLoss_any _ _ _ _ _ _ (H.out.below hW6)).mono ?_; rintro e w7 ⟨r7, E7, rfl, hB7, hF7⟩; have hW7 := below_step hW6 hB7)
    | (go_at_call 26; refine (refLoss_any _ _ _ _ _ _ (H.out.below hW7)).mono ?_; rintro e w8 ⟨r8, E8, rfl, hB8, hF8⟩; obtain rfl : r8 = r7 := hF8.out.1.trans hF7.out.1.symm; obtain rfl : E8 = E7 := hF8.out.2.trans hF7.out.2.symm; have hW8 := below_step hW7 hB8)
    | (go_at_call 27; refine (iceMean_any _ _ _ _ _ _ (H.out.below hW8)).mono ?_; rintro e w9 ⟨n9, d9, E9, rfl, hB9, hF9⟩; have hW9 := below_step hW8 hB9; have hz9 := hW9.size)
    | (go_at_call 28; refine (refMean_any _ _ _ _ _ _ (H.out.below (show Below w.heap.size w (w9.alloc (.cells #[.int .i64 n9, .int .i64 d9] 31)) from (by repeat (first | with_reducible exact Below.refl _ _ | with_reducible assumption | refine below_drewN ?_ _ | with_reducible refine Below.drew ?_ | (refine Below.setCell ?_ (by first | (simp; done) | (simp; omega) | omega) _) | (refine Below.alloc ?_ (by first | (simp; done) | (simp; omega) | omega) _)))))).mono ?_; rintro e w10 ⟨n10, d10, E10, rfl, hB10, hF10⟩; obtain rfl : n10 = n9 := hF10.out.1.trans hF9.out.1.symm; obtain rfl : d10 = d9 := hF10.out.2.1.trans hF9.out.2.1.symm; obtain rfl : E10 = E9 := hF10.out.2.2.trans hF9.out.2.2.symm; have hW10 : Below w.heap.size w w10 := Below.trans (by repeat (first | with_reducible exact Below.refl _ _ | with_reducible assumption | refine below_drewN ?_ _ | with_reducible refine Below.drew ?_ | (refine Below.setCell ?_ (by first | (simp; done) | (simp; omega) | omega) _) | (refine Below.alloc ?_ (by first | (simp; done) | (simp; omega) | omega) _))) (hB10.mono (by first | (simp; done) | (simp; omega) | omega)); have hz10 := hB10.size; simp at hz10; have hz11 : w9.heap.size < w10.heap.size := (by omega); have c0 := (hB10.cell (p := ⟨w9.heap.size, 0, none⟩) (by simp)).trans (show World.cell? _ _ = some (.int .i64 n10) by go_simp); have c1 := (hB10.cell (p := ⟨w9.heap.size, 1, none⟩) (by simp)).trans (show World.cell? _ _ = some (.int .i64 d10) by go_simp))
    | (go_at_call 18; refine (sane_any _).mono ?_; rintro e w12 ⟨rfl, hB12⟩)
    | fail)
  go_ret
  exact ⟨rfl, Below.trans (show Below w.heap.size w ((w10.alloc (.cells #[.int .i64 n10, .int .i64 d10] 31))) from (by repeat (first | with_reducible exact Below.refl _ _ | with_reducible assumption | refine below_drewN ?_ _ | with_reducible refine Below.drew ?_ | (refine Below.setCell ?_ (by first | (simp; done) | (simp; omega) | omega) _) | (refine Below.alloc ?_ (by first | (simp; done) | (simp; omega) | omega) _)))) (hB12.mono (by simp; omega))⟩
end Go.Proofs.Ytmndfcjkokolbaa
