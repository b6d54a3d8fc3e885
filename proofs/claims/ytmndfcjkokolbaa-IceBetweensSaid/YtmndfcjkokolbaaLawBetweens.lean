/-
  The walk of IceBetweens: it returns true, whatever it is given.
-/
import Derived.Test.YtmndfcjkokolbaaRefEst
namespace Go.Proofs.Ytmndfcjkokolbaa
open Go.RowKit Go.Shelf

set_option maxRecDepth 100000 in
set_option maxHeartbeats 1000000 in
theorem iceBetweens_walk (ms : List (Int × Int)) (A : Option Addr) (c : Nat) (T : List (List Int)) (B : Option Addr) (d : Nat) (a b : Int) (w : World) (hA : Marks w A ms) (hc : ms.length ≤ c) (hc0 : c ≤ maxLen) (hT : Tabs w B T) (hd : T.length ≤ d) (hd0 : d ≤ maxLen) (_ha : (Lit.int .i64 a).wf = true) (_hb : (Lit.int .i64 b).wf = true) :
    Calls Try.prog 9 #[.slice A ms.length c, .slice B T.length d, .agg #[.int .i64 a, .int .i64 b]] w fun e w' => e = .returned (.bool true) ∧ Below w.heap.size w w' := by
  have H : Hid (Clk w A c ms) := ⟨hA, hc, hc0⟩
  have HT := Lib.hid hT
  have hTl : T.length ≤ maxLen := Nat.le_trans hd hd0
  clear hA hc hc0 hT _ha _hb hd hd0
  have hB0 : Below w.heap.size w (w.alloc (.cells #[.int .i64 a, .int .i64 b] 49)) := (by repeat (first | with_reducible exact Below.refl _ _ | with_reducible assumption | refine below_drewN ?_ _ | with_reducible refine Below.drew ?_ | (refine Below.setCell ?_ (by first | (simp; done) | (simp; omega) | omega) _) | (refine Below.alloc ?_ (by first | (simp; done) | (simp; omega) | omega) _)))
  by_cases hm : 60 < ms.length
  · have hm1 : decide (60 < ms.length) = true := decide_eq_true hm
    go_enter Try.func9, Try.ntmps9
    go_wp2_with (first
      | (go_at_call 17; refine (lawLong_any _ _ _ _).mono ?_; rintro e w' ⟨rfl, rfl⟩)
      | (go_at_call 18; refine (sane_any _).mono ?_; rintro e w' ⟨rfl, hW⟩))
    go_ret
    exact ⟨rfl, hB0.trans (hW.mono (by simp))⟩
  have hm1 : decide (60 < ms.length) = false := decide_eq_false hm
  clear hm
  cases hw : wideB T with
  | true =>
    have HWI := Lib.hid hw
    clear hw
    go_enter Try.func9, Try.ntmps9
    go_wp2_with (first
      | (go_at_call 17; refine (lawLong_any _ _ _ _).mono ?_; rintro e w' ⟨rfl, rfl⟩)
      | (go_at_call 53; refine (wide_any T _ _ _ (HT.out.below hB0) hTl).mono ?_; rintro e w' ⟨rfl, rfl⟩; rw [HWI.out])
      | (go_at_call 18; refine (sane_any _).mono ?_; rintro e w' ⟨rfl, hW⟩))
    go_ret
    exact ⟨rfl, hB0.trans (hW.mono (by simp))⟩
  | false =>
    have HWI := Lib.hid hw
    clear hw
    go_enter Try.func9, Try.ntmps9
    go_wp2_with (first
      | (go_at_call 17; refine (lawLong_any _ _ _ _).mono ?_; rintro e w' ⟨rfl, rfl⟩)
      | (go_at_call 53; refine (wide_any T _ _ _ (HT.out.below hB0) hTl).mono ?_; rintro e w' ⟨rfl, rfl⟩; rw [HWI.out])
      | (go_at_call 54; refine (iceBetween_any ms _ _ T _ _ a b _ (H.out.below hB0) (HT.out.below hB0) hTl).mono ?_; rintro e w1 ⟨r, q, E, rfl, hB1, hF1⟩; have hz1 := hB1.size; simp at hz1; have k1 : w.heap.size < w1.heap.size := (by omega); have hW1 : Below w.heap.size w w1 := Below.trans hB0 (hB1.mono (by simp)); have b0 := (hB1.cell (p := ⟨w.heap.size, 0, none⟩) (by simp)).trans (show World.cell? _ _ = some (.int .i64 a) by go_simp); have b1 := (hB1.cell (p := ⟨w.heap.size, 1, none⟩) (by simp)).trans (show World.cell? _ _ = some (.int .i64 b) by go_simp); clear hB1)
      | (go_at_call 55; refine (refBetween_any ms _ _ T _ _ a b _ (H.out.below hW1) (HT.out.below hW1)).mono ?_; rintro e w2 ⟨r2, q2, E2, rfl, hB2, hF2⟩; obtain ⟨e1, e2, e3⟩ := betRes_one hF1.out hF2.out; subst e1; subst e2; subst e3; have k2 := Nat.lt_of_lt_of_le k1 hB2.size; have b0 := (hB2.cell (p := ⟨w.heap.size, 0, none⟩) k1).trans b0; have b1 := (hB2.cell (p := ⟨w.heap.size, 1, none⟩) k1).trans b1; have hW2 := below_step hW1 hB2; clear hB2)
      | (go_at_call 56; refine (iceClearest_any ms _ _ T _ _ a b _ (H.out.below hW2) (HT.out.below hW2) hTl).mono ?_; rintro e w3 ⟨k, E3, rfl, hB3, hF3⟩; have k3 := Nat.lt_of_lt_of_le k2 hB3.size; have b0 := (hB3.cell (p := ⟨w.heap.size, 0, none⟩) k2).trans b0; have b1 := (hB3.cell (p := ⟨w.heap.size, 1, none⟩) k2).trans b1; have hW3 := below_step hW2 hB3; clear hB3)
      | (go_at_call 57; refine (refClearest_any ms _ _ T _ _ a b _ (H.out.below hW3) (HT.out.below hW3)).mono ?_; rintro e w4 ⟨k4, E4, rfl, hB4, hF4⟩; obtain ⟨e1, e2⟩ := clrRes_one hF3.out hF4.out; subst e1; subst e2; have hW4 := below_step hW3 hB4; clear hB4)
      | (go_at_call 18; refine (sane_any _).mono ?_; rintro e w5 ⟨rfl, hB5⟩)
      | fail)
    go_ret
    exact ⟨rfl, below_step hW4 hB5⟩
end Go.Proofs.Ytmndfcjkokolbaa
