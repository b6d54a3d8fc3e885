/-
  The walk of ConeMoves: it returns true, whatever it is given.
-/
import Derived.Test.YtmlkdjcjfkfdiaaRefMoves
namespace Go.Proofs.Ytmlkdjcjfkfdiaa
open Go.RowKit Go.Shelf

theorem sameHits_same (xs : List (Int × Int)) (A B : Option Addr) (c d : Nat) (w : World) (hA : Marks w A xs) (hB : Marks w B xs) (hl : xs.length ≤ maxLen) :
    Calls Try.prog 53 #[.slice A xs.length c, .slice B xs.length d] w fun e w' => e = .returned (.bool true) ∧ Below w.heap.size w w' :=
  (sameHits_any xs xs A B c d w hA hB hl).mono fun e w' ⟨he, n, hw⟩ => ⟨by rw [he]; simp, by rw [hw]; exact below_drewN (Below.refl _ _) n⟩
theorem sameInts_same (xs : List Int) (A B : Option Addr) (c d : Nat) (w : World) (hA : Ints w A xs) (hB : Ints w B xs) (hl : xs.length ≤ maxLen) :
    Calls Try.prog 23 #[.slice A xs.length c, .slice B xs.length d] w fun e w' => e = .returned (.bool true) ∧ Below w.heap.size w w' :=
  (sameInts_any xs xs A B c d w hA hB hl).mono fun e w' ⟨he, n, hw⟩ => ⟨by rw [he]; simp, by rw [hw]; exact below_drewN (Below.refl _ _) n⟩

set_option maxRecDepth 100000 in
set_option maxHeartbeats 1000000 in
theorem coneMoves_walk (ms : List (Int × Int)) (A : Option Addr) (c : Nat) (p t : Int) (w : World) (hA : Marks w A ms) (hc : ms.length ≤ c) (hc0 : c ≤ maxLen) (_hp : (Lit.int .i64 p).wf = true) (_ht : (Lit.int .i64 t).wf = true) :
    Calls Try.prog 9 #[.slice A ms.length c, .int .i64 p, .int .i64 t] w fun e w' => e = .returned (.bool true) ∧ Below w.heap.size w w' := by
  have H : Hid (Clk w A c ms) := ⟨hA, hc, hc0⟩
  clear hA hc hc0
  by_cases hm : 40 < ms.length
  · have hm1 : decide (40 < ms.length) = true := decide_eq_true hm
    go_enter Try.func9, Try.ntmps9
    go_wp2_with (first
      | (go_at_call 15; refine (lawLong_any _ _ _ _).mono ?_; rintro e w' ⟨rfl, rfl⟩)
      | (go_at_call 16; refine (sane_any _).mono ?_; rintro e w' ⟨rfl, hW⟩))
    go_ret
    exact ⟨rfl, hW⟩
  have hm1 : decide (40 < ms.length) = false := decide_eq_false hm
  have TA : Hid True := Lib.hid trivial
  go_enter Try.func9, Try.ntmps9
  go_wp2_with (first
    | (go_at_call 15; refine (lawLong_any _ _ _ _).mono ?_; rintro e w' ⟨rfl, rfl⟩)
    | (go_at_call 49; refine (moved_any _ _ _ _ _ _ H.out).mono ?_; rintro e w1 ⟨A1, c1, ys, E, rfl, hI1, hB1, hF1⟩)
    | (go_at_call 50; refine (refMoved_any _ _ _ _ _ _ (H.out.below hB1)).mono ?_; rintro e w2 ⟨A2, c2, ys2, E2, rfl, hI2, hB2, hF2⟩; obtain rfl : ys2 = ys := (hF2.out.1.trans hF1.out.1.symm); obtain rfl : E2 = E := (hF2.out.2.trans hF1.out.2.symm); have hW2 := below_step hB1 hB2)
    | (go_at_call 51; refine (coneTurned_any _ _ _ _ (H.out.below hW2)).mono ?_; rintro e w3 ⟨A3, c3, zs, F, rfl, hI3, hB3, hF3⟩; have hW3 := below_step hW2 hB3)
    | (go_at_call 52; refine (refTurned_any _ _ _ _ (H.out.below hW3)).mono ?_; rintro e w4 ⟨A4, c4, zs2, F2, rfl, hI4, hB4, hF4⟩; obtain rfl : zs2 = zs := (hF4.out.1.trans hF3.out.1.symm); obtain rfl : F2 = F := (hF4.out.2.trans hF3.out.2.symm); have hW4 := below_step hW3 hB4)
    | (go_at_call 53; clear TA; refine (sameHits_same _ _ _ _ _ _ (((hI1.below hB2).below hB3).below hB4).marks ((hI2.below hB3).below hB4).marks hI1.len).mono ?_; rintro e w5 ⟨rfl, hB5⟩; have hW5 := below_step hW4 hB5)
    | (go_at_call 53; refine (sameHits_same _ _ _ _ _ _ ((hI3.below hB4).below hB5).marks (hI4.below hB5).marks hI3.len).mono ?_; rintro e w6 ⟨rfl, hB6⟩; have hW6 := below_step hW5 hB6)
    | (go_at_call 16; refine (sane_any _).mono ?_; rintro e w7 ⟨rfl, hB7⟩)
    | fail)
  go_ret
  exact ⟨rfl, below_step hW6 hB7⟩
end Go.Proofs.Ytmlkdjcjfkfdiaa
