/-
  The walk of IceDarks: it returns true, whatever it is given.
-/
import Derived.Test.YtmndfcjkokolbaaAreDark
import Derived.Test.YtmndfcjkokolbaaSame
namespace Go.Proofs.Ytmndfcjkokolbaa
open Go.RowKit Go.Shelf

set_option maxRecDepth 100000 in
set_option maxHeartbeats 1000000 in
theorem iceDarks_walk (ms : List (Int × Int)) (A : Option Addr) (c : Nat) (s : Int) (ns : List Int) (D : Option Addr) (cd : Nat) (w : World) (hA : Marks w A ms) (hc : ms.length ≤ c) (hc0 : c ≤ maxLen) (_hs : (Lit.int .i64 s).wf = true) (hD : Ints w D ns) (_hd : ns.length ≤ cd) (_hd0 : cd ≤ maxLen) :
    Calls Try.prog 6 #[.slice A ms.length c, .int .i64 s, .slice D ns.length cd] w fun e w' => e = .returned (.bool true) ∧ Below w.heap.size w w' := by
  have H : Hid (Clk w A c ms) := ⟨hA, hc, hc0⟩
  have HD := Lib.hid hD
  clear hA hc hc0 _hs hD _hd _hd0
  by_cases hm : 60 < ms.length
  · have hm1 : decide (60 < ms.length) = true := decide_eq_true hm
    go_enter Try.func6, Try.ntmps6
    go_wp2_with (first
      | (go_at_call 17; refine (lawLong_any _ _ _ _).mono ?_; rintro e w' ⟨rfl, rfl⟩)
      | (go_at_call 18; refine (sane_any _).mono ?_; rintro e w' ⟨rfl, hW⟩))
    go_ret
    exact ⟨rfl, hW⟩
  have hm1 : decide (60 < ms.length) = false := decide_eq_false hm
  clear hm
  by_cases hn : 700 < (ns.length : Int)
  · have hn1 : decide (700 < (ns.length : Int)) = true := decide_eq_true hn
    go_enter Try.func6, Try.ntmps6
    go_wp2_with (first
      | (go_at_call 17; refine (lawLong_any _ _ _ _).mono ?_; rintro e w' ⟨rfl, rfl⟩)
      | (go_at_call 18; refine (sane_any _).mono ?_; rintro e w' ⟨rfl, hW⟩))
    go_ret
    exact ⟨rfl, hW⟩
  have hn1 : decide (700 < (ns.length : Int)) = false := decide_eq_false hn
  have hn2 : ns.length ≤ 700 := by omega
  clear hn
  go_enter Try.func6, Try.ntmps6
  go_wp2_with (first
    | (go_at_call 17; refine (lawLong_any _ _ _ _).mono ?_; rintro e w' ⟨rfl, rfl⟩)
    | (go_at_call 42; refine (iceDark_any _ _ _ _ _ H.out).mono ?_; rintro e w1 ⟨A1, c1, xs, E, rfl, hO1, hB1, hF1⟩)
    | (go_at_call 43; refine (refDark_any _ _ _ _ _ (H.out.below hB1)).mono ?_; rintro e w2 ⟨A2, c2, ys, E2, rfl, hO2, hB2, hF2⟩; obtain rfl : ys = xs := hF2.out.1.trans hF1.out.1.symm; obtain rfl : E2 = E := hF2.out.2.trans hF1.out.2.symm; have hW2 := below_step hB1 hB2)
    | (go_at_call 44; refine (iceAreDark_any _ _ _ _ _ _ _ _ (H.out.below hW2) (HD.out.below hW2) hn2).mono ?_; rintro e w3 ⟨b3, E3, rfl, hB3, hF3⟩; have hW3 := below_step hW2 hB3)
    | (go_at_call 45; refine (refAreDark_any _ _ _ _ _ _ _ _ (H.out.below hW3) (HD.out.below hW3) hn2).mono ?_; rintro e w4 ⟨b4, E4, rfl, hB4, hF4⟩; obtain rfl : b4 = b3 := (areRes_one hF3.out hF4.out).1; obtain rfl : E4 = E3 := (areRes_one hF3.out hF4.out).2; have hW4 := below_step hW3 hB4)
    | (go_at_call 41; refine (sameInts_same _ _ _ _ _ _ (((hO1.below hB2).below hB3).below hB4).ints ((hO2.below hB3).below hB4).ints (Nat.le_trans hO1.le hO1.cap)).mono ?_; rintro e w5 ⟨rfl, hB5⟩; have hW5 := below_step hW4 hB5)
    | (go_at_call 18; refine (sane_any _).mono ?_; rintro e w6 ⟨rfl, hB6⟩)
    | fail)
  go_ret
  exact ⟨rfl, below_step hW5 hB6⟩
end Go.Proofs.Ytmndfcjkokolbaa
