/-
  The walk of IceLeasts: it returns true, whatever it is given.
-/
import Derived.Test.YtmndfcjkokolbaaLeast
namespace Go.Proofs.Ytmndfcjkokolbaa
open Go.RowKit Go.Shelf

set_option maxRecDepth 100000 in
set_option maxHeartbeats 1000000 in
theorem iceLeasts_walk (ms : List (Int × Int)) (A : Option Addr) (c : Nat) (n : Int) (w : World) (hA : Marks w A ms) (hc : ms.length ≤ c) (hc0 : c ≤ maxLen) (_hs : (Lit.int .i64 n).wf = true) :
    Calls Try.prog 7 #[.slice A ms.length c, .int .i64 n] w fun e w' => e = .returned (.bool true) ∧ Below w.heap.size w w' := by
  have H : Hid (Clk w A c ms) := ⟨hA, hc, hc0⟩
  clear hA hc hc0 _hs
  by_cases hm : 60 < ms.length
  · have hm1 : decide (60 < ms.length) = true := decide_eq_true hm
    go_enter Try.func7, Try.ntmps7
    go_wp2_with (first
      | (go_at_call 17; refine (lawLong_any _ _ _ _).mono ?_; rintro e w' ⟨rfl, rfl⟩)
      | (go_at_call 18; refine (sane_any _).mono ?_; rintro e w' ⟨rfl, hW⟩))
    go_ret
    exact ⟨rfl, hW⟩
  have hm1 : decide (60 < ms.length) = false := decide_eq_false hm
  clear hm
  go_enter Try.func7, Try.ntmps7
  go_wp2_with (first
    | (go_at_call 17; refine (lawLong_any _ _ _ _).mono ?_; rintro e w' ⟨rfl, rfl⟩)
    | (go_at_call 46; refine (iceLeast_any _ _ _ _ _ H.out).mono ?_; rintro e w1 ⟨r, E, rfl, hB1, hF1⟩)
    | (go_at_call 47; refine (refLeast_any _ _ _ _ _ (H.out.below hB1)).mono ?_; rintro e w2 ⟨r2, E2, rfl, hB2, hF2⟩; obtain rfl : r2 = r := (leastRes_one hF1.out hF2.out).1; obtain rfl : E2 = E := (leastRes_one hF1.out hF2.out).2; have hW2 := below_step hB1 hB2)
    | (go_at_call 18; refine (sane_any _).mono ?_; rintro e w6 ⟨rfl, hB6⟩)
    | fail)
  go_ret
  exact ⟨rfl, below_step hW2 hB6⟩
end Go.Proofs.Ytmndfcjkokolbaa
