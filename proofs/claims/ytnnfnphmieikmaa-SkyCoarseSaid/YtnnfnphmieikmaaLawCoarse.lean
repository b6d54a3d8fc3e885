/-
  The walk of SkyCoarse: it returns true, whatever it is given.
-/
import Derived.Test.YtnnfnphmieikmaaReg7
namespace Go.Proofs.Ytnnfnphmieikmaa
open Go Go.RowKit Go.Shelf

theorem coL_len (l : List (Int × Int)) (n : Int) : (coL l n).length ≤ maxLen := by
  unfold coL maxLen; split
  · have := stL_len (coP l n.toNat); omega
  · simp
set_option maxRecDepth 100000 in
set_option maxHeartbeats 2000000 in
theorem skyCoarse_walk (l : List (Int × Int)) (A : Option Addr) (c : Nat) (n : Int) (w : World) (hA : Marks w A l) (hc : l.length ≤ c) (hc0 : c ≤ maxLen) (_ : (Lit.int .i64 n).wf = true) :
    Calls Try.prog 9 #[.slice A l.length c, .int .i64 n] w fun e w' => e = .returned (.bool true) ∧ Below w.heap.size w w' := by
  have H : Hid (Clk w A c l) := ⟨hA, hc, hc0⟩
  clear hA hc hc0
  by_cases h1 : 1000 < l.length
  · have t1 : decide ((1000 : Int) < (l.length : Int)) = true := decide_eq_true (by omega)
    go_enter Try.func9, Try.ntmps9
    go_wp2_with (first
      | (go_at_call 40; refine (lawLong_any _ _ _ _ _).mono ?_; rintro e w' ⟨rfl, rfl⟩)
      | (go_at_call 28; refine (sane_any _).mono ?_; rintro e w9 ⟨rfl, hB9⟩))
    go_ret
    exact ⟨rfl, hB9⟩
  have t1 : decide ((1000 : Int) < (l.length : Int)) = false := decide_eq_false (by omega)
  clear h1
  have hW0 : Below w.heap.size w w := Below.refl _ _
  have L1 := Lib.hid (coL_len l n)
  go_enter Try.func9, Try.ntmps9
  go_wp2_with (first
    | (go_at_call 40; refine (lawLong_any _ _ _ _ _).mono ?_; rintro e w' ⟨rfl, rfl⟩)
    | (go_at_call 58; refine (skyCoarse_any l _ _ n _ (H.out.marks.below hW0) H.out.len).mono ?_; rintro e w1 ⟨A1, c1, rfl, hO1, hB1⟩; have hW1 := below_step hW0 hB1; clear hB1)
    | (go_at_call 59; refine (refCoarse_any l _ _ n _ (H.out.marks.below hW1) H.out.len).mono ?_; rintro e w2 ⟨A2, c2, rfl, hO2, hB2⟩; have hO1 := hO1.below hB2; have hW2 := below_step hW1 hB2; clear hB2)
    | (go_at_call 45; with_reducible refine (sameCells_same (coL l n) _ _ _ _ _ hO1.marks hO2.marks L1.out).mono ?_; rintro e w3 ⟨rfl, hB3⟩; have hW3 := below_step hW2 hB3; clear hB3)
    | (go_at_call 28; refine (sane_any _).mono ?_; rintro e w13 ⟨rfl, hB13⟩)
    | fail)
  go_ret
  exact ⟨rfl, below_step hW3 hB13⟩
end Go.Proofs.Ytnnfnphmieikmaa
