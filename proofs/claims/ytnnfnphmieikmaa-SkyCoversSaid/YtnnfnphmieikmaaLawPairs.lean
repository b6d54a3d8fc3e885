/-
  The walk of SkyPairs: it returns true, whatever it is given.
-/
import Derived.Test.YtnnfnphmieikmaaReg6
namespace Go.Proofs.Ytnnfnphmieikmaa
open Go Go.RowKit Go.Shelf

theorem mxL_len (f : Bool → Bool → Bool) (l m : List (Int × Int)) : (mxL f l m).length ≤ maxLen := by
  unfold mxL maxLen; split
  · have := stL_len (mxP f l m); omega
  · simp
theorem rsL_len (l : List (Int × Int)) : (rsL l).length ≤ maxLen := by
  unfold rsL maxLen; split
  · have := stL_len (rsP l); omega
  · simp
set_option maxRecDepth 100000 in
set_option maxHeartbeats 2000000 in
theorem skyPairs_walk (l : List (Int × Int)) (A : Option Addr) (c : Nat) (m : List (Int × Int)) (B : Option Addr) (d : Nat) (w : World) (hA : Marks w A l) (hc : l.length ≤ c) (hc0 : c ≤ maxLen) (hB : Marks w B m) (hd : m.length ≤ d) (hd0 : d ≤ maxLen) :
    Calls Try.prog 8 #[.slice A l.length c, .slice B m.length d] w fun e w' => e = .returned (.bool true) ∧ Below w.heap.size w w' := by
  have H : Hid (Clk w A c l) := ⟨hA, hc, hc0⟩
  have K : Hid (Clk w B d m) := ⟨hB, hd, hd0⟩
  clear hA hc hc0 hB hd hd0
  by_cases h1 : 1000 < l.length
  · have t1 : decide ((1000 : Int) < (l.length : Int)) = true := decide_eq_true (by omega)
    go_enter Try.func8, Try.ntmps8
    go_wp2_with (first
      | (go_at_call 40; refine (lawLong_any _ _ _ _ _).mono ?_; rintro e w' ⟨rfl, rfl⟩)
      | (go_at_call 28; refine (sane_any _).mono ?_; rintro e w9 ⟨rfl, hB9⟩))
    go_ret
    exact ⟨rfl, hB9⟩
  have t1 : decide ((1000 : Int) < (l.length : Int)) = false := decide_eq_false (by omega)
  by_cases h2 : 1000 < m.length
  · have t2 : decide ((1000 : Int) < (m.length : Int)) = true := decide_eq_true (by omega)
    go_enter Try.func8, Try.ntmps8
    go_wp2_with (first
      | (go_at_call 40; refine (lawLong_any _ _ _ _ _).mono ?_; rintro e w' ⟨rfl, rfl⟩)
      | (go_at_call 28; refine (sane_any _).mono ?_; rintro e w9 ⟨rfl, hB9⟩))
    go_ret
    exact ⟨rfl, hB9⟩
  have t2 : decide ((1000 : Int) < (m.length : Int)) = false := decide_eq_false (by omega)
  clear h1 h2
  have hW0 : Below w.heap.size w w := Below.refl _ _
  have L1 := Lib.hid (mxL_len orB l m)
  have L2 := Lib.hid (mxL_len andB l m)
  have L3 := Lib.hid (mxL_len lessB l m)
  have L4 := Lib.hid (rsL_len l)
  go_enter Try.func8, Try.ntmps8
  go_wp2_with (first
    | (go_at_call 40; refine (lawLong_any _ _ _ _ _).mono ?_; rintro e w' ⟨rfl, rfl⟩)
    | (go_at_call 50; refine (skyJoin_any l m _ _ _ _ _ (H.out.marks.below hW0) (K.out.marks.below hW0) H.out.len K.out.len).mono ?_; rintro e w1 ⟨A1, c1, rfl, hO1, hB1⟩; have hW1 := below_step hW0 hB1; clear hB1)
    | (go_at_call 51; refine (refJoin_any l m _ _ _ _ _ (H.out.marks.below hW1) (K.out.marks.below hW1) H.out.len K.out.len).mono ?_; rintro e w2 ⟨A2, c2, rfl, hO2, hB2⟩; have hO1 := hO1.below hB2; have hW2 := below_step hW1 hB2; clear hB2)
    | (go_at_call 45; with_reducible refine (sameCells_same (mxL orB l m) _ _ _ _ _ hO1.marks hO2.marks L1.out).mono ?_; rintro e w3 ⟨rfl, hB3⟩; have hW3 := below_step hW2 hB3; clear hB3)
    | (go_at_call 52; refine (skyBoth_any l m _ _ _ _ _ (H.out.marks.below hW3) (K.out.marks.below hW3) H.out.len K.out.len).mono ?_; rintro e w4 ⟨A4, c4, rfl, hO4, hB4⟩; have hW4 := below_step hW3 hB4; clear hB4)
    | (go_at_call 53; refine (refBoth_any l m _ _ _ _ _ (H.out.marks.below hW4) (K.out.marks.below hW4) H.out.len K.out.len).mono ?_; rintro e w5 ⟨A5, c5, rfl, hO5, hB5⟩; have hO4 := hO4.below hB5; have hW5 := below_step hW4 hB5; clear hB5)
    | (go_at_call 45; with_reducible refine (sameCells_same (mxL andB l m) _ _ _ _ _ hO4.marks hO5.marks L2.out).mono ?_; rintro e w6 ⟨rfl, hB6⟩; have hW6 := below_step hW5 hB6; clear hB6)
    | (go_at_call 54; refine (skyWithout_any l m _ _ _ _ _ (H.out.marks.below hW6) (K.out.marks.below hW6) H.out.len K.out.len).mono ?_; rintro e w7 ⟨A7, c7, rfl, hO7, hB7⟩; have hW7 := below_step hW6 hB7; clear hB7)
    | (go_at_call 55; refine (refWithout_any l m _ _ _ _ _ (H.out.marks.below hW7) (K.out.marks.below hW7) H.out.len K.out.len).mono ?_; rintro e w8 ⟨A8, c8, rfl, hO8, hB8⟩; have hO7 := hO7.below hB8; have hW8 := below_step hW7 hB8; clear hB8)
    | (go_at_call 45; with_reducible refine (sameCells_same (mxL lessB l m) _ _ _ _ _ hO7.marks hO8.marks L3.out).mono ?_; rintro e w9 ⟨rfl, hB9⟩; have hW9 := below_step hW8 hB9; clear hB9)
    | (go_at_call 56; refine (skyRest_any l _ _ _ (H.out.marks.below hW9) H.out.len).mono ?_; rintro e w10 ⟨A10, c10, rfl, hO10, hB10⟩; have hW10 := below_step hW9 hB10; clear hB10)
    | (go_at_call 57; refine (refRest_any l _ _ _ (H.out.marks.below hW10) H.out.len).mono ?_; rintro e w11 ⟨A11, c11, rfl, hO11, hB11⟩; have hO10 := hO10.below hB11; have hW11 := below_step hW10 hB11; clear hB11)
    | (go_at_call 45; with_reducible refine (sameCells_same (rsL l) _ _ _ _ _ hO10.marks hO11.marks L4.out).mono ?_; rintro e w12 ⟨rfl, hB12⟩; have hW12 := below_step hW11 hB12; clear hB12)
    | (go_at_call 28; refine (sane_any _).mono ?_; rintro e w13 ⟨rfl, hB13⟩)
    | fail)
  go_ret
  exact ⟨rfl, below_step hW12 hB13⟩
end Go.Proofs.Ytnnfnphmieikmaa
