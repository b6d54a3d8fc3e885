/-
  The walk of SkySets: it returns true, whatever it is given.
-/
import Derived.Test.YtnnfnphmieikmaaReg5
namespace Go.Proofs.Ytnnfnphmieikmaa
open Go Go.RowKit Go.Shelf

theorem seL_len (l : List (Int × Int)) : (seL l).length ≤ maxLen := by
  unfold seL maxLen; split
  · have := stL_len (inL l); omega
  · simp
set_option maxRecDepth 100000 in
set_option maxHeartbeats 1000000 in
theorem skySets_walk (ms : List (Int × Int)) (A : Option Addr) (c : Nat) (n p : Int) (w : World) (hA : Marks w A ms) (hc : ms.length ≤ c) (hc0 : c ≤ maxLen) (_ : (Lit.int .i64 n).wf = true) (_ : (Lit.int .i64 p).wf = true) :
    Calls Try.prog 7 #[.slice A ms.length c, .agg #[.int .i64 n, .int .i64 p]] w fun e w' => e = .returned (.bool true) ∧ Below w.heap.size w w' := by
  have H : Hid (Clk w A c ms) := ⟨hA, hc, hc0⟩
  clear hA hc hc0
  have hb0 : Below w.heap.size w (w.alloc (.cells #[.int .i64 n, .int .i64 p] 43)) := Below.alloc (Below.refl _ _) (Nat.le_refl _) _
  have TA : Hid True := Lib.hid trivial
  by_cases h1 : 1000 < ms.length ∧ ms.length ≤ 4000
  · obtain ⟨h2, h3⟩ := h1
    have t1 : decide ((1000 : Int) < (ms.length : Int)) = true := decide_eq_true (by omega)
    have t2 : decide ((ms.length : Int) ≤ 4000) = true := decide_eq_true (by omega)
    go_enter Try.func7, Try.ntmps7
    go_wp2_with (first
      | (go_at_call 40; refine (lawLong_any _ _ _ _ _).mono ?_; rintro e w' ⟨rfl, rfl⟩)
      | (go_at_call 28; refine (sane_any _).mono ?_; rintro e w9 ⟨rfl, hB9⟩))
    go_ret
    exact ⟨rfl, Below.trans hb0 (hB9.mono (by simp))⟩
  by_cases h4 : 5000 < ms.length
  · have t1 : decide ((1000 : Int) < (ms.length : Int)) = true := decide_eq_true (by omega)
    have t2 : decide ((ms.length : Int) ≤ 4000) = false := decide_eq_false (by omega)
    have t3 : decide ((5000 : Int) < (ms.length : Int)) = true := decide_eq_true (by omega)
    go_enter Try.func7, Try.ntmps7
    go_wp2_with (first
      | (go_at_call 40; refine (lawLong_any _ _ _ _ _).mono ?_; rintro e w' ⟨rfl, rfl⟩)
      | (go_at_call 28; refine (sane_any _).mono ?_; rintro e w9 ⟨rfl, hB9⟩))
    go_ret
    exact ⟨rfl, Below.trans hb0 (hB9.mono (by simp))⟩
  have t3 : decide ((5000 : Int) < (ms.length : Int)) = false := decide_eq_false (by omega)
  have HL := Lib.hid (seL_len ms)
  by_cases h5 : 1000 < ms.length
  all_goals
    first
      | (have t1 : decide ((1000 : Int) < (ms.length : Int)) = true := decide_eq_true (by omega)
         have t2 : decide ((ms.length : Int) ≤ 4000) = false := decide_eq_false (by omega))
      | (have t1 : decide ((1000 : Int) < (ms.length : Int)) = false := decide_eq_false (by omega))
    clear h1 h4 h5
    go_enter Try.func7, Try.ntmps7
    go_wp2_with (first
      | (go_at_call 40; refine (lawLong_any _ _ _ _ _).mono ?_; rintro e w' ⟨rfl, rfl⟩)
      | (go_at_call 41; refine (skySet_any ms _ _ _ (H.out.marks.below hb0) H.out.len).mono ?_; rintro e w1 ⟨A1, c1, rfl, hO1, hB1⟩; have b1 := (hB1.block w.heap.size (by simp)).trans (heap_alloc_new w _); have HK1 := Lib.hid b1; have c0 := blk_cell b1 0 rfl; have c1' := blk_cell b1 1 rfl; have zz := (Array.getElem?_eq_some_iff.1 b1).1; have hW1 : Below w.heap.size w w1 := Below.trans hb0 (hB1.mono (by simp)); clear b1 hB1)
      | (go_at_call 42; refine (refSet_any ms _ _ _ (H.out.marks.below hW1) H.out.len).mono ?_; rintro e w2 ⟨A2, c2, rfl, hO2, hB2⟩; have hO1 := hO1.below hB2; have b2 := (hB2.block w.heap.size zz).trans HK1.out; have HK2 := Lib.hid b2; have c0 := blk_cell b2 0 rfl; have c1' := blk_cell b2 1 rfl; have zz := (Array.getElem?_eq_some_iff.1 b2).1; have hW2 := below_step hW1 hB2; clear b2 hB2)
      | (go_at_call 43; refine (skyValid_any ms _ _ _ (H.out.marks.below hW2) H.out.len).mono ?_; rintro e w3 ⟨rfl, hB3⟩; have hO1 := hO1.below hB3; have hO2 := hO2.below hB3; have b3 := (hB3.block w.heap.size zz).trans HK2.out; have HK3 := Lib.hid b3; have c0 := blk_cell b3 0 rfl; have c1' := blk_cell b3 1 rfl; have zz := (Array.getElem?_eq_some_iff.1 b3).1; have hW3 := below_step hW2 hB3; clear b3 hB3)
      | (go_at_call 44; refine (refValid_any ms _ _ _ (H.out.marks.below hW3) H.out.len).mono ?_; rintro e w4 ⟨rfl, hB4⟩; have hO1 := hO1.below hB4; have hO2 := hO2.below hB4; have b4 := (hB4.block w.heap.size zz).trans HK3.out; have HK4 := Lib.hid b4; have c0 := blk_cell b4 0 rfl; have c1' := blk_cell b4 1 rfl; have zz := (Array.getElem?_eq_some_iff.1 b4).1; have hW4 := below_step hW3 hB4; clear b4 hB4)
      | (go_at_call 45; refine (sameCells_same (seL ms) _ _ _ _ _ hO1.marks hO2.marks HL.out).mono ?_; rintro e w5 ⟨rfl, hB5⟩; have b5 := (hB5.block w.heap.size zz).trans HK4.out; have HK5 := Lib.hid b5; have c0 := blk_cell b5 0 rfl; have c1' := blk_cell b5 1 rfl; have zz := (Array.getElem?_eq_some_iff.1 b5).1; have hW5 := below_step hW4 hB5; clear b5 hB5)
      | (go_at_call 46; refine (skySize_any ms _ _ _ (H.out.marks.below hW5) H.out.len).mono ?_; rintro e w6 ⟨rfl, hB6⟩; have b6 := (hB6.block w.heap.size zz).trans HK5.out; have HK6 := Lib.hid b6; have c0 := blk_cell b6 0 rfl; have c1' := blk_cell b6 1 rfl; have zz := (Array.getElem?_eq_some_iff.1 b6).1; have hW6 := below_step hW5 hB6; clear b6 hB6)
      | (go_at_call 47; refine (refSize_any ms _ _ _ (H.out.marks.below hW6) H.out.len).mono ?_; rintro e w7 ⟨rfl, hB7⟩; have b7 := (hB7.block w.heap.size zz).trans HK6.out; have HK7 := Lib.hid b7; have c0 := blk_cell b7 0 rfl; have c1' := blk_cell b7 1 rfl; have zz := (Array.getElem?_eq_some_iff.1 b7).1; have hW7 := below_step hW6 hB7; clear b7 hB7)
      | (go_at_call 48; refine (skyHas_any ms _ _ n p _ (H.out.marks.below hW7) H.out.len).mono ?_; rintro e w8 ⟨rfl, hB8⟩; have b8 := (hB8.block w.heap.size zz).trans HK7.out; have c0 := blk_cell b8 0 rfl; have c1' := blk_cell b8 1 rfl; have hW8 := below_step hW7 hB8; clear b8 hB8)
      | (go_at_call 49; refine (refHas_any ms _ _ n p _ (H.out.marks.below hW8) H.out.len).mono ?_; rintro e w9 ⟨rfl, hB9⟩; have hW9 := below_step hW8 hB9; clear hB9)
      | (go_at_call 28; refine (sane_any _).mono ?_; rintro e w10 ⟨rfl, hB10⟩)
      | fail)
    go_ret
    exact ⟨rfl, below_step hW9 hB10⟩
end Go.Proofs.Ytnnfnphmieikmaa
