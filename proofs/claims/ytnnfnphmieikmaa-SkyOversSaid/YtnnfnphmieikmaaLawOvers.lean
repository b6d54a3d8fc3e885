/-
  The walk of SkyOvers: it returns true, whatever it is given.
-/
import Derived.Test.YtnnfnphmieikmaaLawRules
namespace Go.Proofs.Ytnnfnphmieikmaa
open Go Go.RowKit Go.Shelf

theorem row_step {W W' : World} {g : Nat} {b : Obj} (h : W.heap[g]? = some b) (hB : Below W.heap.size W W') : W'.heap[g]? = some b :=
  (hB.block g (Array.getElem?_eq_some_iff.1 h).1).trans h
/-- What mixed hands back. -/
abbrev Mix (j : Bool) (l m R : List (Int × Int)) (e0 : Int) : Prop :=
  ∀ (A B : Option Addr) (c d : Nat) (W : World), Marks W A l → Marks W B m → Calls Try.prog 115 #[.slice A l.length c, .slice B m.length d, .bool j] W fun e w' => ∃ A' c', e = .returned (.tuple #[.slice A' R.length c', .int .i64 e0]) ∧ Clk w' A' c' R ∧ Below W.heap.size W w'
def opB (j : Bool) : Bool → Bool → Bool := if j then orB else andB
set_option maxRecDepth 100000 in
theorem mix_any (j : Bool) (l m : List (Int × Int)) (hl : l.length ≤ maxLen) (hm : m.length ≤ maxLen) : Mix j l m (mxL (opB j) l m) (mxE (opB j) l m) := by
  intro A B c d W hA hB
  have HA := Lib.hid hA
  have HB := Lib.hid hB
  have CJ := Lib.hid (two_join hl hm)
  have CB := Lib.hid (two_both hl hm)
  clear hA hB
  cases j with
  | true =>
    go_enter Try.func115, Try.ntmps115
    go_wp2_with (go_at_call 50; with_reducible refine (CJ.out _ _ _ _ _ HA.out HB.out).mono ?_; rintro e w1 ⟨A1, c1, rfl, hO1, hB1⟩; have HO1 := Lib.hid hO1; clear hO1)
    go_ret2
    exact ⟨A1, c1, rfl, HO1.out, hB1⟩
  | false =>
    go_enter Try.func115, Try.ntmps115
    go_wp2_with (go_at_call 52; with_reducible refine (CB.out _ _ _ _ _ HA.out HB.out).mono ?_; rintro e w1 ⟨A1, c1, rfl, hO1, hB1⟩; have HO1 := Lib.hid hO1; clear hO1)
    go_ret2
    exact ⟨A1, c1, rfl, HO1.out, hB1⟩
theorem mix_st (j : Bool) {l m : List (Int × Int)} (hl : vaB l = true) (hm : vaB m = true) (hl2 : l.length ≤ maxLen) (hm2 : m.length ≤ maxLen) : Mix j l m (stL (mxP (opB j) l m)) (stE (mxP (opB j) l m)) := by
  have := mix_any j l m hl2 hm2
  rwa [(mx_st hl hm).1, (mx_st hl hm).2] at this
theorem op_over (j x y z : Bool) : opB j x (opB (!j) y z) = opB (!j) (opB j x y) (opB j x z) := by
  cases j <;> cases x <;> cases y <;> cases z <;> rfl
set_option maxRecDepth 100000 in
set_option maxHeartbeats 800000 in
theorem over_j_4000 (l0 l1 l2 I _ _ _ : List (Int × Int)) (A0 A1 A2 : Option Addr) (c0 c1 c2 : Nat) (w : World) (_ : Hid (Marks w A0 l0)) (H1 : Hid (Marks w A1 l1)) (H2 : Hid (Marks w A2 l2))
    (CI : Hid (Mix false l1 l2 I 4)) :
    Calls Try.prog 62 #[.agg #[.slice A0 l0.length c0, .slice A1 l1.length c1, .slice A2 l2.length c2], .bool true] w fun e w' => e = .returned (.bool true) ∧ Below w.heap.size w w' := by
  have hW0 : Below w.heap.size w (w.alloc (.cells #[.slice A0 l0.length c0, .slice A1 l1.length c1, .slice A2 l2.length c2] 60)) := Below.alloc (Below.refl _ _) (Nat.le_refl _) _
  have X0 : Hid ((w.alloc (.cells #[.slice A0 l0.length c0, .slice A1 l1.length c1, .slice A2 l2.length c2] 60)).heap[w.heap.size]? = some (.cells #[.slice A0 l0.length c0, .slice A1 l1.length c1, .slice A2 l2.length c2] 60 (0, 0))) := Lib.hid (heap_alloc_new w _)
  have y0 := blk_cell X0.out 0 (u := .slice A0 l0.length c0) rfl
  have y1 := blk_cell X0.out 1 (u := .slice A1 l1.length c1) rfl
  have y2 := blk_cell X0.out 2 (u := .slice A2 l2.length c2) rfl
  go_enter Try.func62, Try.ntmps62
  go_wp2_with (first
    | (go_at_call 115; with_reducible refine (CI.out _ _ _ _ _ (H1.out.below hW0) (H2.out.below hW0)).mono ?_; rintro e w1 ⟨A3, c3, rfl, hO1, hB1⟩; have hW1 := below_step hW0 hB1; have X1 := Lib.hid (row_step X0.out hB1); have y0 := blk_cell X1.out 0 (u := .slice A0 l0.length c0) rfl; have y1 := blk_cell X1.out 1 (u := .slice A1 l1.length c1) rfl; have y2 := blk_cell X1.out 2 (u := .slice A2 l2.length c2) rfl; clear hB1)
    | fail)
  go_ret
  exact ⟨rfl, hW1⟩
set_option maxRecDepth 100000 in
set_option maxHeartbeats 800000 in
theorem over_j_0000 (l0 l1 l2 I X F G : List (Int × Int)) (A0 A1 A2 : Option Addr) (c0 c1 c2 : Nat) (w : World) (H0 : Hid (Marks w A0 l0)) (H1 : Hid (Marks w A1 l1)) (H2 : Hid (Marks w A2 l2))
    (CI : Hid (Mix false l1 l2 I 0)) (CX : Hid (Mix true l0 I X 0)) (CF : Hid (Mix true l0 l1 F 0)) (CG : Hid (Mix true l0 l2 G 0)) (CB : Hid (Mix false F G X 0)) (LX : Hid (X.length ≤ maxLen)) :
    Calls Try.prog 62 #[.agg #[.slice A0 l0.length c0, .slice A1 l1.length c1, .slice A2 l2.length c2], .bool true] w fun e w' => e = .returned (.bool true) ∧ Below w.heap.size w w' := by
  have hW0 : Below w.heap.size w (w.alloc (.cells #[.slice A0 l0.length c0, .slice A1 l1.length c1, .slice A2 l2.length c2] 60)) := Below.alloc (Below.refl _ _) (Nat.le_refl _) _
  have X0 : Hid ((w.alloc (.cells #[.slice A0 l0.length c0, .slice A1 l1.length c1, .slice A2 l2.length c2] 60)).heap[w.heap.size]? = some (.cells #[.slice A0 l0.length c0, .slice A1 l1.length c1, .slice A2 l2.length c2] 60 (0, 0))) := Lib.hid (heap_alloc_new w _)
  have y0 := blk_cell X0.out 0 (u := .slice A0 l0.length c0) rfl
  have y1 := blk_cell X0.out 1 (u := .slice A1 l1.length c1) rfl
  have y2 := blk_cell X0.out 2 (u := .slice A2 l2.length c2) rfl
  go_enter Try.func62, Try.ntmps62
  go_wp2_with (first
    | (go_at_call 115; with_reducible refine (CI.out _ _ _ _ _ (H1.out.below hW0) (H2.out.below hW0)).mono ?_; rintro e w1 ⟨A3, c3, rfl, hO1, hB1⟩; have hW1 := below_step hW0 hB1; have X1 := Lib.hid (row_step X0.out hB1); have y0 := blk_cell X1.out 0 (u := .slice A0 l0.length c0) rfl; have y1 := blk_cell X1.out 1 (u := .slice A1 l1.length c1) rfl; have y2 := blk_cell X1.out 2 (u := .slice A2 l2.length c2) rfl; clear hB1)
    | (go_at_call 115; with_reducible refine (CX.out _ _ _ _ _ (H0.out.below hW1) hO1.marks).mono ?_; rintro e w2 ⟨A4, c4, rfl, hO2, hB2⟩; have hW2 := below_step hW1 hB2; have X2 := Lib.hid (row_step X1.out hB2); have y0 := blk_cell X2.out 0 (u := .slice A0 l0.length c0) rfl; have y1 := blk_cell X2.out 1 (u := .slice A1 l1.length c1) rfl; have y2 := blk_cell X2.out 2 (u := .slice A2 l2.length c2) rfl; clear hB2)
    | (go_at_call 115; with_reducible refine (CF.out _ _ _ _ _ (H0.out.below hW2) (H1.out.below hW2)).mono ?_; rintro e w3 ⟨A5, c5, rfl, hO3, hB3⟩; have hW3 := below_step hW2 hB3; have X3 := Lib.hid (row_step X2.out hB3); have y0 := blk_cell X3.out 0 (u := .slice A0 l0.length c0) rfl; have y1 := blk_cell X3.out 1 (u := .slice A1 l1.length c1) rfl; have y2 := blk_cell X3.out 2 (u := .slice A2 l2.length c2) rfl; have hO2 := hO2.below hB3; clear hB3)
    | (go_at_call 115; with_reducible refine (CG.out _ _ _ _ _ (H0.out.below hW3) (H2.out.below hW3)).mono ?_; rintro e w4 ⟨A6, c6, rfl, hO4, hB4⟩; have hW4 := below_step hW3 hB4; have X4 := Lib.hid (row_step X3.out hB4); have y0 := blk_cell X4.out 0 (u := .slice A0 l0.length c0) rfl; have y1 := blk_cell X4.out 1 (u := .slice A1 l1.length c1) rfl; have y2 := blk_cell X4.out 2 (u := .slice A2 l2.length c2) rfl; have hO2 := hO2.below hB4; have hO3 := hO3.below hB4; clear hB4)
    | (go_at_call 115; with_reducible refine (CB.out _ _ _ _ _ hO3.marks hO4.marks).mono ?_; rintro e w5 ⟨A7, c7, rfl, hO5, hB5⟩; have hW5 := below_step hW4 hB5; have X5 := Lib.hid (row_step X4.out hB5); have y0 := blk_cell X5.out 0 (u := .slice A0 l0.length c0) rfl; have y1 := blk_cell X5.out 1 (u := .slice A1 l1.length c1) rfl; have y2 := blk_cell X5.out 2 (u := .slice A2 l2.length c2) rfl; have hO2 := hO2.below hB5; clear hB5)
    | (go_at_call 45; with_reducible refine (sameCells_same X _ _ _ _ _ hO2.marks hO5.marks LX.out).mono ?_; rintro e w6 ⟨rfl, hB6⟩; have hW6 := below_step hW5 hB6; clear hB6)
    | fail)
  go_ret
  exact ⟨rfl, hW6⟩
set_option maxRecDepth 100000 in
set_option maxHeartbeats 800000 in
theorem over_j_0004 (l0 l1 l2 I X F G : List (Int × Int)) (A0 A1 A2 : Option Addr) (c0 c1 c2 : Nat) (w : World) (H0 : Hid (Marks w A0 l0)) (H1 : Hid (Marks w A1 l1)) (H2 : Hid (Marks w A2 l2))
    (CI : Hid (Mix false l1 l2 I 0)) (CX : Hid (Mix true l0 I X 4)) (CF : Hid (Mix true l0 l1 F 0)) (CG : Hid (Mix true l0 l2 G 0)) (CB : Hid (Mix false F G X 4)) (LX : Hid (X.length ≤ maxLen)) :
    Calls Try.prog 62 #[.agg #[.slice A0 l0.length c0, .slice A1 l1.length c1, .slice A2 l2.length c2], .bool true] w fun e w' => e = .returned (.bool true) ∧ Below w.heap.size w w' := by
  have hW0 : Below w.heap.size w (w.alloc (.cells #[.slice A0 l0.length c0, .slice A1 l1.length c1, .slice A2 l2.length c2] 60)) := Below.alloc (Below.refl _ _) (Nat.le_refl _) _
  have X0 : Hid ((w.alloc (.cells #[.slice A0 l0.length c0, .slice A1 l1.length c1, .slice A2 l2.length c2] 60)).heap[w.heap.size]? = some (.cells #[.slice A0 l0.length c0, .slice A1 l1.length c1, .slice A2 l2.length c2] 60 (0, 0))) := Lib.hid (heap_alloc_new w _)
  have y0 := blk_cell X0.out 0 (u := .slice A0 l0.length c0) rfl
  have y1 := blk_cell X0.out 1 (u := .slice A1 l1.length c1) rfl
  have y2 := blk_cell X0.out 2 (u := .slice A2 l2.length c2) rfl
  go_enter Try.func62, Try.ntmps62
  go_wp2_with (first
    | (go_at_call 115; with_reducible refine (CI.out _ _ _ _ _ (H1.out.below hW0) (H2.out.below hW0)).mono ?_; rintro e w1 ⟨A3, c3, rfl, hO1, hB1⟩; have hW1 := below_step hW0 hB1; have X1 := Lib.hid (row_step X0.out hB1); have y0 := blk_cell X1.out 0 (u := .slice A0 l0.length c0) rfl; have y1 := blk_cell X1.out 1 (u := .slice A1 l1.length c1) rfl; have y2 := blk_cell X1.out 2 (u := .slice A2 l2.length c2) rfl; clear hB1)
    | (go_at_call 115; with_reducible refine (CX.out _ _ _ _ _ (H0.out.below hW1) hO1.marks).mono ?_; rintro e w2 ⟨A4, c4, rfl, hO2, hB2⟩; have hW2 := below_step hW1 hB2; have X2 := Lib.hid (row_step X1.out hB2); have y0 := blk_cell X2.out 0 (u := .slice A0 l0.length c0) rfl; have y1 := blk_cell X2.out 1 (u := .slice A1 l1.length c1) rfl; have y2 := blk_cell X2.out 2 (u := .slice A2 l2.length c2) rfl; clear hB2)
    | (go_at_call 115; with_reducible refine (CF.out _ _ _ _ _ (H0.out.below hW2) (H1.out.below hW2)).mono ?_; rintro e w3 ⟨A5, c5, rfl, hO3, hB3⟩; have hW3 := below_step hW2 hB3; have X3 := Lib.hid (row_step X2.out hB3); have y0 := blk_cell X3.out 0 (u := .slice A0 l0.length c0) rfl; have y1 := blk_cell X3.out 1 (u := .slice A1 l1.length c1) rfl; have y2 := blk_cell X3.out 2 (u := .slice A2 l2.length c2) rfl; have hO2 := hO2.below hB3; clear hB3)
    | (go_at_call 115; with_reducible refine (CG.out _ _ _ _ _ (H0.out.below hW3) (H2.out.below hW3)).mono ?_; rintro e w4 ⟨A6, c6, rfl, hO4, hB4⟩; have hW4 := below_step hW3 hB4; have X4 := Lib.hid (row_step X3.out hB4); have y0 := blk_cell X4.out 0 (u := .slice A0 l0.length c0) rfl; have y1 := blk_cell X4.out 1 (u := .slice A1 l1.length c1) rfl; have y2 := blk_cell X4.out 2 (u := .slice A2 l2.length c2) rfl; have hO2 := hO2.below hB4; have hO3 := hO3.below hB4; clear hB4)
    | (go_at_call 115; with_reducible refine (CB.out _ _ _ _ _ hO3.marks hO4.marks).mono ?_; rintro e w5 ⟨A7, c7, rfl, hO5, hB5⟩; have hW5 := below_step hW4 hB5; have X5 := Lib.hid (row_step X4.out hB5); have y0 := blk_cell X5.out 0 (u := .slice A0 l0.length c0) rfl; have y1 := blk_cell X5.out 1 (u := .slice A1 l1.length c1) rfl; have y2 := blk_cell X5.out 2 (u := .slice A2 l2.length c2) rfl; have hO2 := hO2.below hB5; clear hB5)
    | (go_at_call 45; with_reducible refine (sameCells_same X _ _ _ _ _ hO2.marks hO5.marks LX.out).mono ?_; rintro e w6 ⟨rfl, hB6⟩; have hW6 := below_step hW5 hB6; clear hB6)
    | fail)
  go_ret
  exact ⟨rfl, hW6⟩
set_option maxRecDepth 100000 in
set_option maxHeartbeats 800000 in
theorem over_j_0040 (l0 l1 l2 I X F G : List (Int × Int)) (A0 A1 A2 : Option Addr) (c0 c1 c2 : Nat) (w : World) (H0 : Hid (Marks w A0 l0)) (H1 : Hid (Marks w A1 l1)) (H2 : Hid (Marks w A2 l2))
    (CI : Hid (Mix false l1 l2 I 0)) (CX : Hid (Mix true l0 I X 0)) (CF : Hid (Mix true l0 l1 F 0)) (CG : Hid (Mix true l0 l2 G 4)) :
    Calls Try.prog 62 #[.agg #[.slice A0 l0.length c0, .slice A1 l1.length c1, .slice A2 l2.length c2], .bool true] w fun e w' => e = .returned (.bool true) ∧ Below w.heap.size w w' := by
  have hW0 : Below w.heap.size w (w.alloc (.cells #[.slice A0 l0.length c0, .slice A1 l1.length c1, .slice A2 l2.length c2] 60)) := Below.alloc (Below.refl _ _) (Nat.le_refl _) _
  have X0 : Hid ((w.alloc (.cells #[.slice A0 l0.length c0, .slice A1 l1.length c1, .slice A2 l2.length c2] 60)).heap[w.heap.size]? = some (.cells #[.slice A0 l0.length c0, .slice A1 l1.length c1, .slice A2 l2.length c2] 60 (0, 0))) := Lib.hid (heap_alloc_new w _)
  have y0 := blk_cell X0.out 0 (u := .slice A0 l0.length c0) rfl
  have y1 := blk_cell X0.out 1 (u := .slice A1 l1.length c1) rfl
  have y2 := blk_cell X0.out 2 (u := .slice A2 l2.length c2) rfl
  go_enter Try.func62, Try.ntmps62
  go_wp2_with (first
    | (go_at_call 115; with_reducible refine (CI.out _ _ _ _ _ (H1.out.below hW0) (H2.out.below hW0)).mono ?_; rintro e w1 ⟨A3, c3, rfl, hO1, hB1⟩; have hW1 := below_step hW0 hB1; have X1 := Lib.hid (row_step X0.out hB1); have y0 := blk_cell X1.out 0 (u := .slice A0 l0.length c0) rfl; have y1 := blk_cell X1.out 1 (u := .slice A1 l1.length c1) rfl; have y2 := blk_cell X1.out 2 (u := .slice A2 l2.length c2) rfl; clear hB1)
    | (go_at_call 115; with_reducible refine (CX.out _ _ _ _ _ (H0.out.below hW1) hO1.marks).mono ?_; rintro e w2 ⟨A4, c4, rfl, hO2, hB2⟩; have hW2 := below_step hW1 hB2; have X2 := Lib.hid (row_step X1.out hB2); have y0 := blk_cell X2.out 0 (u := .slice A0 l0.length c0) rfl; have y1 := blk_cell X2.out 1 (u := .slice A1 l1.length c1) rfl; have y2 := blk_cell X2.out 2 (u := .slice A2 l2.length c2) rfl; clear hB2)
    | (go_at_call 115; with_reducible refine (CF.out _ _ _ _ _ (H0.out.below hW2) (H1.out.below hW2)).mono ?_; rintro e w3 ⟨A5, c5, rfl, hO3, hB3⟩; have hW3 := below_step hW2 hB3; have X3 := Lib.hid (row_step X2.out hB3); have y0 := blk_cell X3.out 0 (u := .slice A0 l0.length c0) rfl; have y1 := blk_cell X3.out 1 (u := .slice A1 l1.length c1) rfl; have y2 := blk_cell X3.out 2 (u := .slice A2 l2.length c2) rfl; have hO2 := hO2.below hB3; clear hB3)
    | (go_at_call 115; with_reducible refine (CG.out _ _ _ _ _ (H0.out.below hW3) (H2.out.below hW3)).mono ?_; rintro e w4 ⟨A6, c6, rfl, hO4, hB4⟩; have hW4 := below_step hW3 hB4; have X4 := Lib.hid (row_step X3.out hB4); have y0 := blk_cell X4.out 0 (u := .slice A0 l0.length c0) rfl; have y1 := blk_cell X4.out 1 (u := .slice A1 l1.length c1) rfl; have y2 := blk_cell X4.out 2 (u := .slice A2 l2.length c2) rfl; have hO2 := hO2.below hB4; have hO3 := hO3.below hB4; clear hB4)
    | fail)
  go_ret
  exact ⟨rfl, hW4⟩
set_option maxRecDepth 100000 in
set_option maxHeartbeats 800000 in
theorem over_j_0044 (l0 l1 l2 I X F G : List (Int × Int)) (A0 A1 A2 : Option Addr) (c0 c1 c2 : Nat) (w : World) (H0 : Hid (Marks w A0 l0)) (H1 : Hid (Marks w A1 l1)) (H2 : Hid (Marks w A2 l2))
    (CI : Hid (Mix false l1 l2 I 0)) (CX : Hid (Mix true l0 I X 4)) (CF : Hid (Mix true l0 l1 F 0)) (CG : Hid (Mix true l0 l2 G 4)) :
    Calls Try.prog 62 #[.agg #[.slice A0 l0.length c0, .slice A1 l1.length c1, .slice A2 l2.length c2], .bool true] w fun e w' => e = .returned (.bool true) ∧ Below w.heap.size w w' := by
  have hW0 : Below w.heap.size w (w.alloc (.cells #[.slice A0 l0.length c0, .slice A1 l1.length c1, .slice A2 l2.length c2] 60)) := Below.alloc (Below.refl _ _) (Nat.le_refl _) _
  have X0 : Hid ((w.alloc (.cells #[.slice A0 l0.length c0, .slice A1 l1.length c1, .slice A2 l2.length c2] 60)).heap[w.heap.size]? = some (.cells #[.slice A0 l0.length c0, .slice A1 l1.length c1, .slice A2 l2.length c2] 60 (0, 0))) := Lib.hid (heap_alloc_new w _)
  have y0 := blk_cell X0.out 0 (u := .slice A0 l0.length c0) rfl
  have y1 := blk_cell X0.out 1 (u := .slice A1 l1.length c1) rfl
  have y2 := blk_cell X0.out 2 (u := .slice A2 l2.length c2) rfl
  go_enter Try.func62, Try.ntmps62
  go_wp2_with (first
    | (go_at_call 115; with_reducible refine (CI.out _ _ _ _ _ (H1.out.below hW0) (H2.out.below hW0)).mono ?_; rintro e w1 ⟨A3, c3, rfl, hO1, hB1⟩; have hW1 := below_step hW0 hB1; have X1 := Lib.hid (row_step X0.out hB1); have y0 := blk_cell X1.out 0 (u := .slice A0 l0.length c0) rfl; have y1 := blk_cell X1.out 1 (u := .slice A1 l1.length c1) rfl; have y2 := blk_cell X1.out 2 (u := .slice A2 l2.length c2) rfl; clear hB1)
    | (go_at_call 115; with_reducible refine (CX.out _ _ _ _ _ (H0.out.below hW1) hO1.marks).mono ?_; rintro e w2 ⟨A4, c4, rfl, hO2, hB2⟩; have hW2 := below_step hW1 hB2; have X2 := Lib.hid (row_step X1.out hB2); have y0 := blk_cell X2.out 0 (u := .slice A0 l0.length c0) rfl; have y1 := blk_cell X2.out 1 (u := .slice A1 l1.length c1) rfl; have y2 := blk_cell X2.out 2 (u := .slice A2 l2.length c2) rfl; clear hB2)
    | (go_at_call 115; with_reducible refine (CF.out _ _ _ _ _ (H0.out.below hW2) (H1.out.below hW2)).mono ?_; rintro e w3 ⟨A5, c5, rfl, hO3, hB3⟩; have hW3 := below_step hW2 hB3; have X3 := Lib.hid (row_step X2.out hB3); have y0 := blk_cell X3.out 0 (u := .slice A0 l0.length c0) rfl; have y1 := blk_cell X3.out 1 (u := .slice A1 l1.length c1) rfl; have y2 := blk_cell X3.out 2 (u := .slice A2 l2.length c2) rfl; have hO2 := hO2.below hB3; clear hB3)
    | (go_at_call 115; with_reducible refine (CG.out _ _ _ _ _ (H0.out.below hW3) (H2.out.below hW3)).mono ?_; rintro e w4 ⟨A6, c6, rfl, hO4, hB4⟩; have hW4 := below_step hW3 hB4; have X4 := Lib.hid (row_step X3.out hB4); have y0 := blk_cell X4.out 0 (u := .slice A0 l0.length c0) rfl; have y1 := blk_cell X4.out 1 (u := .slice A1 l1.length c1) rfl; have y2 := blk_cell X4.out 2 (u := .slice A2 l2.length c2) rfl; have hO2 := hO2.below hB4; have hO3 := hO3.below hB4; clear hB4)
    | fail)
  go_ret
  exact ⟨rfl, hW4⟩
set_option maxRecDepth 100000 in
set_option maxHeartbeats 800000 in
theorem over_j_0400 (l0 l1 l2 I X F G : List (Int × Int)) (A0 A1 A2 : Option Addr) (c0 c1 c2 : Nat) (w : World) (H0 : Hid (Marks w A0 l0)) (H1 : Hid (Marks w A1 l1)) (H2 : Hid (Marks w A2 l2))
    (CI : Hid (Mix false l1 l2 I 0)) (CX : Hid (Mix true l0 I X 0)) (CF : Hid (Mix true l0 l1 F 4)) (CG : Hid (Mix true l0 l2 G 0)) :
    Calls Try.prog 62 #[.agg #[.slice A0 l0.length c0, .slice A1 l1.length c1, .slice A2 l2.length c2], .bool true] w fun e w' => e = .returned (.bool true) ∧ Below w.heap.size w w' := by
  have hW0 : Below w.heap.size w (w.alloc (.cells #[.slice A0 l0.length c0, .slice A1 l1.length c1, .slice A2 l2.length c2] 60)) := Below.alloc (Below.refl _ _) (Nat.le_refl _) _
  have X0 : Hid ((w.alloc (.cells #[.slice A0 l0.length c0, .slice A1 l1.length c1, .slice A2 l2.length c2] 60)).heap[w.heap.size]? = some (.cells #[.slice A0 l0.length c0, .slice A1 l1.length c1, .slice A2 l2.length c2] 60 (0, 0))) := Lib.hid (heap_alloc_new w _)
  have y0 := blk_cell X0.out 0 (u := .slice A0 l0.length c0) rfl
  have y1 := blk_cell X0.out 1 (u := .slice A1 l1.length c1) rfl
  have y2 := blk_cell X0.out 2 (u := .slice A2 l2.length c2) rfl
  go_enter Try.func62, Try.ntmps62
  go_wp2_with (first
    | (go_at_call 115; with_reducible refine (CI.out _ _ _ _ _ (H1.out.below hW0) (H2.out.below hW0)).mono ?_; rintro e w1 ⟨A3, c3, rfl, hO1, hB1⟩; have hW1 := below_step hW0 hB1; have X1 := Lib.hid (row_step X0.out hB1); have y0 := blk_cell X1.out 0 (u := .slice A0 l0.length c0) rfl; have y1 := blk_cell X1.out 1 (u := .slice A1 l1.length c1) rfl; have y2 := blk_cell X1.out 2 (u := .slice A2 l2.length c2) rfl; clear hB1)
    | (go_at_call 115; with_reducible refine (CX.out _ _ _ _ _ (H0.out.below hW1) hO1.marks).mono ?_; rintro e w2 ⟨A4, c4, rfl, hO2, hB2⟩; have hW2 := below_step hW1 hB2; have X2 := Lib.hid (row_step X1.out hB2); have y0 := blk_cell X2.out 0 (u := .slice A0 l0.length c0) rfl; have y1 := blk_cell X2.out 1 (u := .slice A1 l1.length c1) rfl; have y2 := blk_cell X2.out 2 (u := .slice A2 l2.length c2) rfl; clear hB2)
    | (go_at_call 115; with_reducible refine (CF.out _ _ _ _ _ (H0.out.below hW2) (H1.out.below hW2)).mono ?_; rintro e w3 ⟨A5, c5, rfl, hO3, hB3⟩; have hW3 := below_step hW2 hB3; have X3 := Lib.hid (row_step X2.out hB3); have y0 := blk_cell X3.out 0 (u := .slice A0 l0.length c0) rfl; have y1 := blk_cell X3.out 1 (u := .slice A1 l1.length c1) rfl; have y2 := blk_cell X3.out 2 (u := .slice A2 l2.length c2) rfl; have hO2 := hO2.below hB3; clear hB3)
    | (go_at_call 115; with_reducible refine (CG.out _ _ _ _ _ (H0.out.below hW3) (H2.out.below hW3)).mono ?_; rintro e w4 ⟨A6, c6, rfl, hO4, hB4⟩; have hW4 := below_step hW3 hB4; have X4 := Lib.hid (row_step X3.out hB4); have y0 := blk_cell X4.out 0 (u := .slice A0 l0.length c0) rfl; have y1 := blk_cell X4.out 1 (u := .slice A1 l1.length c1) rfl; have y2 := blk_cell X4.out 2 (u := .slice A2 l2.length c2) rfl; have hO2 := hO2.below hB4; have hO3 := hO3.below hB4; clear hB4)
    | fail)
  go_ret
  exact ⟨rfl, hW4⟩
set_option maxRecDepth 100000 in
set_option maxHeartbeats 800000 in
theorem over_j_0404 (l0 l1 l2 I X F G : List (Int × Int)) (A0 A1 A2 : Option Addr) (c0 c1 c2 : Nat) (w : World) (H0 : Hid (Marks w A0 l0)) (H1 : Hid (Marks w A1 l1)) (H2 : Hid (Marks w A2 l2))
    (CI : Hid (Mix false l1 l2 I 0)) (CX : Hid (Mix true l0 I X 4)) (CF : Hid (Mix true l0 l1 F 4)) (CG : Hid (Mix true l0 l2 G 0)) :
    Calls Try.prog 62 #[.agg #[.slice A0 l0.length c0, .slice A1 l1.length c1, .slice A2 l2.length c2], .bool true] w fun e w' => e = .returned (.bool true) ∧ Below w.heap.size w w' := by
  have hW0 : Below w.heap.size w (w.alloc (.cells #[.slice A0 l0.length c0, .slice A1 l1.length c1, .slice A2 l2.length c2] 60)) := Below.alloc (Below.refl _ _) (Nat.le_refl _) _
  have X0 : Hid ((w.alloc (.cells #[.slice A0 l0.length c0, .slice A1 l1.length c1, .slice A2 l2.length c2] 60)).heap[w.heap.size]? = some (.cells #[.slice A0 l0.length c0, .slice A1 l1.length c1, .slice A2 l2.length c2] 60 (0, 0))) := Lib.hid (heap_alloc_new w _)
  have y0 := blk_cell X0.out 0 (u := .slice A0 l0.length c0) rfl
  have y1 := blk_cell X0.out 1 (u := .slice A1 l1.length c1) rfl
  have y2 := blk_cell X0.out 2 (u := .slice A2 l2.length c2) rfl
  go_enter Try.func62, Try.ntmps62
  go_wp2_with (first
    | (go_at_call 115; with_reducible refine (CI.out _ _ _ _ _ (H1.out.below hW0) (H2.out.below hW0)).mono ?_; rintro e w1 ⟨A3, c3, rfl, hO1, hB1⟩; have hW1 := below_step hW0 hB1; have X1 := Lib.hid (row_step X0.out hB1); have y0 := blk_cell X1.out 0 (u := .slice A0 l0.length c0) rfl; have y1 := blk_cell X1.out 1 (u := .slice A1 l1.length c1) rfl; have y2 := blk_cell X1.out 2 (u := .slice A2 l2.length c2) rfl; clear hB1)
    | (go_at_call 115; with_reducible refine (CX.out _ _ _ _ _ (H0.out.below hW1) hO1.marks).mono ?_; rintro e w2 ⟨A4, c4, rfl, hO2, hB2⟩; have hW2 := below_step hW1 hB2; have X2 := Lib.hid (row_step X1.out hB2); have y0 := blk_cell X2.out 0 (u := .slice A0 l0.length c0) rfl; have y1 := blk_cell X2.out 1 (u := .slice A1 l1.length c1) rfl; have y2 := blk_cell X2.out 2 (u := .slice A2 l2.length c2) rfl; clear hB2)
    | (go_at_call 115; with_reducible refine (CF.out _ _ _ _ _ (H0.out.below hW2) (H1.out.below hW2)).mono ?_; rintro e w3 ⟨A5, c5, rfl, hO3, hB3⟩; have hW3 := below_step hW2 hB3; have X3 := Lib.hid (row_step X2.out hB3); have y0 := blk_cell X3.out 0 (u := .slice A0 l0.length c0) rfl; have y1 := blk_cell X3.out 1 (u := .slice A1 l1.length c1) rfl; have y2 := blk_cell X3.out 2 (u := .slice A2 l2.length c2) rfl; have hO2 := hO2.below hB3; clear hB3)
    | (go_at_call 115; with_reducible refine (CG.out _ _ _ _ _ (H0.out.below hW3) (H2.out.below hW3)).mono ?_; rintro e w4 ⟨A6, c6, rfl, hO4, hB4⟩; have hW4 := below_step hW3 hB4; have X4 := Lib.hid (row_step X3.out hB4); have y0 := blk_cell X4.out 0 (u := .slice A0 l0.length c0) rfl; have y1 := blk_cell X4.out 1 (u := .slice A1 l1.length c1) rfl; have y2 := blk_cell X4.out 2 (u := .slice A2 l2.length c2) rfl; have hO2 := hO2.below hB4; have hO3 := hO3.below hB4; clear hB4)
    | fail)
  go_ret
  exact ⟨rfl, hW4⟩
set_option maxRecDepth 100000 in
set_option maxHeartbeats 800000 in
theorem over_j_0440 (l0 l1 l2 I X F G : List (Int × Int)) (A0 A1 A2 : Option Addr) (c0 c1 c2 : Nat) (w : World) (H0 : Hid (Marks w A0 l0)) (H1 : Hid (Marks w A1 l1)) (H2 : Hid (Marks w A2 l2))
    (CI : Hid (Mix false l1 l2 I 0)) (CX : Hid (Mix true l0 I X 0)) (CF : Hid (Mix true l0 l1 F 4)) (CG : Hid (Mix true l0 l2 G 4)) :
    Calls Try.prog 62 #[.agg #[.slice A0 l0.length c0, .slice A1 l1.length c1, .slice A2 l2.length c2], .bool true] w fun e w' => e = .returned (.bool true) ∧ Below w.heap.size w w' := by
  have hW0 : Below w.heap.size w (w.alloc (.cells #[.slice A0 l0.length c0, .slice A1 l1.length c1, .slice A2 l2.length c2] 60)) := Below.alloc (Below.refl _ _) (Nat.le_refl _) _
  have X0 : Hid ((w.alloc (.cells #[.slice A0 l0.length c0, .slice A1 l1.length c1, .slice A2 l2.length c2] 60)).heap[w.heap.size]? = some (.cells #[.slice A0 l0.length c0, .slice A1 l1.length c1, .slice A2 l2.length c2] 60 (0, 0))) := Lib.hid (heap_alloc_new w _)
  have y0 := blk_cell X0.out 0 (u := .slice A0 l0.length c0) rfl
  have y1 := blk_cell X0.out 1 (u := .slice A1 l1.length c1) rfl
  have y2 := blk_cell X0.out 2 (u := .slice A2 l2.length c2) rfl
  go_enter Try.func62, Try.ntmps62
  go_wp2_with (first
    | (go_at_call 115; with_reducible refine (CI.out _ _ _ _ _ (H1.out.below hW0) (H2.out.below hW0)).mono ?_; rintro e w1 ⟨A3, c3, rfl, hO1, hB1⟩; have hW1 := below_step hW0 hB1; have X1 := Lib.hid (row_step X0.out hB1); have y0 := blk_cell X1.out 0 (u := .slice A0 l0.length c0) rfl; have y1 := blk_cell X1.out 1 (u := .slice A1 l1.length c1) rfl; have y2 := blk_cell X1.out 2 (u := .slice A2 l2.length c2) rfl; clear hB1)
    | (go_at_call 115; with_reducible refine (CX.out _ _ _ _ _ (H0.out.below hW1) hO1.marks).mono ?_; rintro e w2 ⟨A4, c4, rfl, hO2, hB2⟩; have hW2 := below_step hW1 hB2; have X2 := Lib.hid (row_step X1.out hB2); have y0 := blk_cell X2.out 0 (u := .slice A0 l0.length c0) rfl; have y1 := blk_cell X2.out 1 (u := .slice A1 l1.length c1) rfl; have y2 := blk_cell X2.out 2 (u := .slice A2 l2.length c2) rfl; clear hB2)
    | (go_at_call 115; with_reducible refine (CF.out _ _ _ _ _ (H0.out.below hW2) (H1.out.below hW2)).mono ?_; rintro e w3 ⟨A5, c5, rfl, hO3, hB3⟩; have hW3 := below_step hW2 hB3; have X3 := Lib.hid (row_step X2.out hB3); have y0 := blk_cell X3.out 0 (u := .slice A0 l0.length c0) rfl; have y1 := blk_cell X3.out 1 (u := .slice A1 l1.length c1) rfl; have y2 := blk_cell X3.out 2 (u := .slice A2 l2.length c2) rfl; have hO2 := hO2.below hB3; clear hB3)
    | (go_at_call 115; with_reducible refine (CG.out _ _ _ _ _ (H0.out.below hW3) (H2.out.below hW3)).mono ?_; rintro e w4 ⟨A6, c6, rfl, hO4, hB4⟩; have hW4 := below_step hW3 hB4; have X4 := Lib.hid (row_step X3.out hB4); have y0 := blk_cell X4.out 0 (u := .slice A0 l0.length c0) rfl; have y1 := blk_cell X4.out 1 (u := .slice A1 l1.length c1) rfl; have y2 := blk_cell X4.out 2 (u := .slice A2 l2.length c2) rfl; have hO2 := hO2.below hB4; have hO3 := hO3.below hB4; clear hB4)
    | fail)
  go_ret
  exact ⟨rfl, hW4⟩
set_option maxRecDepth 100000 in
set_option maxHeartbeats 800000 in
theorem over_j_0444 (l0 l1 l2 I X F G : List (Int × Int)) (A0 A1 A2 : Option Addr) (c0 c1 c2 : Nat) (w : World) (H0 : Hid (Marks w A0 l0)) (H1 : Hid (Marks w A1 l1)) (H2 : Hid (Marks w A2 l2))
    (CI : Hid (Mix false l1 l2 I 0)) (CX : Hid (Mix true l0 I X 4)) (CF : Hid (Mix true l0 l1 F 4)) (CG : Hid (Mix true l0 l2 G 4)) :
    Calls Try.prog 62 #[.agg #[.slice A0 l0.length c0, .slice A1 l1.length c1, .slice A2 l2.length c2], .bool true] w fun e w' => e = .returned (.bool true) ∧ Below w.heap.size w w' := by
  have hW0 : Below w.heap.size w (w.alloc (.cells #[.slice A0 l0.length c0, .slice A1 l1.length c1, .slice A2 l2.length c2] 60)) := Below.alloc (Below.refl _ _) (Nat.le_refl _) _
  have X0 : Hid ((w.alloc (.cells #[.slice A0 l0.length c0, .slice A1 l1.length c1, .slice A2 l2.length c2] 60)).heap[w.heap.size]? = some (.cells #[.slice A0 l0.length c0, .slice A1 l1.length c1, .slice A2 l2.length c2] 60 (0, 0))) := Lib.hid (heap_alloc_new w _)
  have y0 := blk_cell X0.out 0 (u := .slice A0 l0.length c0) rfl
  have y1 := blk_cell X0.out 1 (u := .slice A1 l1.length c1) rfl
  have y2 := blk_cell X0.out 2 (u := .slice A2 l2.length c2) rfl
  go_enter Try.func62, Try.ntmps62
  go_wp2_with (first
    | (go_at_call 115; with_reducible refine (CI.out _ _ _ _ _ (H1.out.below hW0) (H2.out.below hW0)).mono ?_; rintro e w1 ⟨A3, c3, rfl, hO1, hB1⟩; have hW1 := below_step hW0 hB1; have X1 := Lib.hid (row_step X0.out hB1); have y0 := blk_cell X1.out 0 (u := .slice A0 l0.length c0) rfl; have y1 := blk_cell X1.out 1 (u := .slice A1 l1.length c1) rfl; have y2 := blk_cell X1.out 2 (u := .slice A2 l2.length c2) rfl; clear hB1)
    | (go_at_call 115; with_reducible refine (CX.out _ _ _ _ _ (H0.out.below hW1) hO1.marks).mono ?_; rintro e w2 ⟨A4, c4, rfl, hO2, hB2⟩; have hW2 := below_step hW1 hB2; have X2 := Lib.hid (row_step X1.out hB2); have y0 := blk_cell X2.out 0 (u := .slice A0 l0.length c0) rfl; have y1 := blk_cell X2.out 1 (u := .slice A1 l1.length c1) rfl; have y2 := blk_cell X2.out 2 (u := .slice A2 l2.length c2) rfl; clear hB2)
    | (go_at_call 115; with_reducible refine (CF.out _ _ _ _ _ (H0.out.below hW2) (H1.out.below hW2)).mono ?_; rintro e w3 ⟨A5, c5, rfl, hO3, hB3⟩; have hW3 := below_step hW2 hB3; have X3 := Lib.hid (row_step X2.out hB3); have y0 := blk_cell X3.out 0 (u := .slice A0 l0.length c0) rfl; have y1 := blk_cell X3.out 1 (u := .slice A1 l1.length c1) rfl; have y2 := blk_cell X3.out 2 (u := .slice A2 l2.length c2) rfl; have hO2 := hO2.below hB3; clear hB3)
    | (go_at_call 115; with_reducible refine (CG.out _ _ _ _ _ (H0.out.below hW3) (H2.out.below hW3)).mono ?_; rintro e w4 ⟨A6, c6, rfl, hO4, hB4⟩; have hW4 := below_step hW3 hB4; have X4 := Lib.hid (row_step X3.out hB4); have y0 := blk_cell X4.out 0 (u := .slice A0 l0.length c0) rfl; have y1 := blk_cell X4.out 1 (u := .slice A1 l1.length c1) rfl; have y2 := blk_cell X4.out 2 (u := .slice A2 l2.length c2) rfl; have hO2 := hO2.below hB4; have hO3 := hO3.below hB4; clear hB4)
    | fail)
  go_ret
  exact ⟨rfl, hW4⟩
set_option maxRecDepth 100000 in
set_option maxHeartbeats 800000 in
theorem over_b_4000 (l0 l1 l2 I _ _ _ : List (Int × Int)) (A0 A1 A2 : Option Addr) (c0 c1 c2 : Nat) (w : World) (_ : Hid (Marks w A0 l0)) (H1 : Hid (Marks w A1 l1)) (H2 : Hid (Marks w A2 l2))
    (CI : Hid (Mix true l1 l2 I 4)) :
    Calls Try.prog 62 #[.agg #[.slice A0 l0.length c0, .slice A1 l1.length c1, .slice A2 l2.length c2], .bool false] w fun e w' => e = .returned (.bool true) ∧ Below w.heap.size w w' := by
  have hW0 : Below w.heap.size w (w.alloc (.cells #[.slice A0 l0.length c0, .slice A1 l1.length c1, .slice A2 l2.length c2] 60)) := Below.alloc (Below.refl _ _) (Nat.le_refl _) _
  have X0 : Hid ((w.alloc (.cells #[.slice A0 l0.length c0, .slice A1 l1.length c1, .slice A2 l2.length c2] 60)).heap[w.heap.size]? = some (.cells #[.slice A0 l0.length c0, .slice A1 l1.length c1, .slice A2 l2.length c2] 60 (0, 0))) := Lib.hid (heap_alloc_new w _)
  have y0 := blk_cell X0.out 0 (u := .slice A0 l0.length c0) rfl
  have y1 := blk_cell X0.out 1 (u := .slice A1 l1.length c1) rfl
  have y2 := blk_cell X0.out 2 (u := .slice A2 l2.length c2) rfl
  go_enter Try.func62, Try.ntmps62
  go_wp2_with (first
    | (go_at_call 115; with_reducible refine (CI.out _ _ _ _ _ (H1.out.below hW0) (H2.out.below hW0)).mono ?_; rintro e w1 ⟨A3, c3, rfl, hO1, hB1⟩; have hW1 := below_step hW0 hB1; have X1 := Lib.hid (row_step X0.out hB1); have y0 := blk_cell X1.out 0 (u := .slice A0 l0.length c0) rfl; have y1 := blk_cell X1.out 1 (u := .slice A1 l1.length c1) rfl; have y2 := blk_cell X1.out 2 (u := .slice A2 l2.length c2) rfl; clear hB1)
    | fail)
  go_ret
  exact ⟨rfl, hW1⟩
set_option maxRecDepth 100000 in
set_option maxHeartbeats 800000 in
theorem over_b_0000 (l0 l1 l2 I X F G : List (Int × Int)) (A0 A1 A2 : Option Addr) (c0 c1 c2 : Nat) (w : World) (H0 : Hid (Marks w A0 l0)) (H1 : Hid (Marks w A1 l1)) (H2 : Hid (Marks w A2 l2))
    (CI : Hid (Mix true l1 l2 I 0)) (CX : Hid (Mix false l0 I X 0)) (CF : Hid (Mix false l0 l1 F 0)) (CG : Hid (Mix false l0 l2 G 0)) (CB : Hid (Mix true F G X 0)) (LX : Hid (X.length ≤ maxLen)) :
    Calls Try.prog 62 #[.agg #[.slice A0 l0.length c0, .slice A1 l1.length c1, .slice A2 l2.length c2], .bool false] w fun e w' => e = .returned (.bool true) ∧ Below w.heap.size w w' := by
  have hW0 : Below w.heap.size w (w.alloc (.cells #[.slice A0 l0.length c0, .slice A1 l1.length c1, .slice A2 l2.length c2] 60)) := Below.alloc (Below.refl _ _) (Nat.le_refl _) _
  have X0 : Hid ((w.alloc (.cells #[.slice A0 l0.length c0, .slice A1 l1.length c1, .slice A2 l2.length c2] 60)).heap[w.heap.size]? = some (.cells #[.slice A0 l0.length c0, .slice A1 l1.length c1, .slice A2 l2.length c2] 60 (0, 0))) := Lib.hid (heap_alloc_new w _)
  have y0 := blk_cell X0.out 0 (u := .slice A0 l0.length c0) rfl
  have y1 := blk_cell X0.out 1 (u := .slice A1 l1.length c1) rfl
  have y2 := blk_cell X0.out 2 (u := .slice A2 l2.length c2) rfl
  go_enter Try.func62, Try.ntmps62
  go_wp2_with (first
    | (go_at_call 115; with_reducible refine (CI.out _ _ _ _ _ (H1.out.below hW0) (H2.out.below hW0)).mono ?_; rintro e w1 ⟨A3, c3, rfl, hO1, hB1⟩; have hW1 := below_step hW0 hB1; have X1 := Lib.hid (row_step X0.out hB1); have y0 := blk_cell X1.out 0 (u := .slice A0 l0.length c0) rfl; have y1 := blk_cell X1.out 1 (u := .slice A1 l1.length c1) rfl; have y2 := blk_cell X1.out 2 (u := .slice A2 l2.length c2) rfl; clear hB1)
    | (go_at_call 115; with_reducible refine (CX.out _ _ _ _ _ (H0.out.below hW1) hO1.marks).mono ?_; rintro e w2 ⟨A4, c4, rfl, hO2, hB2⟩; have hW2 := below_step hW1 hB2; have X2 := Lib.hid (row_step X1.out hB2); have y0 := blk_cell X2.out 0 (u := .slice A0 l0.length c0) rfl; have y1 := blk_cell X2.out 1 (u := .slice A1 l1.length c1) rfl; have y2 := blk_cell X2.out 2 (u := .slice A2 l2.length c2) rfl; clear hB2)
    | (go_at_call 115; with_reducible refine (CF.out _ _ _ _ _ (H0.out.below hW2) (H1.out.below hW2)).mono ?_; rintro e w3 ⟨A5, c5, rfl, hO3, hB3⟩; have hW3 := below_step hW2 hB3; have X3 := Lib.hid (row_step X2.out hB3); have y0 := blk_cell X3.out 0 (u := .slice A0 l0.length c0) rfl; have y1 := blk_cell X3.out 1 (u := .slice A1 l1.length c1) rfl; have y2 := blk_cell X3.out 2 (u := .slice A2 l2.length c2) rfl; have hO2 := hO2.below hB3; clear hB3)
    | (go_at_call 115; with_reducible refine (CG.out _ _ _ _ _ (H0.out.below hW3) (H2.out.below hW3)).mono ?_; rintro e w4 ⟨A6, c6, rfl, hO4, hB4⟩; have hW4 := below_step hW3 hB4; have X4 := Lib.hid (row_step X3.out hB4); have y0 := blk_cell X4.out 0 (u := .slice A0 l0.length c0) rfl; have y1 := blk_cell X4.out 1 (u := .slice A1 l1.length c1) rfl; have y2 := blk_cell X4.out 2 (u := .slice A2 l2.length c2) rfl; have hO2 := hO2.below hB4; have hO3 := hO3.below hB4; clear hB4)
    | (go_at_call 115; with_reducible refine (CB.out _ _ _ _ _ hO3.marks hO4.marks).mono ?_; rintro e w5 ⟨A7, c7, rfl, hO5, hB5⟩; have hW5 := below_step hW4 hB5; have X5 := Lib.hid (row_step X4.out hB5); have y0 := blk_cell X5.out 0 (u := .slice A0 l0.length c0) rfl; have y1 := blk_cell X5.out 1 (u := .slice A1 l1.length c1) rfl; have y2 := blk_cell X5.out 2 (u := .slice A2 l2.length c2) rfl; have hO2 := hO2.below hB5; clear hB5)
    | (go_at_call 45; with_reducible refine (sameCells_same X _ _ _ _ _ hO2.marks hO5.marks LX.out).mono ?_; rintro e w6 ⟨rfl, hB6⟩; have hW6 := below_step hW5 hB6; clear hB6)
    | fail)
  go_ret
  exact ⟨rfl, hW6⟩
set_option maxRecDepth 100000 in
set_option maxHeartbeats 800000 in
theorem over_b_0004 (l0 l1 l2 I X F G : List (Int × Int)) (A0 A1 A2 : Option Addr) (c0 c1 c2 : Nat) (w : World) (H0 : Hid (Marks w A0 l0)) (H1 : Hid (Marks w A1 l1)) (H2 : Hid (Marks w A2 l2))
    (CI : Hid (Mix true l1 l2 I 0)) (CX : Hid (Mix false l0 I X 4)) (CF : Hid (Mix false l0 l1 F 0)) (CG : Hid (Mix false l0 l2 G 0)) (CB : Hid (Mix true F G X 4)) (LX : Hid (X.length ≤ maxLen)) :
    Calls Try.prog 62 #[.agg #[.slice A0 l0.length c0, .slice A1 l1.length c1, .slice A2 l2.length c2], .bool false] w fun e w' => e = .returned (.bool true) ∧ Below w.heap.size w w' := by
  have hW0 : Below w.heap.size w (w.alloc (.cells #[.slice A0 l0.length c0, .slice A1 l1.length c1, .slice A2 l2.length c2] 60)) := Below.alloc (Below.refl _ _) (Nat.le_refl _) _
  have X0 : Hid ((w.alloc (.cells #[.slice A0 l0.length c0, .slice A1 l1.length c1, .slice A2 l2.length c2] 60)).heap[w.heap.size]? = some (.cells #[.slice A0 l0.length c0, .slice A1 l1.length c1, .slice A2 l2.length c2] 60 (0, 0))) := Lib.hid (heap_alloc_new w _)
  have y0 := blk_cell X0.out 0 (u := .slice A0 l0.length c0) rfl
  have y1 := blk_cell X0.out 1 (u := .slice A1 l1.length c1) rfl
  have y2 := blk_cell X0.out 2 (u := .slice A2 l2.length c2) rfl
  go_enter Try.func62, Try.ntmps62
  go_wp2_with (first
    | (go_at_call 115; with_reducible refine (CI.out _ _ _ _ _ (H1.out.below hW0) (H2.out.below hW0)).mono ?_; rintro e w1 ⟨A3, c3, rfl, hO1, hB1⟩; have hW1 := below_step hW0 hB1; have X1 := Lib.hid (row_step X0.out hB1); have y0 := blk_cell X1.out 0 (u := .slice A0 l0.length c0) rfl; have y1 := blk_cell X1.out 1 (u := .slice A1 l1.length c1) rfl; have y2 := blk_cell X1.out 2 (u := .slice A2 l2.length c2) rfl; clear hB1)
    | (go_at_call 115; with_reducible refine (CX.out _ _ _ _ _ (H0.out.below hW1) hO1.marks).mono ?_; rintro e w2 ⟨A4, c4, rfl, hO2, hB2⟩; have hW2 := below_step hW1 hB2; have X2 := Lib.hid (row_step X1.out hB2); have y0 := blk_cell X2.out 0 (u := .slice A0 l0.length c0) rfl; have y1 := blk_cell X2.out 1 (u := .slice A1 l1.length c1) rfl; have y2 := blk_cell X2.out 2 (u := .slice A2 l2.length c2) rfl; clear hB2)
    | (go_at_call 115; with_reducible refine (CF.out _ _ _ _ _ (H0.out.below hW2) (H1.out.below hW2)).mono ?_; rintro e w3 ⟨A5, c5, rfl, hO3, hB3⟩; have hW3 := below_step hW2 hB3; have X3 := Lib.hid (row_step X2.out hB3); have y0 := blk_cell X3.out 0 (u := .slice A0 l0.length c0) rfl; have y1 := blk_cell X3.out 1 (u := .slice A1 l1.length c1) rfl; have y2 := blk_cell X3.out 2 (u := .slice A2 l2.length c2) rfl; have hO2 := hO2.below hB3; clear hB3)
    | (go_at_call 115; with_reducible refine (CG.out _ _ _ _ _ (H0.out.below hW3) (H2.out.below hW3)).mono ?_; rintro e w4 ⟨A6, c6, rfl, hO4, hB4⟩; have hW4 := below_step hW3 hB4; have X4 := Lib.hid (row_step X3.out hB4); have y0 := blk_cell X4.out 0 (u := .slice A0 l0.length c0) rfl; have y1 := blk_cell X4.out 1 (u := .slice A1 l1.length c1) rfl; have y2 := blk_cell X4.out 2 (u := .slice A2 l2.length c2) rfl; have hO2 := hO2.below hB4; have hO3 := hO3.below hB4; clear hB4)
    | (go_at_call 115; with_reducible refine (CB.out _ _ _ _ _ hO3.marks hO4.marks).mono ?_; rintro e w5 ⟨A7, c7, rfl, hO5, hB5⟩; have hW5 := below_step hW4 hB5; have X5 := Lib.hid (row_step X4.out hB5); have y0 := blk_cell X5.out 0 (u := .slice A0 l0.length c0) rfl; have y1 := blk_cell X5.out 1 (u := .slice A1 l1.length c1) rfl; have y2 := blk_cell X5.out 2 (u := .slice A2 l2.length c2) rfl; have hO2 := hO2.below hB5; clear hB5)
    | (go_at_call 45; with_reducible refine (sameCells_same X _ _ _ _ _ hO2.marks hO5.marks LX.out).mono ?_; rintro e w6 ⟨rfl, hB6⟩; have hW6 := below_step hW5 hB6; clear hB6)
    | fail)
  go_ret
  exact ⟨rfl, hW6⟩
set_option maxRecDepth 100000 in
set_option maxHeartbeats 800000 in
theorem over_b_0040 (l0 l1 l2 I X F G : List (Int × Int)) (A0 A1 A2 : Option Addr) (c0 c1 c2 : Nat) (w : World) (H0 : Hid (Marks w A0 l0)) (H1 : Hid (Marks w A1 l1)) (H2 : Hid (Marks w A2 l2))
    (CI : Hid (Mix true l1 l2 I 0)) (CX : Hid (Mix false l0 I X 0)) (CF : Hid (Mix false l0 l1 F 0)) (CG : Hid (Mix false l0 l2 G 4)) :
    Calls Try.prog 62 #[.agg #[.slice A0 l0.length c0, .slice A1 l1.length c1, .slice A2 l2.length c2], .bool false] w fun e w' => e = .returned (.bool true) ∧ Below w.heap.size w w' := by
  have hW0 : Below w.heap.size w (w.alloc (.cells #[.slice A0 l0.length c0, .slice A1 l1.length c1, .slice A2 l2.length c2] 60)) := Below.alloc (Below.refl _ _) (Nat.le_refl _) _
  have X0 : Hid ((w.alloc (.cells #[.slice A0 l0.length c0, .slice A1 l1.length c1, .slice A2 l2.length c2] 60)).heap[w.heap.size]? = some (.cells #[.slice A0 l0.length c0, .slice A1 l1.length c1, .slice A2 l2.length c2] 60 (0, 0))) := Lib.hid (heap_alloc_new w _)
  have y0 := blk_cell X0.out 0 (u := .slice A0 l0.length c0) rfl
  have y1 := blk_cell X0.out 1 (u := .slice A1 l1.length c1) rfl
  have y2 := blk_cell X0.out 2 (u := .slice A2 l2.length c2) rfl
  go_enter Try.func62, Try.ntmps62
  go_wp2_with (first
    | (go_at_call 115; with_reducible refine (CI.out _ _ _ _ _ (H1.out.below hW0) (H2.out.below hW0)).mono ?_; rintro e w1 ⟨A3, c3, rfl, hO1, hB1⟩; have hW1 := below_step hW0 hB1; have X1 := Lib.hid (row_step X0.out hB1); have y0 := blk_cell X1.out 0 (u := .slice A0 l0.length c0) rfl; have y1 := blk_cell X1.out 1 (u := .slice A1 l1.length c1) rfl; have y2 := blk_cell X1.out 2 (u := .slice A2 l2.length c2) rfl; clear hB1)
    | (go_at_call 115; with_reducible refine (CX.out _ _ _ _ _ (H0.out.below hW1) hO1.marks).mono ?_; rintro e w2 ⟨A4, c4, rfl, hO2, hB2⟩; have hW2 := below_step hW1 hB2; have X2 := Lib.hid (row_step X1.out hB2); have y0 := blk_cell X2.out 0 (u := .slice A0 l0.length c0) rfl; have y1 := blk_cell X2.out 1 (u := .slice A1 l1.length c1) rfl; have y2 := blk_cell X2.out 2 (u := .slice A2 l2.length c2) rfl; clear hB2)
    | (go_at_call 115; with_reducible refine (CF.out _ _ _ _ _ (H0.out.below hW2) (H1.out.below hW2)).mono ?_; rintro e w3 ⟨A5, c5, rfl, hO3, hB3⟩; have hW3 := below_step hW2 hB3; have X3 := Lib.hid (row_step X2.out hB3); have y0 := blk_cell X3.out 0 (u := .slice A0 l0.length c0) rfl; have y1 := blk_cell X3.out 1 (u := .slice A1 l1.length c1) rfl; have y2 := blk_cell X3.out 2 (u := .slice A2 l2.length c2) rfl; have hO2 := hO2.below hB3; clear hB3)
    | (go_at_call 115; with_reducible refine (CG.out _ _ _ _ _ (H0.out.below hW3) (H2.out.below hW3)).mono ?_; rintro e w4 ⟨A6, c6, rfl, hO4, hB4⟩; have hW4 := below_step hW3 hB4; have X4 := Lib.hid (row_step X3.out hB4); have y0 := blk_cell X4.out 0 (u := .slice A0 l0.length c0) rfl; have y1 := blk_cell X4.out 1 (u := .slice A1 l1.length c1) rfl; have y2 := blk_cell X4.out 2 (u := .slice A2 l2.length c2) rfl; have hO2 := hO2.below hB4; have hO3 := hO3.below hB4; clear hB4)
    | fail)
  go_ret
  exact ⟨rfl, hW4⟩
set_option maxRecDepth 100000 in
set_option maxHeartbeats 800000 in
theorem over_b_0044 (l0 l1 l2 I X F G : List (Int × Int)) (A0 A1 A2 : Option Addr) (c0 c1 c2 : Nat) (w : World) (H0 : Hid (Marks w A0 l0)) (H1 : Hid (Marks w A1 l1)) (H2 : Hid (Marks w A2 l2))
    (CI : Hid (Mix true l1 l2 I 0)) (CX : Hid (Mix false l0 I X 4)) (CF : Hid (Mix false l0 l1 F 0)) (CG : Hid (Mix false l0 l2 G 4)) :
    Calls Try.prog 62 #[.agg #[.slice A0 l0.length c0, .slice A1 l1.length c1, .slice A2 l2.length c2], .bool false] w fun e w' => e = .returned (.bool true) ∧ Below w.heap.size w w' := by
  have hW0 : Below w.heap.size w (w.alloc (.cells #[.slice A0 l0.length c0, .slice A1 l1.length c1, .slice A2 l2.length c2] 60)) := Below.alloc (Below.refl _ _) (Nat.le_refl _) _
  have X0 : Hid ((w.alloc (.cells #[.slice A0 l0.length c0, .slice A1 l1.length c1, .slice A2 l2.length c2] 60)).heap[w.heap.size]? = some (.cells #[.slice A0 l0.length c0, .slice A1 l1.length c1, .slice A2 l2.length c2] 60 (0, 0))) := Lib.hid (heap_alloc_new w _)
  have y0 := blk_cell X0.out 0 (u := .slice A0 l0.length c0) rfl
  have y1 := blk_cell X0.out 1 (u := .slice A1 l1.length c1) rfl
  have y2 := blk_cell X0.out 2 (u := .slice A2 l2.length c2) rfl
  go_enter Try.func62, Try.ntmps62
  go_wp2_with (first
    | (go_at_call 115; with_reducible refine (CI.out _ _ _ _ _ (H1.out.below hW0) (H2.out.below hW0)).mono ?_; rintro e w1 ⟨A3, c3, rfl, hO1, hB1⟩; have hW1 := below_step hW0 hB1; have X1 := Lib.hid (row_step X0.out hB1); have y0 := blk_cell X1.out 0 (u := .slice A0 l0.length c0) rfl; have y1 := blk_cell X1.out 1 (u := .slice A1 l1.length c1) rfl; have y2 := blk_cell X1.out 2 (u := .slice A2 l2.length c2) rfl; clear hB1)
    | (go_at_call 115; with_reducible refine (CX.out _ _ _ _ _ (H0.out.below hW1) hO1.marks).mono ?_; rintro e w2 ⟨A4, c4, rfl, hO2, hB2⟩; have hW2 := below_step hW1 hB2; have X2 := Lib.hid (row_step X1.out hB2); have y0 := blk_cell X2.out 0 (u := .slice A0 l0.length c0) rfl; have y1 := blk_cell X2.out 1 (u := .slice A1 l1.length c1) rfl; have y2 := blk_cell X2.out 2 (u := .slice A2 l2.length c2) rfl; clear hB2)
    | (go_at_call 115; with_reducible refine (CF.out _ _ _ _ _ (H0.out.below hW2) (H1.out.below hW2)).mono ?_; rintro e w3 ⟨A5, c5, rfl, hO3, hB3⟩; have hW3 := below_step hW2 hB3; have X3 := Lib.hid (row_step X2.out hB3); have y0 := blk_cell X3.out 0 (u := .slice A0 l0.length c0) rfl; have y1 := blk_cell X3.out 1 (u := .slice A1 l1.length c1) rfl; have y2 := blk_cell X3.out 2 (u := .slice A2 l2.length c2) rfl; have hO2 := hO2.below hB3; clear hB3)
    | (go_at_call 115; with_reducible refine (CG.out _ _ _ _ _ (H0.out.below hW3) (H2.out.below hW3)).mono ?_; rintro e w4 ⟨A6, c6, rfl, hO4, hB4⟩; have hW4 := below_step hW3 hB4; have X4 := Lib.hid (row_step X3.out hB4); have y0 := blk_cell X4.out 0 (u := .slice A0 l0.length c0) rfl; have y1 := blk_cell X4.out 1 (u := .slice A1 l1.length c1) rfl; have y2 := blk_cell X4.out 2 (u := .slice A2 l2.length c2) rfl; have hO2 := hO2.below hB4; have hO3 := hO3.below hB4; clear hB4)
    | fail)
  go_ret
  exact ⟨rfl, hW4⟩
set_option maxRecDepth 100000 in
set_option maxHeartbeats 800000 in
theorem over_b_0400 (l0 l1 l2 I X F G : List (Int × Int)) (A0 A1 A2 : Option Addr) (c0 c1 c2 : Nat) (w : World) (H0 : Hid (Marks w A0 l0)) (H1 : Hid (Marks w A1 l1)) (H2 : Hid (Marks w A2 l2))
    (CI : Hid (Mix true l1 l2 I 0)) (CX : Hid (Mix false l0 I X 0)) (CF : Hid (Mix false l0 l1 F 4)) (CG : Hid (Mix false l0 l2 G 0)) :
    Calls Try.prog 62 #[.agg #[.slice A0 l0.length c0, .slice A1 l1.length c1, .slice A2 l2.length c2], .bool false] w fun e w' => e = .returned (.bool true) ∧ Below w.heap.size w w' := by
  have hW0 : Below w.heap.size w (w.alloc (.cells #[.slice A0 l0.length c0, .slice A1 l1.length c1, .slice A2 l2.length c2] 60)) := Below.alloc (Below.refl _ _) (Nat.le_refl _) _
  have X0 : Hid ((w.alloc (.cells #[.slice A0 l0.length c0, .slice A1 l1.length c1, .slice A2 l2.length c2] 60)).heap[w.heap.size]? = some (.cells #[.slice A0 l0.length c0, .slice A1 l1.length c1, .slice A2 l2.length c2] 60 (0, 0))) := Lib.hid (heap_alloc_new w _)
  have y0 := blk_cell X0.out 0 (u := .slice A0 l0.length c0) rfl
  have y1 := blk_cell X0.out 1 (u := .slice A1 l1.length c1) rfl
  have y2 := blk_cell X0.out 2 (u := .slice A2 l2.length c2) rfl
  go_enter Try.func62, Try.ntmps62
  go_wp2_with (first
    | (go_at_call 115; with_reducible refine (CI.out _ _ _ _ _ (H1.out.below hW0) (H2.out.below hW0)).mono ?_; rintro e w1 ⟨A3, c3, rfl, hO1, hB1⟩; have hW1 := below_step hW0 hB1; have X1 := Lib.hid (row_step X0.out hB1); have y0 := blk_cell X1.out 0 (u := .slice A0 l0.length c0) rfl; have y1 := blk_cell X1.out 1 (u := .slice A1 l1.length c1) rfl; have y2 := blk_cell X1.out 2 (u := .slice A2 l2.length c2) rfl; clear hB1)
    | (go_at_call 115; with_reducible refine (CX.out _ _ _ _ _ (H0.out.below hW1) hO1.marks).mono ?_; rintro e w2 ⟨A4, c4, rfl, hO2, hB2⟩; have hW2 := below_step hW1 hB2; have X2 := Lib.hid (row_step X1.out hB2); have y0 := blk_cell X2.out 0 (u := .slice A0 l0.length c0) rfl; have y1 := blk_cell X2.out 1 (u := .slice A1 l1.length c1) rfl; have y2 := blk_cell X2.out 2 (u := .slice A2 l2.length c2) rfl; clear hB2)
    | (go_at_call 115; with_reducible refine (CF.out _ _ _ _ _ (H0.out.below hW2) (H1.out.below hW2)).mono ?_; rintro e w3 ⟨A5, c5, rfl, hO3, hB3⟩; have hW3 := below_step hW2 hB3; have X3 := Lib.hid (row_step X2.out hB3); have y0 := blk_cell X3.out 0 (u := .slice A0 l0.length c0) rfl; have y1 := blk_cell X3.out 1 (u := .slice A1 l1.length c1) rfl; have y2 := blk_cell X3.out 2 (u := .slice A2 l2.length c2) rfl; have hO2 := hO2.below hB3; clear hB3)
    | (go_at_call 115; with_reducible refine (CG.out _ _ _ _ _ (H0.out.below hW3) (H2.out.below hW3)).mono ?_; rintro e w4 ⟨A6, c6, rfl, hO4, hB4⟩; have hW4 := below_step hW3 hB4; have X4 := Lib.hid (row_step X3.out hB4); have y0 := blk_cell X4.out 0 (u := .slice A0 l0.length c0) rfl; have y1 := blk_cell X4.out 1 (u := .slice A1 l1.length c1) rfl; have y2 := blk_cell X4.out 2 (u := .slice A2 l2.length c2) rfl; have hO2 := hO2.below hB4; have hO3 := hO3.below hB4; clear hB4)
    | fail)
  go_ret
  exact ⟨rfl, hW4⟩
set_option maxRecDepth 100000 in
set_option maxHeartbeats 800000 in
theorem over_b_0404 (l0 l1 l2 I X F G : List (Int × Int)) (A0 A1 A2 : Option Addr) (c0 c1 c2 : Nat) (w : World) (H0 : Hid (Marks w A0 l0)) (H1 : Hid (Marks w A1 l1)) (H2 : Hid (Marks w A2 l2))
    (CI : Hid (Mix true l1 l2 I 0)) (CX : Hid (Mix false l0 I X 4)) (CF : Hid (Mix false l0 l1 F 4)) (CG : Hid (Mix false l0 l2 G 0)) :
    Calls Try.prog 62 #[.agg #[.slice A0 l0.length c0, .slice A1 l1.length c1, .slice A2 l2.length c2], .bool false] w fun e w' => e = .returned (.bool true) ∧ Below w.heap.size w w' := by
  have hW0 : Below w.heap.size w (w.alloc (.cells #[.slice A0 l0.length c0, .slice A1 l1.length c1, .slice A2 l2.length c2] 60)) := Below.alloc (Below.refl _ _) (Nat.le_refl _) _
  have X0 : Hid ((w.alloc (.cells #[.slice A0 l0.length c0, .slice A1 l1.length c1, .slice A2 l2.length c2] 60)).heap[w.heap.size]? = some (.cells #[.slice A0 l0.length c0, .slice A1 l1.length c1, .slice A2 l2.length c2] 60 (0, 0))) := Lib.hid (heap_alloc_new w _)
  have y0 := blk_cell X0.out 0 (u := .slice A0 l0.length c0) rfl
  have y1 := blk_cell X0.out 1 (u := .slice A1 l1.length c1) rfl
  have y2 := blk_cell X0.out 2 (u := .slice A2 l2.length c2) rfl
  go_enter Try.func62, Try.ntmps62
  go_wp2_with (first
    | (go_at_call 115; with_reducible refine (CI.out _ _ _ _ _ (H1.out.below hW0) (H2.out.below hW0)).mono ?_; rintro e w1 ⟨A3, c3, rfl, hO1, hB1⟩; have hW1 := below_step hW0 hB1; have X1 := Lib.hid (row_step X0.out hB1); have y0 := blk_cell X1.out 0 (u := .slice A0 l0.length c0) rfl; have y1 := blk_cell X1.out 1 (u := .slice A1 l1.length c1) rfl; have y2 := blk_cell X1.out 2 (u := .slice A2 l2.length c2) rfl; clear hB1)
    | (go_at_call 115; with_reducible refine (CX.out _ _ _ _ _ (H0.out.below hW1) hO1.marks).mono ?_; rintro e w2 ⟨A4, c4, rfl, hO2, hB2⟩; have hW2 := below_step hW1 hB2; have X2 := Lib.hid (row_step X1.out hB2); have y0 := blk_cell X2.out 0 (u := .slice A0 l0.length c0) rfl; have y1 := blk_cell X2.out 1 (u := .slice A1 l1.length c1) rfl; have y2 := blk_cell X2.out 2 (u := .slice A2 l2.length c2) rfl; clear hB2)
    | (go_at_call 115; with_reducible refine (CF.out _ _ _ _ _ (H0.out.below hW2) (H1.out.below hW2)).mono ?_; rintro e w3 ⟨A5, c5, rfl, hO3, hB3⟩; have hW3 := below_step hW2 hB3; have X3 := Lib.hid (row_step X2.out hB3); have y0 := blk_cell X3.out 0 (u := .slice A0 l0.length c0) rfl; have y1 := blk_cell X3.out 1 (u := .slice A1 l1.length c1) rfl; have y2 := blk_cell X3.out 2 (u := .slice A2 l2.length c2) rfl; have hO2 := hO2.below hB3; clear hB3)
    | (go_at_call 115; with_reducible refine (CG.out _ _ _ _ _ (H0.out.below hW3) (H2.out.below hW3)).mono ?_; rintro e w4 ⟨A6, c6, rfl, hO4, hB4⟩; have hW4 := below_step hW3 hB4; have X4 := Lib.hid (row_step X3.out hB4); have y0 := blk_cell X4.out 0 (u := .slice A0 l0.length c0) rfl; have y1 := blk_cell X4.out 1 (u := .slice A1 l1.length c1) rfl; have y2 := blk_cell X4.out 2 (u := .slice A2 l2.length c2) rfl; have hO2 := hO2.below hB4; have hO3 := hO3.below hB4; clear hB4)
    | fail)
  go_ret
  exact ⟨rfl, hW4⟩
set_option maxRecDepth 100000 in
set_option maxHeartbeats 800000 in
theorem over_b_0440 (l0 l1 l2 I X F G : List (Int × Int)) (A0 A1 A2 : Option Addr) (c0 c1 c2 : Nat) (w : World) (H0 : Hid (Marks w A0 l0)) (H1 : Hid (Marks w A1 l1)) (H2 : Hid (Marks w A2 l2))
    (CI : Hid (Mix true l1 l2 I 0)) (CX : Hid (Mix false l0 I X 0)) (CF : Hid (Mix false l0 l1 F 4)) (CG : Hid (Mix false l0 l2 G 4)) :
    Calls Try.prog 62 #[.agg #[.slice A0 l0.length c0, .slice A1 l1.length c1, .slice A2 l2.length c2], .bool false] w fun e w' => e = .returned (.bool true) ∧ Below w.heap.size w w' := by
  have hW0 : Below w.heap.size w (w.alloc (.cells #[.slice A0 l0.length c0, .slice A1 l1.length c1, .slice A2 l2.length c2] 60)) := Below.alloc (Below.refl _ _) (Nat.le_refl _) _
  have X0 : Hid ((w.alloc (.cells #[.slice A0 l0.length c0, .slice A1 l1.length c1, .slice A2 l2.length c2] 60)).heap[w.heap.size]? = some (.cells #[.slice A0 l0.length c0, .slice A1 l1.length c1, .slice A2 l2.length c2] 60 (0, 0))) := Lib.hid (heap_alloc_new w _)
  have y0 := blk_cell X0.out 0 (u := .slice A0 l0.length c0) rfl
  have y1 := blk_cell X0.out 1 (u := .slice A1 l1.length c1) rfl
  have y2 := blk_cell X0.out 2 (u := .slice A2 l2.length c2) rfl
  go_enter Try.func62, Try.ntmps62
  go_wp2_with (first
    | (go_at_call 115; with_reducible refine (CI.out _ _ _ _ _ (H1.out.below hW0) (H2.out.below hW0)).mono ?_; rintro e w1 ⟨A3, c3, rfl, hO1, hB1⟩; have hW1 := below_step hW0 hB1; have X1 := Lib.hid (row_step X0.out hB1); have y0 := blk_cell X1.out 0 (u := .slice A0 l0.length c0) rfl; have y1 := blk_cell X1.out 1 (u := .slice A1 l1.length c1) rfl; have y2 := blk_cell X1.out 2 (u := .slice A2 l2.length c2) rfl; clear hB1)
    | (go_at_call 115; with_reducible refine (CX.out _ _ _ _ _ (H0.out.below hW1) hO1.marks).mono ?_; rintro e w2 ⟨A4, c4, rfl, hO2, hB2⟩; have hW2 := below_step hW1 hB2; have X2 := Lib.hid (row_step X1.out hB2); have y0 := blk_cell X2.out 0 (u := .slice A0 l0.length c0) rfl; have y1 := blk_cell X2.out 1 (u := .slice A1 l1.length c1) rfl; have y2 := blk_cell X2.out 2 (u := .slice A2 l2.length c2) rfl; clear hB2)
    | (go_at_call 115; with_reducible refine (CF.out _ _ _ _ _ (H0.out.below hW2) (H1.out.below hW2)).mono ?_; rintro e w3 ⟨A5, c5, rfl, hO3, hB3⟩; have hW3 := below_step hW2 hB3; have X3 := Lib.hid (row_step X2.out hB3); have y0 := blk_cell X3.out 0 (u := .slice A0 l0.length c0) rfl; have y1 := blk_cell X3.out 1 (u := .slice A1 l1.length c1) rfl; have y2 := blk_cell X3.out 2 (u := .slice A2 l2.length c2) rfl; have hO2 := hO2.below hB3; clear hB3)
    | (go_at_call 115; with_reducible refine (CG.out _ _ _ _ _ (H0.out.below hW3) (H2.out.below hW3)).mono ?_; rintro e w4 ⟨A6, c6, rfl, hO4, hB4⟩; have hW4 := below_step hW3 hB4; have X4 := Lib.hid (row_step X3.out hB4); have y0 := blk_cell X4.out 0 (u := .slice A0 l0.length c0) rfl; have y1 := blk_cell X4.out 1 (u := .slice A1 l1.length c1) rfl; have y2 := blk_cell X4.out 2 (u := .slice A2 l2.length c2) rfl; have hO2 := hO2.below hB4; have hO3 := hO3.below hB4; clear hB4)
    | fail)
  go_ret
  exact ⟨rfl, hW4⟩
set_option maxRecDepth 100000 in
set_option maxHeartbeats 800000 in
theorem over_b_0444 (l0 l1 l2 I X F G : List (Int × Int)) (A0 A1 A2 : Option Addr) (c0 c1 c2 : Nat) (w : World) (H0 : Hid (Marks w A0 l0)) (H1 : Hid (Marks w A1 l1)) (H2 : Hid (Marks w A2 l2))
    (CI : Hid (Mix true l1 l2 I 0)) (CX : Hid (Mix false l0 I X 4)) (CF : Hid (Mix false l0 l1 F 4)) (CG : Hid (Mix false l0 l2 G 4)) :
    Calls Try.prog 62 #[.agg #[.slice A0 l0.length c0, .slice A1 l1.length c1, .slice A2 l2.length c2], .bool false] w fun e w' => e = .returned (.bool true) ∧ Below w.heap.size w w' := by
  have hW0 : Below w.heap.size w (w.alloc (.cells #[.slice A0 l0.length c0, .slice A1 l1.length c1, .slice A2 l2.length c2] 60)) := Below.alloc (Below.refl _ _) (Nat.le_refl _) _
  have X0 : Hid ((w.alloc (.cells #[.slice A0 l0.length c0, .slice A1 l1.length c1, .slice A2 l2.length c2] 60)).heap[w.heap.size]? = some (.cells #[.slice A0 l0.length c0, .slice A1 l1.length c1, .slice A2 l2.length c2] 60 (0, 0))) := Lib.hid (heap_alloc_new w _)
  have y0 := blk_cell X0.out 0 (u := .slice A0 l0.length c0) rfl
  have y1 := blk_cell X0.out 1 (u := .slice A1 l1.length c1) rfl
  have y2 := blk_cell X0.out 2 (u := .slice A2 l2.length c2) rfl
  go_enter Try.func62, Try.ntmps62
  go_wp2_with (first
    | (go_at_call 115; with_reducible refine (CI.out _ _ _ _ _ (H1.out.below hW0) (H2.out.below hW0)).mono ?_; rintro e w1 ⟨A3, c3, rfl, hO1, hB1⟩; have hW1 := below_step hW0 hB1; have X1 := Lib.hid (row_step X0.out hB1); have y0 := blk_cell X1.out 0 (u := .slice A0 l0.length c0) rfl; have y1 := blk_cell X1.out 1 (u := .slice A1 l1.length c1) rfl; have y2 := blk_cell X1.out 2 (u := .slice A2 l2.length c2) rfl; clear hB1)
    | (go_at_call 115; with_reducible refine (CX.out _ _ _ _ _ (H0.out.below hW1) hO1.marks).mono ?_; rintro e w2 ⟨A4, c4, rfl, hO2, hB2⟩; have hW2 := below_step hW1 hB2; have X2 := Lib.hid (row_step X1.out hB2); have y0 := blk_cell X2.out 0 (u := .slice A0 l0.length c0) rfl; have y1 := blk_cell X2.out 1 (u := .slice A1 l1.length c1) rfl; have y2 := blk_cell X2.out 2 (u := .slice A2 l2.length c2) rfl; clear hB2)
    | (go_at_call 115; with_reducible refine (CF.out _ _ _ _ _ (H0.out.below hW2) (H1.out.below hW2)).mono ?_; rintro e w3 ⟨A5, c5, rfl, hO3, hB3⟩; have hW3 := below_step hW2 hB3; have X3 := Lib.hid (row_step X2.out hB3); have y0 := blk_cell X3.out 0 (u := .slice A0 l0.length c0) rfl; have y1 := blk_cell X3.out 1 (u := .slice A1 l1.length c1) rfl; have y2 := blk_cell X3.out 2 (u := .slice A2 l2.length c2) rfl; have hO2 := hO2.below hB3; clear hB3)
    | (go_at_call 115; with_reducible refine (CG.out _ _ _ _ _ (H0.out.below hW3) (H2.out.below hW3)).mono ?_; rintro e w4 ⟨A6, c6, rfl, hO4, hB4⟩; have hW4 := below_step hW3 hB4; have X4 := Lib.hid (row_step X3.out hB4); have y0 := blk_cell X4.out 0 (u := .slice A0 l0.length c0) rfl; have y1 := blk_cell X4.out 1 (u := .slice A1 l1.length c1) rfl; have y2 := blk_cell X4.out 2 (u := .slice A2 l2.length c2) rfl; have hO2 := hO2.below hB4; have hO3 := hO3.below hB4; clear hB4)
    | fail)
  go_ret
  exact ⟨rfl, hW4⟩
theorem over_true (l0 l1 l2 : List (Int × Int)) (A0 A1 A2 : Option Addr) (c0 c1 c2 : Nat) (w : World) (H0 : Hid (Marks w A0 l0)) (H1 : Hid (Marks w A1 l1)) (H2 : Hid (Marks w A2 l2))
    (V0 : vaB l0 = true) (V1 : vaB l1 = true) (V2 : vaB l2 = true) (n0 : l0.length ≤ maxLen) (n1 : l1.length ≤ maxLen) (n2 : l2.length ≤ maxLen) :
    Calls Try.prog 62 #[.agg #[.slice A0 l0.length c0, .slice A1 l1.length c1, .slice A2 l2.length c2], .bool true] w fun e w' => e = .returned (.bool true) ∧ Below w.heap.size w w' := by
  have ci := mix_st false V1 V2 n1 n2
  have cf := mix_st true V0 V1 n0 n1
  have cg := mix_st true V0 V2 n0 n2
  rcases st_cases (mxP (opB false) l1 l2) with hi | ⟨hi, _⟩
  · have cx := mix_st true V0 (st_valid (mxP (opB false) l1 l2)) n0 (stL_max _)
    have lx := stL_max (mxP (opB true) l0 (stL (mxP (opB false) l1 l2)))
    have ov : stE (mxP (opB true) l0 l1) = 0 → stE (mxP (opB true) l0 l2) = 0 → Mix false (stL (mxP (opB true) l0 l1)) (stL (mxP (opB true) l0 l2)) (stL (mxP (opB true) l0 (stL (mxP (opB false) l1 l2)))) (stE (mxP (opB true) l0 (stL (mxP (opB false) l1 l2)))) := fun hf hg => by
      have cb := mix_st false (st_valid (mxP (opB true) l0 l1)) (st_valid (mxP (opB true) l0 l2)) (stL_max _) (stL_max _)
      have ec := stL_congr (P := mxP (opB false) (stL (mxP (opB true) l0 l1)) (stL (mxP (opB true) l0 l2))) (R := mxP (opB true) l0 (stL (mxP (opB false) l1 l2))) (fun q hq => by
        rw [mxP, mxP, st_in hf hq, st_in hg hq, st_in hi hq, mxP, mxP, mxP]; exact (op_over true _ _ _).symm)
      rwa [ec.1, ec.2] at cb
    rw [hi] at ci
    rcases st_cases (mxP (opB true) l0 (stL (mxP (opB false) l1 l2))) with he | ⟨he, _⟩
    · rw [he] at cx ov
      rcases st_cases (mxP (opB true) l0 l1) with hf | ⟨hf, _⟩
      · rcases st_cases (mxP (opB true) l0 l2) with hg | ⟨hg, _⟩
        · have cb := ov hf hg
          rw [hf] at cf
          rw [hg] at cg
          exact over_j_0000 l0 l1 l2 _ _ _ _ A0 A1 A2 c0 c1 c2 w H0 H1 H2 (Lib.hid ci) (Lib.hid cx) (Lib.hid cf) (Lib.hid cg) (Lib.hid cb) (Lib.hid lx)
        · rw [hf] at cf
          rw [hg] at cg
          exact over_j_0040 l0 l1 l2 _ _ _ _ A0 A1 A2 c0 c1 c2 w H0 H1 H2 (Lib.hid ci) (Lib.hid cx) (Lib.hid cf) (Lib.hid cg)
      · rcases st_cases (mxP (opB true) l0 l2) with hg | ⟨hg, _⟩
        · rw [hf] at cf
          rw [hg] at cg
          exact over_j_0400 l0 l1 l2 _ _ _ _ A0 A1 A2 c0 c1 c2 w H0 H1 H2 (Lib.hid ci) (Lib.hid cx) (Lib.hid cf) (Lib.hid cg)
        · rw [hf] at cf
          rw [hg] at cg
          exact over_j_0440 l0 l1 l2 _ _ _ _ A0 A1 A2 c0 c1 c2 w H0 H1 H2 (Lib.hid ci) (Lib.hid cx) (Lib.hid cf) (Lib.hid cg)
    · rw [he] at cx ov
      rcases st_cases (mxP (opB true) l0 l1) with hf | ⟨hf, _⟩
      · rcases st_cases (mxP (opB true) l0 l2) with hg | ⟨hg, _⟩
        · have cb := ov hf hg
          rw [hf] at cf
          rw [hg] at cg
          exact over_j_0004 l0 l1 l2 _ _ _ _ A0 A1 A2 c0 c1 c2 w H0 H1 H2 (Lib.hid ci) (Lib.hid cx) (Lib.hid cf) (Lib.hid cg) (Lib.hid cb) (Lib.hid lx)
        · rw [hf] at cf
          rw [hg] at cg
          exact over_j_0044 l0 l1 l2 _ _ _ _ A0 A1 A2 c0 c1 c2 w H0 H1 H2 (Lib.hid ci) (Lib.hid cx) (Lib.hid cf) (Lib.hid cg)
      · rcases st_cases (mxP (opB true) l0 l2) with hg | ⟨hg, _⟩
        · rw [hf] at cf
          rw [hg] at cg
          exact over_j_0404 l0 l1 l2 _ _ _ _ A0 A1 A2 c0 c1 c2 w H0 H1 H2 (Lib.hid ci) (Lib.hid cx) (Lib.hid cf) (Lib.hid cg)
        · rw [hf] at cf
          rw [hg] at cg
          exact over_j_0444 l0 l1 l2 _ _ _ _ A0 A1 A2 c0 c1 c2 w H0 H1 H2 (Lib.hid ci) (Lib.hid cx) (Lib.hid cf) (Lib.hid cg)
  · rw [hi] at ci
    exact over_j_4000 l0 l1 l2 _ [] [] [] A0 A1 A2 c0 c1 c2 w H0 H1 H2 (Lib.hid ci)
theorem over_false (l0 l1 l2 : List (Int × Int)) (A0 A1 A2 : Option Addr) (c0 c1 c2 : Nat) (w : World) (H0 : Hid (Marks w A0 l0)) (H1 : Hid (Marks w A1 l1)) (H2 : Hid (Marks w A2 l2))
    (V0 : vaB l0 = true) (V1 : vaB l1 = true) (V2 : vaB l2 = true) (n0 : l0.length ≤ maxLen) (n1 : l1.length ≤ maxLen) (n2 : l2.length ≤ maxLen) :
    Calls Try.prog 62 #[.agg #[.slice A0 l0.length c0, .slice A1 l1.length c1, .slice A2 l2.length c2], .bool false] w fun e w' => e = .returned (.bool true) ∧ Below w.heap.size w w' := by
  have ci := mix_st true V1 V2 n1 n2
  have cf := mix_st false V0 V1 n0 n1
  have cg := mix_st false V0 V2 n0 n2
  rcases st_cases (mxP (opB true) l1 l2) with hi | ⟨hi, _⟩
  · have cx := mix_st false V0 (st_valid (mxP (opB true) l1 l2)) n0 (stL_max _)
    have lx := stL_max (mxP (opB false) l0 (stL (mxP (opB true) l1 l2)))
    have ov : stE (mxP (opB false) l0 l1) = 0 → stE (mxP (opB false) l0 l2) = 0 → Mix true (stL (mxP (opB false) l0 l1)) (stL (mxP (opB false) l0 l2)) (stL (mxP (opB false) l0 (stL (mxP (opB true) l1 l2)))) (stE (mxP (opB false) l0 (stL (mxP (opB true) l1 l2)))) := fun hf hg => by
      have cb := mix_st true (st_valid (mxP (opB false) l0 l1)) (st_valid (mxP (opB false) l0 l2)) (stL_max _) (stL_max _)
      have ec := stL_congr (P := mxP (opB true) (stL (mxP (opB false) l0 l1)) (stL (mxP (opB false) l0 l2))) (R := mxP (opB false) l0 (stL (mxP (opB true) l1 l2))) (fun q hq => by
        rw [mxP, mxP, st_in hf hq, st_in hg hq, st_in hi hq, mxP, mxP, mxP]; exact (op_over false _ _ _).symm)
      rwa [ec.1, ec.2] at cb
    rw [hi] at ci
    rcases st_cases (mxP (opB false) l0 (stL (mxP (opB true) l1 l2))) with he | ⟨he, _⟩
    · rw [he] at cx ov
      rcases st_cases (mxP (opB false) l0 l1) with hf | ⟨hf, _⟩
      · rcases st_cases (mxP (opB false) l0 l2) with hg | ⟨hg, _⟩
        · have cb := ov hf hg
          rw [hf] at cf
          rw [hg] at cg
          exact over_b_0000 l0 l1 l2 _ _ _ _ A0 A1 A2 c0 c1 c2 w H0 H1 H2 (Lib.hid ci) (Lib.hid cx) (Lib.hid cf) (Lib.hid cg) (Lib.hid cb) (Lib.hid lx)
        · rw [hf] at cf
          rw [hg] at cg
          exact over_b_0040 l0 l1 l2 _ _ _ _ A0 A1 A2 c0 c1 c2 w H0 H1 H2 (Lib.hid ci) (Lib.hid cx) (Lib.hid cf) (Lib.hid cg)
      · rcases st_cases (mxP (opB false) l0 l2) with hg | ⟨hg, _⟩
        · rw [hf] at cf
          rw [hg] at cg
          exact over_b_0400 l0 l1 l2 _ _ _ _ A0 A1 A2 c0 c1 c2 w H0 H1 H2 (Lib.hid ci) (Lib.hid cx) (Lib.hid cf) (Lib.hid cg)
        · rw [hf] at cf
          rw [hg] at cg
          exact over_b_0440 l0 l1 l2 _ _ _ _ A0 A1 A2 c0 c1 c2 w H0 H1 H2 (Lib.hid ci) (Lib.hid cx) (Lib.hid cf) (Lib.hid cg)
    · rw [he] at cx ov
      rcases st_cases (mxP (opB false) l0 l1) with hf | ⟨hf, _⟩
      · rcases st_cases (mxP (opB false) l0 l2) with hg | ⟨hg, _⟩
        · have cb := ov hf hg
          rw [hf] at cf
          rw [hg] at cg
          exact over_b_0004 l0 l1 l2 _ _ _ _ A0 A1 A2 c0 c1 c2 w H0 H1 H2 (Lib.hid ci) (Lib.hid cx) (Lib.hid cf) (Lib.hid cg) (Lib.hid cb) (Lib.hid lx)
        · rw [hf] at cf
          rw [hg] at cg
          exact over_b_0044 l0 l1 l2 _ _ _ _ A0 A1 A2 c0 c1 c2 w H0 H1 H2 (Lib.hid ci) (Lib.hid cx) (Lib.hid cf) (Lib.hid cg)
      · rcases st_cases (mxP (opB false) l0 l2) with hg | ⟨hg, _⟩
        · rw [hf] at cf
          rw [hg] at cg
          exact over_b_0404 l0 l1 l2 _ _ _ _ A0 A1 A2 c0 c1 c2 w H0 H1 H2 (Lib.hid ci) (Lib.hid cx) (Lib.hid cf) (Lib.hid cg)
        · rw [hf] at cf
          rw [hg] at cg
          exact over_b_0444 l0 l1 l2 _ _ _ _ A0 A1 A2 c0 c1 c2 w H0 H1 H2 (Lib.hid ci) (Lib.hid cx) (Lib.hid cf) (Lib.hid cg)
  · rw [hi] at ci
    exact over_b_4000 l0 l1 l2 _ [] [] [] A0 A1 A2 c0 c1 c2 w H0 H1 H2 (Lib.hid ci)
set_option maxRecDepth 100000 in
set_option maxHeartbeats 2000000 in
theorem skyOvers_walk (A0 : Option Addr) (c0 : Nat) (l0 : List (Int × Int)) (A1 : Option Addr) (c1 : Nat) (l1 : List (Int × Int)) (A2 : Option Addr) (c2 : Nat) (l2 : List (Int × Int)) (w : World)
    (h0 : Marks w A0 l0) (k0 : l0.length ≤ c0) (m0 : c0 ≤ maxLen) (h1 : Marks w A1 l1) (k1 : l1.length ≤ c1) (m1 : c1 ≤ maxLen) (h2 : Marks w A2 l2) (k2 : l2.length ≤ c2) (m2 : c2 ≤ maxLen) :
    Calls Try.prog 14 #[.agg #[.slice A0 l0.length c0, .slice A1 l1.length c1, .slice A2 l2.length c2]] w fun e w' => e = .returned (.bool true) ∧ Below w.heap.size w w' := by
  have n0 := Nat.le_trans k0 m0
  have n1 := Nat.le_trans k1 m1
  have n2 := Nat.le_trans k2 m2
  have H0 := Lib.hid h0
  have H1 := Lib.hid h1
  have H2 := Lib.hid h2
  clear h0 h1 h2 k0 k1 k2 m0 m1 m2
  have hW0 : Below w.heap.size w (w.alloc (.cells #[.slice A0 l0.length c0, .slice A1 l1.length c1, .slice A2 l2.length c2] 60)) := Below.alloc (Below.refl _ _) (Nat.le_refl _) _
  have X0 : Hid ((w.alloc (.cells #[.slice A0 l0.length c0, .slice A1 l1.length c1, .slice A2 l2.length c2] 60)).heap[w.heap.size]? = some (.cells #[.slice A0 l0.length c0, .slice A1 l1.length c1, .slice A2 l2.length c2] 60 (0, 0))) := Lib.hid (heap_alloc_new w _)
  have HQ : Hid (∀ n, n < 3 → ∃ (A : Option Addr) (k : List (Int × Int)) (c : Nat), (#[.slice A0 l0.length c0, .slice A1 l1.length c1, .slice A2 l2.length c2] : Array Value)[n]? = some (.slice A k.length c) ∧ Marks w A k ∧ k.length ≤ maxLen ∧ k = (if n = 0 then l0 else if n = 1 then l1 else l2)) := Lib.hid (fun n hn => by
    obtain rfl | rfl | rfl : n = 0 ∨ n = 1 ∨ n = 2 := by omega
    · exact ⟨A0, l0, c0, rfl, H0.out, n0, rfl⟩
    · exact ⟨A1, l1, c1, rfl, H1.out, n1, rfl⟩
    · exact ⟨A2, l2, c2, rfl, H2.out, n2, rfl⟩)
  go_enter Try.func14, Try.ntmps14
  go_wp2
  go_loopw [3] (fun i wr => ∃ n : Nat, n ≤ 3 ∧ i = .int .i64 n ∧ Hid (∀ j, j < n → vaB (if j = 0 then l0 else if j = 1 then l1 else l2) = true) ∧ Below w.heap.size w wr ∧ Hid (wr.heap[w.heap.size]? = some (.cells #[.slice A0 l0.length c0, .slice A1 l1.length c1, .slice A2 l2.length c2] 60 (0, 0)))) (fun i _ => 3 - (intOf i).toNat)
  case atStart => exact ⟨0, by omega, rfl, Lib.hid (fun j hj => by omega), hW0, X0⟩
  case round =>
    clear hW0 X0
    obtain ⟨n, hn, rfl, hV, hB, hX⟩ := hrel
    by_cases hlt : n < 3
    · have tq : decide ((n : Int) < 3) = true := decide_eq_true (by omega)
      obtain ⟨A, k, c, e1, hM, hk, ek⟩ := HQ.out n hlt
      have y := blk_cell hX.out n e1
      have HM := Lib.hid (hM.below hB)
      have EK := Lib.hid ek
      have HK := Lib.hid hk
      clear e1 hM ek
      by_cases hlong : 1000 < k.length
      · have t1 : decide ((1000 : Int) < (k.length : Int)) = true := decide_eq_true (by omega)
        go_wp2_with (first
          | (go_at_call 40; refine (lawLong_any _ _ _ _ _).mono ?_; rintro e w' ⟨rfl, rfl⟩)
          | (go_at_call 28; refine (sane_any _).mono ?_; rintro e w9 ⟨rfl, hB9⟩)
          | fail)
        go_ret
        exact ⟨rfl, below_step hB hB9⟩
      have t1 : decide ((1000 : Int) < (k.length : Int)) = false := decide_eq_false (by omega)
      cases hv : vaB k with
      | false =>
        have VV := Lib.hid hv
        clear hv
        go_wp2_with (first
          | (go_at_call 40; refine (lawLong_any _ _ _ _ _).mono ?_; rintro e w' ⟨rfl, rfl⟩)
          | (go_at_call 44; with_reducible refine (refValid_any k _ _ _ HM.out HK.out).mono ?_; rintro e w1 ⟨he, hB1⟩; rw [VV.out] at he; subst he; have hW1 := below_step hB hB1; clear hB1)
          | (go_at_call 28; refine (sane_any _).mono ?_; rintro e w9 ⟨rfl, hB9⟩)
          | fail)
        go_ret
        exact ⟨rfl, below_step hW1 hB9⟩
      | true =>
        have VV := Lib.hid hv
        clear hv
        go_wp2_with (first
          | (go_at_call 40; refine (lawLong_any _ _ _ _ _).mono ?_; rintro e w' ⟨rfl, rfl⟩)
          | (go_at_call 44; with_reducible refine (refValid_any k _ _ _ HM.out HK.out).mono ?_; rintro e w1 ⟨he, hB1⟩; rw [VV.out] at he; subst he; have hW1 := below_step hB hB1; have X1 := Lib.hid (row_step hX.out hB1); clear hB1)
          | fail)
        go_roundw
        case rel => exact ⟨n + 1, by omega, by go_num, Lib.hid (fun j hj => by
          by_cases h : j = n
          · subst h; rw [← EK.out]; exact VV.out
          · exact hV.out j (by omega)), hW1, X1⟩
        case measure => simp [intOf]; omega
    · obtain rfl : n = 3 := by omega
      have V0 : vaB l0 = true := hV.out 0 (by omega)
      have V1 : vaB l1 = true := hV.out 1 (by omega)
      have V2 : vaB l2 = true := hV.out 2 (by omega)
      have CJ := Lib.hid (fun (W : World) (hW : Below w.heap.size w W) => over_true l0 l1 l2 A0 A1 A2 c0 c1 c2 W (Lib.hid (H0.out.below hW)) (Lib.hid (H1.out.below hW)) (Lib.hid (H2.out.below hW)) V0 V1 V2 n0 n1 n2)
      have CB := Lib.hid (fun (W : World) (hW : Below w.heap.size w W) => over_false l0 l1 l2 A0 A1 A2 c0 c1 c2 W (Lib.hid (H0.out.below hW)) (Lib.hid (H1.out.below hW)) (Lib.hid (H2.out.below hW)) V0 V1 V2 n0 n1 n2)
      have y0 := blk_cell hX.out 0 (u := .slice A0 l0.length c0) rfl
      have y1 := blk_cell hX.out 1 (u := .slice A1 l1.length c1) rfl
      have y2 := blk_cell hX.out 2 (u := .slice A2 l2.length c2) rfl
      clear V0 V1 V2
      go_wp2_with (first
        | (go_at_call 62; with_reducible refine (CJ.out _ hB).mono ?_; rintro e w1 ⟨rfl, hB1⟩; have hW1 := below_step hB hB1; have X1 := Lib.hid (row_step hX.out hB1); have y0 := blk_cell X1.out 0 (u := .slice A0 l0.length c0) rfl; have y1 := blk_cell X1.out 1 (u := .slice A1 l1.length c1) rfl; have y2 := blk_cell X1.out 2 (u := .slice A2 l2.length c2) rfl; clear hB1)
        | (go_at_call 62; with_reducible refine (CB.out _ hW1).mono ?_; rintro e w2 ⟨rfl, hB2⟩; have hW2 := below_step hW1 hB2; clear hB2)
        | (go_at_call 28; refine (sane_any _).mono ?_; rintro e w9 ⟨rfl, hB9⟩)
        | fail)
      go_ret
      exact ⟨rfl, below_step hW2 hB9⟩
end Go.Proofs.Ytnnfnphmieikmaa
