/-
  The walk of TopSky, for two orders of the numbers that the rings are taken from.
-/
import Derived.Test.YtnnfnphmieikmaaLawTopM
namespace Go.Proofs.Ytnnfnphmieikmaa
open Go Go.RowKit Go.Shelf

set_option maxRecDepth 100000 in
set_option maxHeartbeats 2000000 in
theorem top_Agt (l m : List (Int × Int)) (p F Xc Yc N R P2 u v : Nat) (x0 x1 x2 : Int) (A : Option Addr) (c : Nat) (B : Option Addr) (d : Nat) (w : World) (H : Hid (Clk w A c l)) (K0 : Hid (Clk w B d m))
    (hlong1 : ¬ 1000 < l.length) (hlong2 : ¬ 1000 < m.length) (VL : Hid (vaB l = true)) (VM : Hid (vaB m = true))
    (hx0 : 0 ≤ x0 ∧ x0 ≤ 65535) (hx1 : 0 ≤ x1 ∧ x1 ≤ 65535) (hx2 : 0 ≤ x2 ∧ x2 ≤ 65535) (hp : p < 3072) (EP : Hid (x0 % 3072 = (p : Int)))
    (C2 : Hid (∀ W, Calls Try.prog 20 #[.int .i64 4, .int .i64 (p : Int)] W fun e w' => e = .returned (.tuple #[.int .i64 (F : Int), .int .i64 (Xc : Int), .int .i64 (Yc : Int), .int .i64 0]) ∧ Below W.heap.size W w'))
    (C3 : Hid (∀ W, Calls Try.prog 29 #[.int .i64 4, .int .i64 (F : Int), .int .i64 (Xc : Int), .int .i64 (Yc : Int)] W fun e w' => e = .returned (.tuple #[.int .i64 (p : Int), .int .i64 0]) ∧ Below W.heap.size W w'))
    (C4 : Hid (∀ W, Calls Try.prog 22 #[.int .i64 4, .int .i64 (p : Int)] W fun e w' => e = .returned (.tuple #[.int .i64 (N : Int), .int .i64 0]) ∧ Below W.heap.size W w'))
    (C5 : Hid (∀ W, Calls Try.prog 24 #[.int .i64 4, .int .i64 (N : Int)] W fun e w' => e = .returned (.tuple #[.int .i64 (p : Int), .int .i64 0]) ∧ Below W.heap.size W w'))
    (EU : Hid (x1 % 63 = (u : Int))) (EV : Hid (x2 % 63 = (v : Int))) (hu : u < 63) (hv : v < 63) (HR : Hid (R = RT 4 p)) (hx12 : x1 ≤ x2) (hc : v < u) (bm : Bool) (BM : Hid (inL m p = bm))
    (C7 : Hid (∀ W, Calls Try.prog 26 #[.int .i64 4, .int .i64 (p : Int)] W fun e w' => e = .returned (.tuple #[.int .i64 (R : Int), .int .i64 (P2 : Int), .int .i64 0]) ∧ Below W.heap.size W w')) :
    Calls Try.prog 17 #[.slice A l.length c, .slice B m.length d, .agg #[.int .u16 x0, .int .u16 x1, .int .u16 x2]] w fun e w' => e = .returned (.bool true) ∧ Below w.heap.size w w' := by
  obtain ⟨a0, a1⟩ := hx0
  obtain ⟨b0, b1⟩ := hx1
  obtain ⟨d0, d1⟩ := hx2
  have t1 : decide ((1000 : Int) < (l.length : Int)) = false := decide_eq_false (by omega)
  have t2 : decide ((1000 : Int) < (m.length : Int)) = false := decide_eq_false (by omega)
  have hW0 : Below w.heap.size w (w.alloc (.cells #[.int .u16 x0, .int .u16 x1, .int .u16 x2] 66)) := Below.alloc (Below.refl _ _) (Nat.le_refl _) _
  have X0 : Hid ((w.alloc (.cells #[.int .u16 x0, .int .u16 x1, .int .u16 x2] 66)).heap[w.heap.size]? = some (.cells #[.int .u16 x0, .int .u16 x1, .int .u16 x2] 66 (0, 0))) := Lib.hid (heap_alloc_new w _)
  have CRG : Hid (∀ a b : Nat, 1 ≤ a → a ≤ b → b ≤ 63 → ∀ W, Calls Try.prog 60 #[.int .i64 (a : Int), .int .i64 (b : Int)] W fun e w' => ∃ A' c', e = .returned (.tuple #[.slice A' (stL (riP a b)).length c', .int .i64 (stE (riP a b))]) ∧ Clk w' A' c' (stL (riP a b)) ∧ Below W.heap.size W w') := Lib.hid (fun a b h1 h2 h3 W => skyRings_yes a b h1 h2 h3 W)
  have CHG : Hid (∀ (k : List (Int × Int)) (b : Bool), vaB k = true → k.length ≤ maxLen → inL k p = b → ∀ (A : Option Addr) (c : Nat) (W : World), Marks W A k → Calls Try.prog 48 #[.slice A k.length c, .agg #[.int .i64 4, .int .i64 (p : Int)]] W fun e w' => e = .returned (.tuple #[.bool b, .int .i64 0]) ∧ Below W.heap.size W w') :=
    Lib.hid (fun k b hk hl hb A c W hM => (skyHas_any k A c 4 (p : Int) W hM hl).mono fun _ _ h => ⟨by rw [h.1, (ha_four hk hp).1, (ha_four hk hp).2, hb], h.2⟩)
  have CDG : Hid (∀ (P : Nat → Bool) (b : Bool), P p = b → ∀ (A : Option Addr) (c : Nat) (W : World), Marks W A (stL P) → Calls Try.prog 64 #[.slice A (stL P).length c, .int .i64 (stE P), .agg #[.int .i64 4, .int .i64 (p : Int)], .bool b] W fun e w' => e = .returned (.bool true) ∧ Below W.heap.size W w') :=
    Lib.hid (fun P b hb A c W hM => holds_any P p hp A c b hb W hM)
  have JJ : Hid (Two 50 l m (stL (mxP orB l m)) (stE (mxP orB l m))) := Lib.hid (by have := two_join H.out.len K0.out.len; rwa [(mx_st VL.out VM.out).1, (mx_st VL.out VM.out).2] at this)
  have JB : Hid (Two 52 l m (stL (mxP andB l m)) (stE (mxP andB l m))) := Lib.hid (by have := two_both H.out.len K0.out.len; rwa [(mx_st VL.out VM.out).1, (mx_st VL.out VM.out).2] at this)
  have JW : Hid (Two 54 l m (stL (mxP lessB l m)) (stE (mxP lessB l m))) := Lib.hid (by have := two_less H.out.len K0.out.len; rwa [(mx_st VL.out VM.out).1, (mx_st VL.out VM.out).2] at this)
  have JR : Hid (One 56 l (stL (rsP l)) (stE (rsP l))) := Lib.hid (by have := one_rest H.out.len; rwa [(rs_st VL.out).1, (rs_st VL.out).2] at this)
  clear hlong1 hlong2
  go_enter Try.func17, Try.ntmps17
  go_wp2_with (first
    | (go_at_call 40; refine (lawLong_any _ _ _ _ _).mono ?_; rintro e w' ⟨rfl, rfl⟩)
    | (go_at_call 44; with_reducible refine (refValid_any l _ _ _ (H.out.marks.below hW0) H.out.len).mono ?_; rintro e w1 ⟨he, hB1⟩; rw [VL.out] at he; subst he; have hW1 := below_step hW0 hB1; have X1 := Lib.hid (blk_step X0.out hB1); clear hB1)
    | (go_at_call 44; with_reducible refine (refValid_any m _ _ _ (K0.out.marks.below hW1) K0.out.len).mono ?_; rintro e w2 ⟨he, hB2⟩; rw [VM.out] at he; subst he; have hW2 := below_step hW1 hB2; have X2 := Lib.hid (blk_step X1.out hB2); clear hB2; have f0 := cell_of_row w2 _ 0 _ _ _ X2.out; simp at f0)
    | fail)
  rw [EP.out]
  clear f0
  go_wp2_with (first
    | (go_at_call 22; with_reducible refine (C4.out _).mono ?_; rintro e w3 ⟨rfl, hB3⟩; have hW3 := below_step hW2 hB3; have X3 := Lib.hid (blk_step X2.out hB3); clear hB3)
    | (go_at_call 24; with_reducible refine (C5.out _).mono ?_; rintro e w4 ⟨rfl, hB4⟩; have hW4 := below_step hW3 hB4; have X4 := Lib.hid (blk_step X3.out hB4); clear hB4)
    | (go_at_call 20; with_reducible refine (C2.out _).mono ?_; rintro e w5 ⟨rfl, hB5⟩; have hW5 := below_step hW4 hB5; have X5 := Lib.hid (blk_step X4.out hB5); clear hB5)
    | (go_at_call 29; with_reducible refine (C3.out _).mono ?_; rintro e w6 ⟨rfl, hB6⟩; have hW6 := below_step hW5 hB6; have X6 := Lib.hid (blk_step X5.out hB6); clear hB6)
    | (go_at_call 26; with_reducible refine (C7.out _).mono ?_; rintro e w7 ⟨rfl, hB7⟩; have hW7 := below_step hW6 hB7; have X7 := Lib.hid (blk_step X6.out hB7); clear hB7)
    | fail)
  obtain ⟨W8, e8, hW8, X8, Y8⟩ : ∃ W8, w7.alloc (.cells #[.int .i64 4, .int .i64 (p : Int)] 43) = W8 ∧ Below w.heap.size w W8 ∧ Hid (W8.heap[w.heap.size]? = some (.cells #[.int .u16 x0, .int .u16 x1, .int .u16 x2] 66 (0, 0))) ∧ Hid (W8.heap[w7.heap.size]? = some (.cells #[.int .i64 4, .int .i64 (p : Int)] 43 (0, 0))) :=
    ⟨_, rfl, Below.trans hW7 (Below.alloc (Below.refl _ _) hW7.size _), Lib.hid (blk_step X7.out (Below.alloc (Below.refl _ _) (Nat.le_refl _) _)), Lib.hid (heap_alloc_new w7 _)⟩
  rw [e8]
  clear e8 C2 C3 C4 C5 C7
  obtain ⟨g, hg⟩ : ∃ g, w7.heap.size = g := ⟨_, rfl⟩
  rw [hg] at Y8
  rw [hg]
  clear hg
  have q1 := cell_of_row W8 _ 1 _ _ _ X8.out
  have q2 := cell_of_row W8 _ 2 _ _ _ X8.out
  simp at q1 q2
  go_quiet (fail)
  rw [show (if x1 < x2 then x2 else x1) = x2 from by split <;> omega, EU.out, EV.out]
  obtain ⟨W9, e9, hW9, Y9⟩ : ∃ W9, W8.drewN nq = W9 ∧ Below w.heap.size w W9 ∧ Hid (W9.heap[g]? = some (.cells #[.int .i64 4, .int .i64 (p : Int)] 43 (0, 0))) := ⟨_, rfl, below_drewN hW8 _, Y8⟩
  rw [e9]
  clear e9 X8 Y8 q1 q2 hW8
  have t3 : ¬ (u : Int) ≤ v := by omega
  have t4 : (v : Int) ≤ u := by omega
  have cR := fun W => CRG.out (1 + v) (1 + u) (by omega) (by omega) (by omega) W
  rw [show ((1 + v : Nat) : Int) = 1 + (v : Int) from by omega, show ((1 + u : Nat) : Int) = 1 + (u : Int) from by omega] at cR
  have CBX := fun (b : Bool) (h0 : stE (riP (1 + v) (1 + u)) = 0) (hb : riP (1 + v) (1 + u) p = b) => CHG.out (stL (riP (1 + v) (1 + u))) b (st_valid _) (stL_max _) (by rw [st_in h0 hp, hb])
  cases hbl : inL l p with
  | true =>
    have CHL := Lib.hid (CHG.out l true VL.out H.out.len hbl)
    have CHM := Lib.hid (CHG.out m bm VM.out K0.out.len BM.out)
    have D1 := Lib.hid (CDG.out (mxP orB l m) true (by rw [mxP, orB, hbl, BM.out]; rfl))
    have D2 := Lib.hid (CDG.out (mxP andB l m) bm (by rw [mxP, andB, hbl, BM.out]; rfl))
    have D3 := Lib.hid (CDG.out (mxP lessB l m) (!bm) (by rw [mxP, lessB, hbl, BM.out]; rfl))
    have D4 := Lib.hid (CDG.out (rsP l) false (by rw [rsP, hbl]; rfl))
    clear hbl
    rcases st_cases (riP (1 + v) (1 + u)) with h0 | ⟨h4, hnil⟩
    · by_cases hr : 1 + v ≤ R
      · have CBD := Lib.hid (CBX (decide ((R : Int) ≤ 1 + (u : Int))) h0 (by have := HR.out; rw [riP, ← HR.out, Bool.eq_iff_iff]; simp; omega))
        rw [h0] at cR
        have CR := Lib.hid cR
        have t5 : 1 + (v : Int) ≤ (R : Int) := by omega
        clear h0 hr cR CBX
        go_wp2_with (first
          | (go_at_call 60; with_reducible refine (CR.out _).mono ?_; rintro e w10 ⟨A10, c10, rfl, hO10, hB10⟩; have hW10 := below_step hW9 hB10; have Y10 := Lib.hid (blk_step Y9.out hB10); have y0 := blk_cell Y10.out 0 (u := .int .i64 4) rfl; have y1 := blk_cell Y10.out 1 (u := .int .i64 (p : Int)) rfl; clear hB10)
          | (go_at_call 48; with_reducible refine (CBD.out _ _ _ hO10.marks).mono ?_; rintro e w11 ⟨rfl, hB11⟩; have hW11 := below_step hW10 hB11; have Y11 := Lib.hid (blk_step Y10.out hB11); have y0 := blk_cell Y11.out 0 (u := .int .i64 4) rfl; have y1 := blk_cell Y11.out 1 (u := .int .i64 (p : Int)) rfl; clear hB11)
          | (go_at_call 48; with_reducible refine (CHL.out _ _ _ (H.out.marks.below hW11)).mono ?_; rintro e w12 ⟨rfl, hB12⟩; have hW12 := below_step hW11 hB12; have Y12 := Lib.hid (blk_step Y11.out hB12); have y0 := blk_cell Y12.out 0 (u := .int .i64 4) rfl; have y1 := blk_cell Y12.out 1 (u := .int .i64 (p : Int)) rfl; clear hB12)
          | (go_at_call 48; with_reducible refine (CHM.out _ _ _ (K0.out.marks.below hW12)).mono ?_; rintro e w13 ⟨rfl, hB13⟩; have hW13 := below_step hW12 hB13; have Y13 := Lib.hid (blk_step Y12.out hB13); have y0 := blk_cell Y13.out 0 (u := .int .i64 4) rfl; have y1 := blk_cell Y13.out 1 (u := .int .i64 (p : Int)) rfl; clear hB13)
          | (go_at_call 50; with_reducible refine (JJ.out _ _ _ _ _ (H.out.marks.below hW13) (K0.out.marks.below hW13)).mono ?_; rintro e w14 ⟨A14, c14, rfl, hO14, hB14⟩; have hW14 := below_step hW13 hB14; have Y14 := Lib.hid (blk_step Y13.out hB14); have y0 := blk_cell Y14.out 0 (u := .int .i64 4) rfl; have y1 := blk_cell Y14.out 1 (u := .int .i64 (p : Int)) rfl; clear hB14)
          | (go_at_call 52; with_reducible refine (JB.out _ _ _ _ _ (H.out.marks.below hW14) (K0.out.marks.below hW14)).mono ?_; rintro e w15 ⟨A15, c15, rfl, hO15, hB15⟩; have hW15 := below_step hW14 hB15; have Y15 := Lib.hid (blk_step Y14.out hB15); have y0 := blk_cell Y15.out 0 (u := .int .i64 4) rfl; have y1 := blk_cell Y15.out 1 (u := .int .i64 (p : Int)) rfl; have hO14 := hO14.below hB15; clear hB15)
          | (go_at_call 54; with_reducible refine (JW.out _ _ _ _ _ (H.out.marks.below hW15) (K0.out.marks.below hW15)).mono ?_; rintro e w16 ⟨A16, c16, rfl, hO16, hB16⟩; have hW16 := below_step hW15 hB16; have Y16 := Lib.hid (blk_step Y15.out hB16); have y0 := blk_cell Y16.out 0 (u := .int .i64 4) rfl; have y1 := blk_cell Y16.out 1 (u := .int .i64 (p : Int)) rfl; have hO14 := hO14.below hB16; have hO15 := hO15.below hB16; clear hB16)
          | (go_at_call 56; with_reducible refine (JR.out _ _ _ (H.out.marks.below hW16)).mono ?_; rintro e w17 ⟨A17, c17, rfl, hO17, hB17⟩; have hW17 := below_step hW16 hB17; have Y17 := Lib.hid (blk_step Y16.out hB17); have y0 := blk_cell Y17.out 0 (u := .int .i64 4) rfl; have y1 := blk_cell Y17.out 1 (u := .int .i64 (p : Int)) rfl; have hO14 := hO14.below hB17; have hO15 := hO15.below hB17; have hO16 := hO16.below hB17; clear hB17)
          | (go_at_call 64; with_reducible refine (D1.out _ _ _ hO14.marks).mono ?_; rintro e w18 ⟨rfl, hB18⟩; have hW18 := below_step hW17 hB18; have Y18 := Lib.hid (blk_step Y17.out hB18); have y0 := blk_cell Y18.out 0 (u := .int .i64 4) rfl; have y1 := blk_cell Y18.out 1 (u := .int .i64 (p : Int)) rfl; have hO15 := hO15.below hB18; have hO16 := hO16.below hB18; have hO17 := hO17.below hB18; clear hB18)
          | (go_at_call 64; with_reducible refine (D2.out _ _ _ hO15.marks).mono ?_; rintro e w19 ⟨rfl, hB19⟩; have hW19 := below_step hW18 hB19; have Y19 := Lib.hid (blk_step Y18.out hB19); have y0 := blk_cell Y19.out 0 (u := .int .i64 4) rfl; have y1 := blk_cell Y19.out 1 (u := .int .i64 (p : Int)) rfl; have hO16 := hO16.below hB19; have hO17 := hO17.below hB19; clear hB19)
          | (go_at_call 64; with_reducible refine (D3.out _ _ _ hO16.marks).mono ?_; rintro e w20 ⟨rfl, hB20⟩; have hW20 := below_step hW19 hB20; have Y20 := Lib.hid (blk_step Y19.out hB20); have y0 := blk_cell Y20.out 0 (u := .int .i64 4) rfl; have y1 := blk_cell Y20.out 1 (u := .int .i64 (p : Int)) rfl; have hO17 := hO17.below hB20; clear hB20)
          | (go_at_call 64; with_reducible refine (D4.out _ _ _ hO17.marks).mono ?_; rintro e w21 ⟨rfl, hB21⟩; have hW21 := below_step hW20 hB21; clear hB21)
          | (go_at_call 28; refine (sane_any _).mono ?_; rintro e w22 ⟨rfl, hB22⟩)
          | fail)
        go_ret
        exact ⟨rfl, below_step hW21 hB22⟩
      · have CBD := Lib.hid (CBX false h0 (by have := HR.out; rw [riP, ← HR.out]; simp; omega))
        rw [h0] at cR
        have CR := Lib.hid cR
        have t5 : ¬ 1 + (v : Int) ≤ (R : Int) := by omega
        clear h0 hr cR CBX
        go_wp2_with (first
          | (go_at_call 60; with_reducible refine (CR.out _).mono ?_; rintro e w10 ⟨A10, c10, rfl, hO10, hB10⟩; have hW10 := below_step hW9 hB10; have Y10 := Lib.hid (blk_step Y9.out hB10); have y0 := blk_cell Y10.out 0 (u := .int .i64 4) rfl; have y1 := blk_cell Y10.out 1 (u := .int .i64 (p : Int)) rfl; clear hB10)
          | (go_at_call 48; with_reducible refine (CBD.out _ _ _ hO10.marks).mono ?_; rintro e w11 ⟨rfl, hB11⟩; have hW11 := below_step hW10 hB11; have Y11 := Lib.hid (blk_step Y10.out hB11); have y0 := blk_cell Y11.out 0 (u := .int .i64 4) rfl; have y1 := blk_cell Y11.out 1 (u := .int .i64 (p : Int)) rfl; clear hB11)
          | (go_at_call 48; with_reducible refine (CHL.out _ _ _ (H.out.marks.below hW11)).mono ?_; rintro e w12 ⟨rfl, hB12⟩; have hW12 := below_step hW11 hB12; have Y12 := Lib.hid (blk_step Y11.out hB12); have y0 := blk_cell Y12.out 0 (u := .int .i64 4) rfl; have y1 := blk_cell Y12.out 1 (u := .int .i64 (p : Int)) rfl; clear hB12)
          | (go_at_call 48; with_reducible refine (CHM.out _ _ _ (K0.out.marks.below hW12)).mono ?_; rintro e w13 ⟨rfl, hB13⟩; have hW13 := below_step hW12 hB13; have Y13 := Lib.hid (blk_step Y12.out hB13); have y0 := blk_cell Y13.out 0 (u := .int .i64 4) rfl; have y1 := blk_cell Y13.out 1 (u := .int .i64 (p : Int)) rfl; clear hB13)
          | (go_at_call 50; with_reducible refine (JJ.out _ _ _ _ _ (H.out.marks.below hW13) (K0.out.marks.below hW13)).mono ?_; rintro e w14 ⟨A14, c14, rfl, hO14, hB14⟩; have hW14 := below_step hW13 hB14; have Y14 := Lib.hid (blk_step Y13.out hB14); have y0 := blk_cell Y14.out 0 (u := .int .i64 4) rfl; have y1 := blk_cell Y14.out 1 (u := .int .i64 (p : Int)) rfl; clear hB14)
          | (go_at_call 52; with_reducible refine (JB.out _ _ _ _ _ (H.out.marks.below hW14) (K0.out.marks.below hW14)).mono ?_; rintro e w15 ⟨A15, c15, rfl, hO15, hB15⟩; have hW15 := below_step hW14 hB15; have Y15 := Lib.hid (blk_step Y14.out hB15); have y0 := blk_cell Y15.out 0 (u := .int .i64 4) rfl; have y1 := blk_cell Y15.out 1 (u := .int .i64 (p : Int)) rfl; have hO14 := hO14.below hB15; clear hB15)
          | (go_at_call 54; with_reducible refine (JW.out _ _ _ _ _ (H.out.marks.below hW15) (K0.out.marks.below hW15)).mono ?_; rintro e w16 ⟨A16, c16, rfl, hO16, hB16⟩; have hW16 := below_step hW15 hB16; have Y16 := Lib.hid (blk_step Y15.out hB16); have y0 := blk_cell Y16.out 0 (u := .int .i64 4) rfl; have y1 := blk_cell Y16.out 1 (u := .int .i64 (p : Int)) rfl; have hO14 := hO14.below hB16; have hO15 := hO15.below hB16; clear hB16)
          | (go_at_call 56; with_reducible refine (JR.out _ _ _ (H.out.marks.below hW16)).mono ?_; rintro e w17 ⟨A17, c17, rfl, hO17, hB17⟩; have hW17 := below_step hW16 hB17; have Y17 := Lib.hid (blk_step Y16.out hB17); have y0 := blk_cell Y17.out 0 (u := .int .i64 4) rfl; have y1 := blk_cell Y17.out 1 (u := .int .i64 (p : Int)) rfl; have hO14 := hO14.below hB17; have hO15 := hO15.below hB17; have hO16 := hO16.below hB17; clear hB17)
          | (go_at_call 64; with_reducible refine (D1.out _ _ _ hO14.marks).mono ?_; rintro e w18 ⟨rfl, hB18⟩; have hW18 := below_step hW17 hB18; have Y18 := Lib.hid (blk_step Y17.out hB18); have y0 := blk_cell Y18.out 0 (u := .int .i64 4) rfl; have y1 := blk_cell Y18.out 1 (u := .int .i64 (p : Int)) rfl; have hO15 := hO15.below hB18; have hO16 := hO16.below hB18; have hO17 := hO17.below hB18; clear hB18)
          | (go_at_call 64; with_reducible refine (D2.out _ _ _ hO15.marks).mono ?_; rintro e w19 ⟨rfl, hB19⟩; have hW19 := below_step hW18 hB19; have Y19 := Lib.hid (blk_step Y18.out hB19); have y0 := blk_cell Y19.out 0 (u := .int .i64 4) rfl; have y1 := blk_cell Y19.out 1 (u := .int .i64 (p : Int)) rfl; have hO16 := hO16.below hB19; have hO17 := hO17.below hB19; clear hB19)
          | (go_at_call 64; with_reducible refine (D3.out _ _ _ hO16.marks).mono ?_; rintro e w20 ⟨rfl, hB20⟩; have hW20 := below_step hW19 hB20; have Y20 := Lib.hid (blk_step Y19.out hB20); have y0 := blk_cell Y20.out 0 (u := .int .i64 4) rfl; have y1 := blk_cell Y20.out 1 (u := .int .i64 (p : Int)) rfl; have hO17 := hO17.below hB20; clear hB20)
          | (go_at_call 64; with_reducible refine (D4.out _ _ _ hO17.marks).mono ?_; rintro e w21 ⟨rfl, hB21⟩; have hW21 := below_step hW20 hB21; clear hB21)
          | (go_at_call 28; refine (sane_any _).mono ?_; rintro e w22 ⟨rfl, hB22⟩)
          | fail)
        go_ret
        exact ⟨rfl, below_step hW21 hB22⟩
    · rw [h4, hnil] at cR
      have CR := Lib.hid cR
      clear h4 hnil cR CBX
      go_wp2_with (first
        | (go_at_call 60; with_reducible refine (CR.out _).mono ?_; rintro e w10 ⟨A10, c10, rfl, hO10, hB10⟩; have hW10 := below_step hW9 hB10; have Y10 := Lib.hid (blk_step Y9.out hB10); have y0 := blk_cell Y10.out 0 (u := .int .i64 4) rfl; have y1 := blk_cell Y10.out 1 (u := .int .i64 (p : Int)) rfl; clear hB10)
        | (go_at_call 48; with_reducible refine (CHL.out _ _ _ (H.out.marks.below hW10)).mono ?_; rintro e w12 ⟨rfl, hB12⟩; have hW12 := below_step hW10 hB12; have Y12 := Lib.hid (blk_step Y10.out hB12); have y0 := blk_cell Y12.out 0 (u := .int .i64 4) rfl; have y1 := blk_cell Y12.out 1 (u := .int .i64 (p : Int)) rfl; clear hB12)
        | (go_at_call 48; with_reducible refine (CHM.out _ _ _ (K0.out.marks.below hW12)).mono ?_; rintro e w13 ⟨rfl, hB13⟩; have hW13 := below_step hW12 hB13; have Y13 := Lib.hid (blk_step Y12.out hB13); have y0 := blk_cell Y13.out 0 (u := .int .i64 4) rfl; have y1 := blk_cell Y13.out 1 (u := .int .i64 (p : Int)) rfl; clear hB13)
        | (go_at_call 50; with_reducible refine (JJ.out _ _ _ _ _ (H.out.marks.below hW13) (K0.out.marks.below hW13)).mono ?_; rintro e w14 ⟨A14, c14, rfl, hO14, hB14⟩; have hW14 := below_step hW13 hB14; have Y14 := Lib.hid (blk_step Y13.out hB14); have y0 := blk_cell Y14.out 0 (u := .int .i64 4) rfl; have y1 := blk_cell Y14.out 1 (u := .int .i64 (p : Int)) rfl; clear hB14)
        | (go_at_call 52; with_reducible refine (JB.out _ _ _ _ _ (H.out.marks.below hW14) (K0.out.marks.below hW14)).mono ?_; rintro e w15 ⟨A15, c15, rfl, hO15, hB15⟩; have hW15 := below_step hW14 hB15; have Y15 := Lib.hid (blk_step Y14.out hB15); have y0 := blk_cell Y15.out 0 (u := .int .i64 4) rfl; have y1 := blk_cell Y15.out 1 (u := .int .i64 (p : Int)) rfl; have hO14 := hO14.below hB15; clear hB15)
        | (go_at_call 54; with_reducible refine (JW.out _ _ _ _ _ (H.out.marks.below hW15) (K0.out.marks.below hW15)).mono ?_; rintro e w16 ⟨A16, c16, rfl, hO16, hB16⟩; have hW16 := below_step hW15 hB16; have Y16 := Lib.hid (blk_step Y15.out hB16); have y0 := blk_cell Y16.out 0 (u := .int .i64 4) rfl; have y1 := blk_cell Y16.out 1 (u := .int .i64 (p : Int)) rfl; have hO14 := hO14.below hB16; have hO15 := hO15.below hB16; clear hB16)
        | (go_at_call 56; with_reducible refine (JR.out _ _ _ (H.out.marks.below hW16)).mono ?_; rintro e w17 ⟨A17, c17, rfl, hO17, hB17⟩; have hW17 := below_step hW16 hB17; have Y17 := Lib.hid (blk_step Y16.out hB17); have y0 := blk_cell Y17.out 0 (u := .int .i64 4) rfl; have y1 := blk_cell Y17.out 1 (u := .int .i64 (p : Int)) rfl; have hO14 := hO14.below hB17; have hO15 := hO15.below hB17; have hO16 := hO16.below hB17; clear hB17)
        | (go_at_call 64; with_reducible refine (D1.out _ _ _ hO14.marks).mono ?_; rintro e w18 ⟨rfl, hB18⟩; have hW18 := below_step hW17 hB18; have Y18 := Lib.hid (blk_step Y17.out hB18); have y0 := blk_cell Y18.out 0 (u := .int .i64 4) rfl; have y1 := blk_cell Y18.out 1 (u := .int .i64 (p : Int)) rfl; have hO15 := hO15.below hB18; have hO16 := hO16.below hB18; have hO17 := hO17.below hB18; clear hB18)
        | (go_at_call 64; with_reducible refine (D2.out _ _ _ hO15.marks).mono ?_; rintro e w19 ⟨rfl, hB19⟩; have hW19 := below_step hW18 hB19; have Y19 := Lib.hid (blk_step Y18.out hB19); have y0 := blk_cell Y19.out 0 (u := .int .i64 4) rfl; have y1 := blk_cell Y19.out 1 (u := .int .i64 (p : Int)) rfl; have hO16 := hO16.below hB19; have hO17 := hO17.below hB19; clear hB19)
        | (go_at_call 64; with_reducible refine (D3.out _ _ _ hO16.marks).mono ?_; rintro e w20 ⟨rfl, hB20⟩; have hW20 := below_step hW19 hB20; have Y20 := Lib.hid (blk_step Y19.out hB20); have y0 := blk_cell Y20.out 0 (u := .int .i64 4) rfl; have y1 := blk_cell Y20.out 1 (u := .int .i64 (p : Int)) rfl; have hO17 := hO17.below hB20; clear hB20)
        | (go_at_call 64; with_reducible refine (D4.out _ _ _ hO17.marks).mono ?_; rintro e w21 ⟨rfl, hB21⟩; have hW21 := below_step hW20 hB21; clear hB21)
        | (go_at_call 28; refine (sane_any _).mono ?_; rintro e w22 ⟨rfl, hB22⟩)
        | fail)
      go_ret
      exact ⟨rfl, below_step hW21 hB22⟩
  | false =>
    have CHL := Lib.hid (CHG.out l false VL.out H.out.len hbl)
    have CHM := Lib.hid (CHG.out m bm VM.out K0.out.len BM.out)
    have D1 := Lib.hid (CDG.out (mxP orB l m) bm (by rw [mxP, orB, hbl, BM.out]; rfl))
    have D2 := Lib.hid (CDG.out (mxP andB l m) false (by rw [mxP, andB, hbl, BM.out]; rfl))
    have D3 := Lib.hid (CDG.out (mxP lessB l m) false (by rw [mxP, lessB, hbl, BM.out]; rfl))
    have D4 := Lib.hid (CDG.out (rsP l) true (by rw [rsP, hbl]; rfl))
    clear hbl
    rcases st_cases (riP (1 + v) (1 + u)) with h0 | ⟨h4, hnil⟩
    · by_cases hr : 1 + v ≤ R
      · have CBD := Lib.hid (CBX (decide ((R : Int) ≤ 1 + (u : Int))) h0 (by have := HR.out; rw [riP, ← HR.out, Bool.eq_iff_iff]; simp; omega))
        rw [h0] at cR
        have CR := Lib.hid cR
        have t5 : 1 + (v : Int) ≤ (R : Int) := by omega
        clear h0 hr cR CBX
        go_wp2_with (first
          | (go_at_call 60; with_reducible refine (CR.out _).mono ?_; rintro e w10 ⟨A10, c10, rfl, hO10, hB10⟩; have hW10 := below_step hW9 hB10; have Y10 := Lib.hid (blk_step Y9.out hB10); have y0 := blk_cell Y10.out 0 (u := .int .i64 4) rfl; have y1 := blk_cell Y10.out 1 (u := .int .i64 (p : Int)) rfl; clear hB10)
          | (go_at_call 48; with_reducible refine (CBD.out _ _ _ hO10.marks).mono ?_; rintro e w11 ⟨rfl, hB11⟩; have hW11 := below_step hW10 hB11; have Y11 := Lib.hid (blk_step Y10.out hB11); have y0 := blk_cell Y11.out 0 (u := .int .i64 4) rfl; have y1 := blk_cell Y11.out 1 (u := .int .i64 (p : Int)) rfl; clear hB11)
          | (go_at_call 48; with_reducible refine (CHL.out _ _ _ (H.out.marks.below hW11)).mono ?_; rintro e w12 ⟨rfl, hB12⟩; have hW12 := below_step hW11 hB12; have Y12 := Lib.hid (blk_step Y11.out hB12); have y0 := blk_cell Y12.out 0 (u := .int .i64 4) rfl; have y1 := blk_cell Y12.out 1 (u := .int .i64 (p : Int)) rfl; clear hB12)
          | (go_at_call 48; with_reducible refine (CHM.out _ _ _ (K0.out.marks.below hW12)).mono ?_; rintro e w13 ⟨rfl, hB13⟩; have hW13 := below_step hW12 hB13; have Y13 := Lib.hid (blk_step Y12.out hB13); have y0 := blk_cell Y13.out 0 (u := .int .i64 4) rfl; have y1 := blk_cell Y13.out 1 (u := .int .i64 (p : Int)) rfl; clear hB13)
          | (go_at_call 50; with_reducible refine (JJ.out _ _ _ _ _ (H.out.marks.below hW13) (K0.out.marks.below hW13)).mono ?_; rintro e w14 ⟨A14, c14, rfl, hO14, hB14⟩; have hW14 := below_step hW13 hB14; have Y14 := Lib.hid (blk_step Y13.out hB14); have y0 := blk_cell Y14.out 0 (u := .int .i64 4) rfl; have y1 := blk_cell Y14.out 1 (u := .int .i64 (p : Int)) rfl; clear hB14)
          | (go_at_call 52; with_reducible refine (JB.out _ _ _ _ _ (H.out.marks.below hW14) (K0.out.marks.below hW14)).mono ?_; rintro e w15 ⟨A15, c15, rfl, hO15, hB15⟩; have hW15 := below_step hW14 hB15; have Y15 := Lib.hid (blk_step Y14.out hB15); have y0 := blk_cell Y15.out 0 (u := .int .i64 4) rfl; have y1 := blk_cell Y15.out 1 (u := .int .i64 (p : Int)) rfl; have hO14 := hO14.below hB15; clear hB15)
          | (go_at_call 54; with_reducible refine (JW.out _ _ _ _ _ (H.out.marks.below hW15) (K0.out.marks.below hW15)).mono ?_; rintro e w16 ⟨A16, c16, rfl, hO16, hB16⟩; have hW16 := below_step hW15 hB16; have Y16 := Lib.hid (blk_step Y15.out hB16); have y0 := blk_cell Y16.out 0 (u := .int .i64 4) rfl; have y1 := blk_cell Y16.out 1 (u := .int .i64 (p : Int)) rfl; have hO14 := hO14.below hB16; have hO15 := hO15.below hB16; clear hB16)
          | (go_at_call 56; with_reducible refine (JR.out _ _ _ (H.out.marks.below hW16)).mono ?_; rintro e w17 ⟨A17, c17, rfl, hO17, hB17⟩; have hW17 := below_step hW16 hB17; have Y17 := Lib.hid (blk_step Y16.out hB17); have y0 := blk_cell Y17.out 0 (u := .int .i64 4) rfl; have y1 := blk_cell Y17.out 1 (u := .int .i64 (p : Int)) rfl; have hO14 := hO14.below hB17; have hO15 := hO15.below hB17; have hO16 := hO16.below hB17; clear hB17)
          | (go_at_call 64; with_reducible refine (D1.out _ _ _ hO14.marks).mono ?_; rintro e w18 ⟨rfl, hB18⟩; have hW18 := below_step hW17 hB18; have Y18 := Lib.hid (blk_step Y17.out hB18); have y0 := blk_cell Y18.out 0 (u := .int .i64 4) rfl; have y1 := blk_cell Y18.out 1 (u := .int .i64 (p : Int)) rfl; have hO15 := hO15.below hB18; have hO16 := hO16.below hB18; have hO17 := hO17.below hB18; clear hB18)
          | (go_at_call 64; with_reducible refine (D2.out _ _ _ hO15.marks).mono ?_; rintro e w19 ⟨rfl, hB19⟩; have hW19 := below_step hW18 hB19; have Y19 := Lib.hid (blk_step Y18.out hB19); have y0 := blk_cell Y19.out 0 (u := .int .i64 4) rfl; have y1 := blk_cell Y19.out 1 (u := .int .i64 (p : Int)) rfl; have hO16 := hO16.below hB19; have hO17 := hO17.below hB19; clear hB19)
          | (go_at_call 64; with_reducible refine (D3.out _ _ _ hO16.marks).mono ?_; rintro e w20 ⟨rfl, hB20⟩; have hW20 := below_step hW19 hB20; have Y20 := Lib.hid (blk_step Y19.out hB20); have y0 := blk_cell Y20.out 0 (u := .int .i64 4) rfl; have y1 := blk_cell Y20.out 1 (u := .int .i64 (p : Int)) rfl; have hO17 := hO17.below hB20; clear hB20)
          | (go_at_call 64; with_reducible refine (D4.out _ _ _ hO17.marks).mono ?_; rintro e w21 ⟨rfl, hB21⟩; have hW21 := below_step hW20 hB21; clear hB21)
          | (go_at_call 28; refine (sane_any _).mono ?_; rintro e w22 ⟨rfl, hB22⟩)
          | fail)
        go_ret
        exact ⟨rfl, below_step hW21 hB22⟩
      · have CBD := Lib.hid (CBX false h0 (by have := HR.out; rw [riP, ← HR.out]; simp; omega))
        rw [h0] at cR
        have CR := Lib.hid cR
        have t5 : ¬ 1 + (v : Int) ≤ (R : Int) := by omega
        clear h0 hr cR CBX
        go_wp2_with (first
          | (go_at_call 60; with_reducible refine (CR.out _).mono ?_; rintro e w10 ⟨A10, c10, rfl, hO10, hB10⟩; have hW10 := below_step hW9 hB10; have Y10 := Lib.hid (blk_step Y9.out hB10); have y0 := blk_cell Y10.out 0 (u := .int .i64 4) rfl; have y1 := blk_cell Y10.out 1 (u := .int .i64 (p : Int)) rfl; clear hB10)
          | (go_at_call 48; with_reducible refine (CBD.out _ _ _ hO10.marks).mono ?_; rintro e w11 ⟨rfl, hB11⟩; have hW11 := below_step hW10 hB11; have Y11 := Lib.hid (blk_step Y10.out hB11); have y0 := blk_cell Y11.out 0 (u := .int .i64 4) rfl; have y1 := blk_cell Y11.out 1 (u := .int .i64 (p : Int)) rfl; clear hB11)
          | (go_at_call 48; with_reducible refine (CHL.out _ _ _ (H.out.marks.below hW11)).mono ?_; rintro e w12 ⟨rfl, hB12⟩; have hW12 := below_step hW11 hB12; have Y12 := Lib.hid (blk_step Y11.out hB12); have y0 := blk_cell Y12.out 0 (u := .int .i64 4) rfl; have y1 := blk_cell Y12.out 1 (u := .int .i64 (p : Int)) rfl; clear hB12)
          | (go_at_call 48; with_reducible refine (CHM.out _ _ _ (K0.out.marks.below hW12)).mono ?_; rintro e w13 ⟨rfl, hB13⟩; have hW13 := below_step hW12 hB13; have Y13 := Lib.hid (blk_step Y12.out hB13); have y0 := blk_cell Y13.out 0 (u := .int .i64 4) rfl; have y1 := blk_cell Y13.out 1 (u := .int .i64 (p : Int)) rfl; clear hB13)
          | (go_at_call 50; with_reducible refine (JJ.out _ _ _ _ _ (H.out.marks.below hW13) (K0.out.marks.below hW13)).mono ?_; rintro e w14 ⟨A14, c14, rfl, hO14, hB14⟩; have hW14 := below_step hW13 hB14; have Y14 := Lib.hid (blk_step Y13.out hB14); have y0 := blk_cell Y14.out 0 (u := .int .i64 4) rfl; have y1 := blk_cell Y14.out 1 (u := .int .i64 (p : Int)) rfl; clear hB14)
          | (go_at_call 52; with_reducible refine (JB.out _ _ _ _ _ (H.out.marks.below hW14) (K0.out.marks.below hW14)).mono ?_; rintro e w15 ⟨A15, c15, rfl, hO15, hB15⟩; have hW15 := below_step hW14 hB15; have Y15 := Lib.hid (blk_step Y14.out hB15); have y0 := blk_cell Y15.out 0 (u := .int .i64 4) rfl; have y1 := blk_cell Y15.out 1 (u := .int .i64 (p : Int)) rfl; have hO14 := hO14.below hB15; clear hB15)
          | (go_at_call 54; with_reducible refine (JW.out _ _ _ _ _ (H.out.marks.below hW15) (K0.out.marks.below hW15)).mono ?_; rintro e w16 ⟨A16, c16, rfl, hO16, hB16⟩; have hW16 := below_step hW15 hB16; have Y16 := Lib.hid (blk_step Y15.out hB16); have y0 := blk_cell Y16.out 0 (u := .int .i64 4) rfl; have y1 := blk_cell Y16.out 1 (u := .int .i64 (p : Int)) rfl; have hO14 := hO14.below hB16; have hO15 := hO15.below hB16; clear hB16)
          | (go_at_call 56; with_reducible refine (JR.out _ _ _ (H.out.marks.below hW16)).mono ?_; rintro e w17 ⟨A17, c17, rfl, hO17, hB17⟩; have hW17 := below_step hW16 hB17; have Y17 := Lib.hid (blk_step Y16.out hB17); have y0 := blk_cell Y17.out 0 (u := .int .i64 4) rfl; have y1 := blk_cell Y17.out 1 (u := .int .i64 (p : Int)) rfl; have hO14 := hO14.below hB17; have hO15 := hO15.below hB17; have hO16 := hO16.below hB17; clear hB17)
          | (go_at_call 64; with_reducible refine (D1.out _ _ _ hO14.marks).mono ?_; rintro e w18 ⟨rfl, hB18⟩; have hW18 := below_step hW17 hB18; have Y18 := Lib.hid (blk_step Y17.out hB18); have y0 := blk_cell Y18.out 0 (u := .int .i64 4) rfl; have y1 := blk_cell Y18.out 1 (u := .int .i64 (p : Int)) rfl; have hO15 := hO15.below hB18; have hO16 := hO16.below hB18; have hO17 := hO17.below hB18; clear hB18)
          | (go_at_call 64; with_reducible refine (D2.out _ _ _ hO15.marks).mono ?_; rintro e w19 ⟨rfl, hB19⟩; have hW19 := below_step hW18 hB19; have Y19 := Lib.hid (blk_step Y18.out hB19); have y0 := blk_cell Y19.out 0 (u := .int .i64 4) rfl; have y1 := blk_cell Y19.out 1 (u := .int .i64 (p : Int)) rfl; have hO16 := hO16.below hB19; have hO17 := hO17.below hB19; clear hB19)
          | (go_at_call 64; with_reducible refine (D3.out _ _ _ hO16.marks).mono ?_; rintro e w20 ⟨rfl, hB20⟩; have hW20 := below_step hW19 hB20; have Y20 := Lib.hid (blk_step Y19.out hB20); have y0 := blk_cell Y20.out 0 (u := .int .i64 4) rfl; have y1 := blk_cell Y20.out 1 (u := .int .i64 (p : Int)) rfl; have hO17 := hO17.below hB20; clear hB20)
          | (go_at_call 64; with_reducible refine (D4.out _ _ _ hO17.marks).mono ?_; rintro e w21 ⟨rfl, hB21⟩; have hW21 := below_step hW20 hB21; clear hB21)
          | (go_at_call 28; refine (sane_any _).mono ?_; rintro e w22 ⟨rfl, hB22⟩)
          | fail)
        go_ret
        exact ⟨rfl, below_step hW21 hB22⟩
    · rw [h4, hnil] at cR
      have CR := Lib.hid cR
      clear h4 hnil cR CBX
      go_wp2_with (first
        | (go_at_call 60; with_reducible refine (CR.out _).mono ?_; rintro e w10 ⟨A10, c10, rfl, hO10, hB10⟩; have hW10 := below_step hW9 hB10; have Y10 := Lib.hid (blk_step Y9.out hB10); have y0 := blk_cell Y10.out 0 (u := .int .i64 4) rfl; have y1 := blk_cell Y10.out 1 (u := .int .i64 (p : Int)) rfl; clear hB10)
        | (go_at_call 48; with_reducible refine (CHL.out _ _ _ (H.out.marks.below hW10)).mono ?_; rintro e w12 ⟨rfl, hB12⟩; have hW12 := below_step hW10 hB12; have Y12 := Lib.hid (blk_step Y10.out hB12); have y0 := blk_cell Y12.out 0 (u := .int .i64 4) rfl; have y1 := blk_cell Y12.out 1 (u := .int .i64 (p : Int)) rfl; clear hB12)
        | (go_at_call 48; with_reducible refine (CHM.out _ _ _ (K0.out.marks.below hW12)).mono ?_; rintro e w13 ⟨rfl, hB13⟩; have hW13 := below_step hW12 hB13; have Y13 := Lib.hid (blk_step Y12.out hB13); have y0 := blk_cell Y13.out 0 (u := .int .i64 4) rfl; have y1 := blk_cell Y13.out 1 (u := .int .i64 (p : Int)) rfl; clear hB13)
        | (go_at_call 50; with_reducible refine (JJ.out _ _ _ _ _ (H.out.marks.below hW13) (K0.out.marks.below hW13)).mono ?_; rintro e w14 ⟨A14, c14, rfl, hO14, hB14⟩; have hW14 := below_step hW13 hB14; have Y14 := Lib.hid (blk_step Y13.out hB14); have y0 := blk_cell Y14.out 0 (u := .int .i64 4) rfl; have y1 := blk_cell Y14.out 1 (u := .int .i64 (p : Int)) rfl; clear hB14)
        | (go_at_call 52; with_reducible refine (JB.out _ _ _ _ _ (H.out.marks.below hW14) (K0.out.marks.below hW14)).mono ?_; rintro e w15 ⟨A15, c15, rfl, hO15, hB15⟩; have hW15 := below_step hW14 hB15; have Y15 := Lib.hid (blk_step Y14.out hB15); have y0 := blk_cell Y15.out 0 (u := .int .i64 4) rfl; have y1 := blk_cell Y15.out 1 (u := .int .i64 (p : Int)) rfl; have hO14 := hO14.below hB15; clear hB15)
        | (go_at_call 54; with_reducible refine (JW.out _ _ _ _ _ (H.out.marks.below hW15) (K0.out.marks.below hW15)).mono ?_; rintro e w16 ⟨A16, c16, rfl, hO16, hB16⟩; have hW16 := below_step hW15 hB16; have Y16 := Lib.hid (blk_step Y15.out hB16); have y0 := blk_cell Y16.out 0 (u := .int .i64 4) rfl; have y1 := blk_cell Y16.out 1 (u := .int .i64 (p : Int)) rfl; have hO14 := hO14.below hB16; have hO15 := hO15.below hB16; clear hB16)
        | (go_at_call 56; with_reducible refine (JR.out _ _ _ (H.out.marks.below hW16)).mono ?_; rintro e w17 ⟨A17, c17, rfl, hO17, hB17⟩; have hW17 := below_step hW16 hB17; have Y17 := Lib.hid (blk_step Y16.out hB17); have y0 := blk_cell Y17.out 0 (u := .int .i64 4) rfl; have y1 := blk_cell Y17.out 1 (u := .int .i64 (p : Int)) rfl; have hO14 := hO14.below hB17; have hO15 := hO15.below hB17; have hO16 := hO16.below hB17; clear hB17)
        | (go_at_call 64; with_reducible refine (D1.out _ _ _ hO14.marks).mono ?_; rintro e w18 ⟨rfl, hB18⟩; have hW18 := below_step hW17 hB18; have Y18 := Lib.hid (blk_step Y17.out hB18); have y0 := blk_cell Y18.out 0 (u := .int .i64 4) rfl; have y1 := blk_cell Y18.out 1 (u := .int .i64 (p : Int)) rfl; have hO15 := hO15.below hB18; have hO16 := hO16.below hB18; have hO17 := hO17.below hB18; clear hB18)
        | (go_at_call 64; with_reducible refine (D2.out _ _ _ hO15.marks).mono ?_; rintro e w19 ⟨rfl, hB19⟩; have hW19 := below_step hW18 hB19; have Y19 := Lib.hid (blk_step Y18.out hB19); have y0 := blk_cell Y19.out 0 (u := .int .i64 4) rfl; have y1 := blk_cell Y19.out 1 (u := .int .i64 (p : Int)) rfl; have hO16 := hO16.below hB19; have hO17 := hO17.below hB19; clear hB19)
        | (go_at_call 64; with_reducible refine (D3.out _ _ _ hO16.marks).mono ?_; rintro e w20 ⟨rfl, hB20⟩; have hW20 := below_step hW19 hB20; have Y20 := Lib.hid (blk_step Y19.out hB20); have y0 := blk_cell Y20.out 0 (u := .int .i64 4) rfl; have y1 := blk_cell Y20.out 1 (u := .int .i64 (p : Int)) rfl; have hO17 := hO17.below hB20; clear hB20)
        | (go_at_call 64; with_reducible refine (D4.out _ _ _ hO17.marks).mono ?_; rintro e w21 ⟨rfl, hB21⟩; have hW21 := below_step hW20 hB21; clear hB21)
        | (go_at_call 28; refine (sane_any _).mono ?_; rintro e w22 ⟨rfl, hB22⟩)
        | fail)
      go_ret
      exact ⟨rfl, below_step hW21 hB22⟩
set_option maxRecDepth 100000 in
set_option maxHeartbeats 2000000 in
theorem top_Blt (l m : List (Int × Int)) (p F Xc Yc N R P2 u v : Nat) (x0 x1 x2 : Int) (A : Option Addr) (c : Nat) (B : Option Addr) (d : Nat) (w : World) (H : Hid (Clk w A c l)) (K0 : Hid (Clk w B d m))
    (hlong1 : ¬ 1000 < l.length) (hlong2 : ¬ 1000 < m.length) (VL : Hid (vaB l = true)) (VM : Hid (vaB m = true))
    (hx0 : 0 ≤ x0 ∧ x0 ≤ 65535) (hx1 : 0 ≤ x1 ∧ x1 ≤ 65535) (hx2 : 0 ≤ x2 ∧ x2 ≤ 65535) (hp : p < 3072) (EP : Hid (x0 % 3072 = (p : Int)))
    (C2 : Hid (∀ W, Calls Try.prog 20 #[.int .i64 4, .int .i64 (p : Int)] W fun e w' => e = .returned (.tuple #[.int .i64 (F : Int), .int .i64 (Xc : Int), .int .i64 (Yc : Int), .int .i64 0]) ∧ Below W.heap.size W w'))
    (C3 : Hid (∀ W, Calls Try.prog 29 #[.int .i64 4, .int .i64 (F : Int), .int .i64 (Xc : Int), .int .i64 (Yc : Int)] W fun e w' => e = .returned (.tuple #[.int .i64 (p : Int), .int .i64 0]) ∧ Below W.heap.size W w'))
    (C4 : Hid (∀ W, Calls Try.prog 22 #[.int .i64 4, .int .i64 (p : Int)] W fun e w' => e = .returned (.tuple #[.int .i64 (N : Int), .int .i64 0]) ∧ Below W.heap.size W w'))
    (C5 : Hid (∀ W, Calls Try.prog 24 #[.int .i64 4, .int .i64 (N : Int)] W fun e w' => e = .returned (.tuple #[.int .i64 (p : Int), .int .i64 0]) ∧ Below W.heap.size W w'))
    (EU : Hid (x1 % 63 = (u : Int))) (EV : Hid (x2 % 63 = (v : Int))) (hu : u < 63) (hv : v < 63) (HR : Hid (R = RT 4 p)) (hx12 : ¬ x1 ≤ x2) (hc : u < v) (bm : Bool) (BM : Hid (inL m p = bm))
    (C7 : Hid (∀ W, Calls Try.prog 26 #[.int .i64 4, .int .i64 (p : Int)] W fun e w' => e = .returned (.tuple #[.int .i64 (R : Int), .int .i64 (P2 : Int), .int .i64 0]) ∧ Below W.heap.size W w')) :
    Calls Try.prog 17 #[.slice A l.length c, .slice B m.length d, .agg #[.int .u16 x0, .int .u16 x1, .int .u16 x2]] w fun e w' => e = .returned (.bool true) ∧ Below w.heap.size w w' := by
  obtain ⟨a0, a1⟩ := hx0
  obtain ⟨b0, b1⟩ := hx1
  obtain ⟨d0, d1⟩ := hx2
  have t1 : decide ((1000 : Int) < (l.length : Int)) = false := decide_eq_false (by omega)
  have t2 : decide ((1000 : Int) < (m.length : Int)) = false := decide_eq_false (by omega)
  have hW0 : Below w.heap.size w (w.alloc (.cells #[.int .u16 x0, .int .u16 x1, .int .u16 x2] 66)) := Below.alloc (Below.refl _ _) (Nat.le_refl _) _
  have X0 : Hid ((w.alloc (.cells #[.int .u16 x0, .int .u16 x1, .int .u16 x2] 66)).heap[w.heap.size]? = some (.cells #[.int .u16 x0, .int .u16 x1, .int .u16 x2] 66 (0, 0))) := Lib.hid (heap_alloc_new w _)
  have CRG : Hid (∀ a b : Nat, 1 ≤ a → a ≤ b → b ≤ 63 → ∀ W, Calls Try.prog 60 #[.int .i64 (a : Int), .int .i64 (b : Int)] W fun e w' => ∃ A' c', e = .returned (.tuple #[.slice A' (stL (riP a b)).length c', .int .i64 (stE (riP a b))]) ∧ Clk w' A' c' (stL (riP a b)) ∧ Below W.heap.size W w') := Lib.hid (fun a b h1 h2 h3 W => skyRings_yes a b h1 h2 h3 W)
  have CHG : Hid (∀ (k : List (Int × Int)) (b : Bool), vaB k = true → k.length ≤ maxLen → inL k p = b → ∀ (A : Option Addr) (c : Nat) (W : World), Marks W A k → Calls Try.prog 48 #[.slice A k.length c, .agg #[.int .i64 4, .int .i64 (p : Int)]] W fun e w' => e = .returned (.tuple #[.bool b, .int .i64 0]) ∧ Below W.heap.size W w') :=
    Lib.hid (fun k b hk hl hb A c W hM => (skyHas_any k A c 4 (p : Int) W hM hl).mono fun _ _ h => ⟨by rw [h.1, (ha_four hk hp).1, (ha_four hk hp).2, hb], h.2⟩)
  have CDG : Hid (∀ (P : Nat → Bool) (b : Bool), P p = b → ∀ (A : Option Addr) (c : Nat) (W : World), Marks W A (stL P) → Calls Try.prog 64 #[.slice A (stL P).length c, .int .i64 (stE P), .agg #[.int .i64 4, .int .i64 (p : Int)], .bool b] W fun e w' => e = .returned (.bool true) ∧ Below W.heap.size W w') :=
    Lib.hid (fun P b hb A c W hM => holds_any P p hp A c b hb W hM)
  have JJ : Hid (Two 50 l m (stL (mxP orB l m)) (stE (mxP orB l m))) := Lib.hid (by have := two_join H.out.len K0.out.len; rwa [(mx_st VL.out VM.out).1, (mx_st VL.out VM.out).2] at this)
  have JB : Hid (Two 52 l m (stL (mxP andB l m)) (stE (mxP andB l m))) := Lib.hid (by have := two_both H.out.len K0.out.len; rwa [(mx_st VL.out VM.out).1, (mx_st VL.out VM.out).2] at this)
  have JW : Hid (Two 54 l m (stL (mxP lessB l m)) (stE (mxP lessB l m))) := Lib.hid (by have := two_less H.out.len K0.out.len; rwa [(mx_st VL.out VM.out).1, (mx_st VL.out VM.out).2] at this)
  have JR : Hid (One 56 l (stL (rsP l)) (stE (rsP l))) := Lib.hid (by have := one_rest H.out.len; rwa [(rs_st VL.out).1, (rs_st VL.out).2] at this)
  clear hlong1 hlong2
  go_enter Try.func17, Try.ntmps17
  go_wp2_with (first
    | (go_at_call 40; refine (lawLong_any _ _ _ _ _).mono ?_; rintro e w' ⟨rfl, rfl⟩)
    | (go_at_call 44; with_reducible refine (refValid_any l _ _ _ (H.out.marks.below hW0) H.out.len).mono ?_; rintro e w1 ⟨he, hB1⟩; rw [VL.out] at he; subst he; have hW1 := below_step hW0 hB1; have X1 := Lib.hid (blk_step X0.out hB1); clear hB1)
    | (go_at_call 44; with_reducible refine (refValid_any m _ _ _ (K0.out.marks.below hW1) K0.out.len).mono ?_; rintro e w2 ⟨he, hB2⟩; rw [VM.out] at he; subst he; have hW2 := below_step hW1 hB2; have X2 := Lib.hid (blk_step X1.out hB2); clear hB2; have f0 := cell_of_row w2 _ 0 _ _ _ X2.out; simp at f0)
    | fail)
  rw [EP.out]
  clear f0
  go_wp2_with (first
    | (go_at_call 22; with_reducible refine (C4.out _).mono ?_; rintro e w3 ⟨rfl, hB3⟩; have hW3 := below_step hW2 hB3; have X3 := Lib.hid (blk_step X2.out hB3); clear hB3)
    | (go_at_call 24; with_reducible refine (C5.out _).mono ?_; rintro e w4 ⟨rfl, hB4⟩; have hW4 := below_step hW3 hB4; have X4 := Lib.hid (blk_step X3.out hB4); clear hB4)
    | (go_at_call 20; with_reducible refine (C2.out _).mono ?_; rintro e w5 ⟨rfl, hB5⟩; have hW5 := below_step hW4 hB5; have X5 := Lib.hid (blk_step X4.out hB5); clear hB5)
    | (go_at_call 29; with_reducible refine (C3.out _).mono ?_; rintro e w6 ⟨rfl, hB6⟩; have hW6 := below_step hW5 hB6; have X6 := Lib.hid (blk_step X5.out hB6); clear hB6)
    | (go_at_call 26; with_reducible refine (C7.out _).mono ?_; rintro e w7 ⟨rfl, hB7⟩; have hW7 := below_step hW6 hB7; have X7 := Lib.hid (blk_step X6.out hB7); clear hB7)
    | fail)
  obtain ⟨W8, e8, hW8, X8, Y8⟩ : ∃ W8, w7.alloc (.cells #[.int .i64 4, .int .i64 (p : Int)] 43) = W8 ∧ Below w.heap.size w W8 ∧ Hid (W8.heap[w.heap.size]? = some (.cells #[.int .u16 x0, .int .u16 x1, .int .u16 x2] 66 (0, 0))) ∧ Hid (W8.heap[w7.heap.size]? = some (.cells #[.int .i64 4, .int .i64 (p : Int)] 43 (0, 0))) :=
    ⟨_, rfl, Below.trans hW7 (Below.alloc (Below.refl _ _) hW7.size _), Lib.hid (blk_step X7.out (Below.alloc (Below.refl _ _) (Nat.le_refl _) _)), Lib.hid (heap_alloc_new w7 _)⟩
  rw [e8]
  clear e8 C2 C3 C4 C5 C7
  obtain ⟨g, hg⟩ : ∃ g, w7.heap.size = g := ⟨_, rfl⟩
  rw [hg] at Y8
  rw [hg]
  clear hg
  have q1 := cell_of_row W8 _ 1 _ _ _ X8.out
  have q2 := cell_of_row W8 _ 2 _ _ _ X8.out
  simp at q1 q2
  go_quiet (fail)
  rw [EU.out, EV.out]
  obtain ⟨W9, e9, hW9, Y9⟩ : ∃ W9, W8.drewN nq = W9 ∧ Below w.heap.size w W9 ∧ Hid (W9.heap[g]? = some (.cells #[.int .i64 4, .int .i64 (p : Int)] 43 (0, 0))) := ⟨_, rfl, below_drewN hW8 _, Y8⟩
  rw [e9]
  clear e9 X8 Y8 q1 q2 hW8
  have t3 : (u : Int) ≤ v := by omega
  have t4 : ¬ (v : Int) ≤ u := by omega
  have cR := fun W => CRG.out (1 + u) (1 + v) (by omega) (by omega) (by omega) W
  rw [show ((1 + u : Nat) : Int) = 1 + (u : Int) from by omega, show ((1 + v : Nat) : Int) = 1 + (v : Int) from by omega] at cR
  have CBX := fun (b : Bool) (h0 : stE (riP (1 + u) (1 + v)) = 0) (hb : riP (1 + u) (1 + v) p = b) => CHG.out (stL (riP (1 + u) (1 + v))) b (st_valid _) (stL_max _) (by rw [st_in h0 hp, hb])
  cases hbl : inL l p with
  | true =>
    have CHL := Lib.hid (CHG.out l true VL.out H.out.len hbl)
    have CHM := Lib.hid (CHG.out m bm VM.out K0.out.len BM.out)
    have D1 := Lib.hid (CDG.out (mxP orB l m) true (by rw [mxP, orB, hbl, BM.out]; rfl))
    have D2 := Lib.hid (CDG.out (mxP andB l m) bm (by rw [mxP, andB, hbl, BM.out]; rfl))
    have D3 := Lib.hid (CDG.out (mxP lessB l m) (!bm) (by rw [mxP, lessB, hbl, BM.out]; rfl))
    have D4 := Lib.hid (CDG.out (rsP l) false (by rw [rsP, hbl]; rfl))
    clear hbl
    rcases st_cases (riP (1 + u) (1 + v)) with h0 | ⟨h4, hnil⟩
    · by_cases hr : 1 + u ≤ R
      · have CBD := Lib.hid (CBX (decide ((R : Int) ≤ 1 + (v : Int))) h0 (by have := HR.out; rw [riP, ← HR.out, Bool.eq_iff_iff]; simp; omega))
        rw [h0] at cR
        have CR := Lib.hid cR
        have t5 : 1 + (u : Int) ≤ (R : Int) := by omega
        clear h0 hr cR CBX
        go_wp2_with (first
          | (go_at_call 60; with_reducible refine (CR.out _).mono ?_; rintro e w10 ⟨A10, c10, rfl, hO10, hB10⟩; have hW10 := below_step hW9 hB10; have Y10 := Lib.hid (blk_step Y9.out hB10); have y0 := blk_cell Y10.out 0 (u := .int .i64 4) rfl; have y1 := blk_cell Y10.out 1 (u := .int .i64 (p : Int)) rfl; clear hB10)
          | (go_at_call 48; with_reducible refine (CBD.out _ _ _ hO10.marks).mono ?_; rintro e w11 ⟨rfl, hB11⟩; have hW11 := below_step hW10 hB11; have Y11 := Lib.hid (blk_step Y10.out hB11); have y0 := blk_cell Y11.out 0 (u := .int .i64 4) rfl; have y1 := blk_cell Y11.out 1 (u := .int .i64 (p : Int)) rfl; clear hB11)
          | (go_at_call 48; with_reducible refine (CHL.out _ _ _ (H.out.marks.below hW11)).mono ?_; rintro e w12 ⟨rfl, hB12⟩; have hW12 := below_step hW11 hB12; have Y12 := Lib.hid (blk_step Y11.out hB12); have y0 := blk_cell Y12.out 0 (u := .int .i64 4) rfl; have y1 := blk_cell Y12.out 1 (u := .int .i64 (p : Int)) rfl; clear hB12)
          | (go_at_call 48; with_reducible refine (CHM.out _ _ _ (K0.out.marks.below hW12)).mono ?_; rintro e w13 ⟨rfl, hB13⟩; have hW13 := below_step hW12 hB13; have Y13 := Lib.hid (blk_step Y12.out hB13); have y0 := blk_cell Y13.out 0 (u := .int .i64 4) rfl; have y1 := blk_cell Y13.out 1 (u := .int .i64 (p : Int)) rfl; clear hB13)
          | (go_at_call 50; with_reducible refine (JJ.out _ _ _ _ _ (H.out.marks.below hW13) (K0.out.marks.below hW13)).mono ?_; rintro e w14 ⟨A14, c14, rfl, hO14, hB14⟩; have hW14 := below_step hW13 hB14; have Y14 := Lib.hid (blk_step Y13.out hB14); have y0 := blk_cell Y14.out 0 (u := .int .i64 4) rfl; have y1 := blk_cell Y14.out 1 (u := .int .i64 (p : Int)) rfl; clear hB14)
          | (go_at_call 52; with_reducible refine (JB.out _ _ _ _ _ (H.out.marks.below hW14) (K0.out.marks.below hW14)).mono ?_; rintro e w15 ⟨A15, c15, rfl, hO15, hB15⟩; have hW15 := below_step hW14 hB15; have Y15 := Lib.hid (blk_step Y14.out hB15); have y0 := blk_cell Y15.out 0 (u := .int .i64 4) rfl; have y1 := blk_cell Y15.out 1 (u := .int .i64 (p : Int)) rfl; have hO14 := hO14.below hB15; clear hB15)
          | (go_at_call 54; with_reducible refine (JW.out _ _ _ _ _ (H.out.marks.below hW15) (K0.out.marks.below hW15)).mono ?_; rintro e w16 ⟨A16, c16, rfl, hO16, hB16⟩; have hW16 := below_step hW15 hB16; have Y16 := Lib.hid (blk_step Y15.out hB16); have y0 := blk_cell Y16.out 0 (u := .int .i64 4) rfl; have y1 := blk_cell Y16.out 1 (u := .int .i64 (p : Int)) rfl; have hO14 := hO14.below hB16; have hO15 := hO15.below hB16; clear hB16)
          | (go_at_call 56; with_reducible refine (JR.out _ _ _ (H.out.marks.below hW16)).mono ?_; rintro e w17 ⟨A17, c17, rfl, hO17, hB17⟩; have hW17 := below_step hW16 hB17; have Y17 := Lib.hid (blk_step Y16.out hB17); have y0 := blk_cell Y17.out 0 (u := .int .i64 4) rfl; have y1 := blk_cell Y17.out 1 (u := .int .i64 (p : Int)) rfl; have hO14 := hO14.below hB17; have hO15 := hO15.below hB17; have hO16 := hO16.below hB17; clear hB17)
          | (go_at_call 64; with_reducible refine (D1.out _ _ _ hO14.marks).mono ?_; rintro e w18 ⟨rfl, hB18⟩; have hW18 := below_step hW17 hB18; have Y18 := Lib.hid (blk_step Y17.out hB18); have y0 := blk_cell Y18.out 0 (u := .int .i64 4) rfl; have y1 := blk_cell Y18.out 1 (u := .int .i64 (p : Int)) rfl; have hO15 := hO15.below hB18; have hO16 := hO16.below hB18; have hO17 := hO17.below hB18; clear hB18)
          | (go_at_call 64; with_reducible refine (D2.out _ _ _ hO15.marks).mono ?_; rintro e w19 ⟨rfl, hB19⟩; have hW19 := below_step hW18 hB19; have Y19 := Lib.hid (blk_step Y18.out hB19); have y0 := blk_cell Y19.out 0 (u := .int .i64 4) rfl; have y1 := blk_cell Y19.out 1 (u := .int .i64 (p : Int)) rfl; have hO16 := hO16.below hB19; have hO17 := hO17.below hB19; clear hB19)
          | (go_at_call 64; with_reducible refine (D3.out _ _ _ hO16.marks).mono ?_; rintro e w20 ⟨rfl, hB20⟩; have hW20 := below_step hW19 hB20; have Y20 := Lib.hid (blk_step Y19.out hB20); have y0 := blk_cell Y20.out 0 (u := .int .i64 4) rfl; have y1 := blk_cell Y20.out 1 (u := .int .i64 (p : Int)) rfl; have hO17 := hO17.below hB20; clear hB20)
          | (go_at_call 64; with_reducible refine (D4.out _ _ _ hO17.marks).mono ?_; rintro e w21 ⟨rfl, hB21⟩; have hW21 := below_step hW20 hB21; clear hB21)
          | (go_at_call 28; refine (sane_any _).mono ?_; rintro e w22 ⟨rfl, hB22⟩)
          | fail)
        go_ret
        exact ⟨rfl, below_step hW21 hB22⟩
      · have CBD := Lib.hid (CBX false h0 (by have := HR.out; rw [riP, ← HR.out]; simp; omega))
        rw [h0] at cR
        have CR := Lib.hid cR
        have t5 : ¬ 1 + (u : Int) ≤ (R : Int) := by omega
        clear h0 hr cR CBX
        go_wp2_with (first
          | (go_at_call 60; with_reducible refine (CR.out _).mono ?_; rintro e w10 ⟨A10, c10, rfl, hO10, hB10⟩; have hW10 := below_step hW9 hB10; have Y10 := Lib.hid (blk_step Y9.out hB10); have y0 := blk_cell Y10.out 0 (u := .int .i64 4) rfl; have y1 := blk_cell Y10.out 1 (u := .int .i64 (p : Int)) rfl; clear hB10)
          | (go_at_call 48; with_reducible refine (CBD.out _ _ _ hO10.marks).mono ?_; rintro e w11 ⟨rfl, hB11⟩; have hW11 := below_step hW10 hB11; have Y11 := Lib.hid (blk_step Y10.out hB11); have y0 := blk_cell Y11.out 0 (u := .int .i64 4) rfl; have y1 := blk_cell Y11.out 1 (u := .int .i64 (p : Int)) rfl; clear hB11)
          | (go_at_call 48; with_reducible refine (CHL.out _ _ _ (H.out.marks.below hW11)).mono ?_; rintro e w12 ⟨rfl, hB12⟩; have hW12 := below_step hW11 hB12; have Y12 := Lib.hid (blk_step Y11.out hB12); have y0 := blk_cell Y12.out 0 (u := .int .i64 4) rfl; have y1 := blk_cell Y12.out 1 (u := .int .i64 (p : Int)) rfl; clear hB12)
          | (go_at_call 48; with_reducible refine (CHM.out _ _ _ (K0.out.marks.below hW12)).mono ?_; rintro e w13 ⟨rfl, hB13⟩; have hW13 := below_step hW12 hB13; have Y13 := Lib.hid (blk_step Y12.out hB13); have y0 := blk_cell Y13.out 0 (u := .int .i64 4) rfl; have y1 := blk_cell Y13.out 1 (u := .int .i64 (p : Int)) rfl; clear hB13)
          | (go_at_call 50; with_reducible refine (JJ.out _ _ _ _ _ (H.out.marks.below hW13) (K0.out.marks.below hW13)).mono ?_; rintro e w14 ⟨A14, c14, rfl, hO14, hB14⟩; have hW14 := below_step hW13 hB14; have Y14 := Lib.hid (blk_step Y13.out hB14); have y0 := blk_cell Y14.out 0 (u := .int .i64 4) rfl; have y1 := blk_cell Y14.out 1 (u := .int .i64 (p : Int)) rfl; clear hB14)
          | (go_at_call 52; with_reducible refine (JB.out _ _ _ _ _ (H.out.marks.below hW14) (K0.out.marks.below hW14)).mono ?_; rintro e w15 ⟨A15, c15, rfl, hO15, hB15⟩; have hW15 := below_step hW14 hB15; have Y15 := Lib.hid (blk_step Y14.out hB15); have y0 := blk_cell Y15.out 0 (u := .int .i64 4) rfl; have y1 := blk_cell Y15.out 1 (u := .int .i64 (p : Int)) rfl; have hO14 := hO14.below hB15; clear hB15)
          | (go_at_call 54; with_reducible refine (JW.out _ _ _ _ _ (H.out.marks.below hW15) (K0.out.marks.below hW15)).mono ?_; rintro e w16 ⟨A16, c16, rfl, hO16, hB16⟩; have hW16 := below_step hW15 hB16; have Y16 := Lib.hid (blk_step Y15.out hB16); have y0 := blk_cell Y16.out 0 (u := .int .i64 4) rfl; have y1 := blk_cell Y16.out 1 (u := .int .i64 (p : Int)) rfl; have hO14 := hO14.below hB16; have hO15 := hO15.below hB16; clear hB16)
          | (go_at_call 56; with_reducible refine (JR.out _ _ _ (H.out.marks.below hW16)).mono ?_; rintro e w17 ⟨A17, c17, rfl, hO17, hB17⟩; have hW17 := below_step hW16 hB17; have Y17 := Lib.hid (blk_step Y16.out hB17); have y0 := blk_cell Y17.out 0 (u := .int .i64 4) rfl; have y1 := blk_cell Y17.out 1 (u := .int .i64 (p : Int)) rfl; have hO14 := hO14.below hB17; have hO15 := hO15.below hB17; have hO16 := hO16.below hB17; clear hB17)
          | (go_at_call 64; with_reducible refine (D1.out _ _ _ hO14.marks).mono ?_; rintro e w18 ⟨rfl, hB18⟩; have hW18 := below_step hW17 hB18; have Y18 := Lib.hid (blk_step Y17.out hB18); have y0 := blk_cell Y18.out 0 (u := .int .i64 4) rfl; have y1 := blk_cell Y18.out 1 (u := .int .i64 (p : Int)) rfl; have hO15 := hO15.below hB18; have hO16 := hO16.below hB18; have hO17 := hO17.below hB18; clear hB18)
          | (go_at_call 64; with_reducible refine (D2.out _ _ _ hO15.marks).mono ?_; rintro e w19 ⟨rfl, hB19⟩; have hW19 := below_step hW18 hB19; have Y19 := Lib.hid (blk_step Y18.out hB19); have y0 := blk_cell Y19.out 0 (u := .int .i64 4) rfl; have y1 := blk_cell Y19.out 1 (u := .int .i64 (p : Int)) rfl; have hO16 := hO16.below hB19; have hO17 := hO17.below hB19; clear hB19)
          | (go_at_call 64; with_reducible refine (D3.out _ _ _ hO16.marks).mono ?_; rintro e w20 ⟨rfl, hB20⟩; have hW20 := below_step hW19 hB20; have Y20 := Lib.hid (blk_step Y19.out hB20); have y0 := blk_cell Y20.out 0 (u := .int .i64 4) rfl; have y1 := blk_cell Y20.out 1 (u := .int .i64 (p : Int)) rfl; have hO17 := hO17.below hB20; clear hB20)
          | (go_at_call 64; with_reducible refine (D4.out _ _ _ hO17.marks).mono ?_; rintro e w21 ⟨rfl, hB21⟩; have hW21 := below_step hW20 hB21; clear hB21)
          | (go_at_call 28; refine (sane_any _).mono ?_; rintro e w22 ⟨rfl, hB22⟩)
          | fail)
        go_ret
        exact ⟨rfl, below_step hW21 hB22⟩
    · rw [h4, hnil] at cR
      have CR := Lib.hid cR
      clear h4 hnil cR CBX
      go_wp2_with (first
        | (go_at_call 60; with_reducible refine (CR.out _).mono ?_; rintro e w10 ⟨A10, c10, rfl, hO10, hB10⟩; have hW10 := below_step hW9 hB10; have Y10 := Lib.hid (blk_step Y9.out hB10); have y0 := blk_cell Y10.out 0 (u := .int .i64 4) rfl; have y1 := blk_cell Y10.out 1 (u := .int .i64 (p : Int)) rfl; clear hB10)
        | (go_at_call 48; with_reducible refine (CHL.out _ _ _ (H.out.marks.below hW10)).mono ?_; rintro e w12 ⟨rfl, hB12⟩; have hW12 := below_step hW10 hB12; have Y12 := Lib.hid (blk_step Y10.out hB12); have y0 := blk_cell Y12.out 0 (u := .int .i64 4) rfl; have y1 := blk_cell Y12.out 1 (u := .int .i64 (p : Int)) rfl; clear hB12)
        | (go_at_call 48; with_reducible refine (CHM.out _ _ _ (K0.out.marks.below hW12)).mono ?_; rintro e w13 ⟨rfl, hB13⟩; have hW13 := below_step hW12 hB13; have Y13 := Lib.hid (blk_step Y12.out hB13); have y0 := blk_cell Y13.out 0 (u := .int .i64 4) rfl; have y1 := blk_cell Y13.out 1 (u := .int .i64 (p : Int)) rfl; clear hB13)
        | (go_at_call 50; with_reducible refine (JJ.out _ _ _ _ _ (H.out.marks.below hW13) (K0.out.marks.below hW13)).mono ?_; rintro e w14 ⟨A14, c14, rfl, hO14, hB14⟩; have hW14 := below_step hW13 hB14; have Y14 := Lib.hid (blk_step Y13.out hB14); have y0 := blk_cell Y14.out 0 (u := .int .i64 4) rfl; have y1 := blk_cell Y14.out 1 (u := .int .i64 (p : Int)) rfl; clear hB14)
        | (go_at_call 52; with_reducible refine (JB.out _ _ _ _ _ (H.out.marks.below hW14) (K0.out.marks.below hW14)).mono ?_; rintro e w15 ⟨A15, c15, rfl, hO15, hB15⟩; have hW15 := below_step hW14 hB15; have Y15 := Lib.hid (blk_step Y14.out hB15); have y0 := blk_cell Y15.out 0 (u := .int .i64 4) rfl; have y1 := blk_cell Y15.out 1 (u := .int .i64 (p : Int)) rfl; have hO14 := hO14.below hB15; clear hB15)
        | (go_at_call 54; with_reducible refine (JW.out _ _ _ _ _ (H.out.marks.below hW15) (K0.out.marks.below hW15)).mono ?_; rintro e w16 ⟨A16, c16, rfl, hO16, hB16⟩; have hW16 := below_step hW15 hB16; have Y16 := Lib.hid (blk_step Y15.out hB16); have y0 := blk_cell Y16.out 0 (u := .int .i64 4) rfl; have y1 := blk_cell Y16.out 1 (u := .int .i64 (p : Int)) rfl; have hO14 := hO14.below hB16; have hO15 := hO15.below hB16; clear hB16)
        | (go_at_call 56; with_reducible refine (JR.out _ _ _ (H.out.marks.below hW16)).mono ?_; rintro e w17 ⟨A17, c17, rfl, hO17, hB17⟩; have hW17 := below_step hW16 hB17; have Y17 := Lib.hid (blk_step Y16.out hB17); have y0 := blk_cell Y17.out 0 (u := .int .i64 4) rfl; have y1 := blk_cell Y17.out 1 (u := .int .i64 (p : Int)) rfl; have hO14 := hO14.below hB17; have hO15 := hO15.below hB17; have hO16 := hO16.below hB17; clear hB17)
        | (go_at_call 64; with_reducible refine (D1.out _ _ _ hO14.marks).mono ?_; rintro e w18 ⟨rfl, hB18⟩; have hW18 := below_step hW17 hB18; have Y18 := Lib.hid (blk_step Y17.out hB18); have y0 := blk_cell Y18.out 0 (u := .int .i64 4) rfl; have y1 := blk_cell Y18.out 1 (u := .int .i64 (p : Int)) rfl; have hO15 := hO15.below hB18; have hO16 := hO16.below hB18; have hO17 := hO17.below hB18; clear hB18)
        | (go_at_call 64; with_reducible refine (D2.out _ _ _ hO15.marks).mono ?_; rintro e w19 ⟨rfl, hB19⟩; have hW19 := below_step hW18 hB19; have Y19 := Lib.hid (blk_step Y18.out hB19); have y0 := blk_cell Y19.out 0 (u := .int .i64 4) rfl; have y1 := blk_cell Y19.out 1 (u := .int .i64 (p : Int)) rfl; have hO16 := hO16.below hB19; have hO17 := hO17.below hB19; clear hB19)
        | (go_at_call 64; with_reducible refine (D3.out _ _ _ hO16.marks).mono ?_; rintro e w20 ⟨rfl, hB20⟩; have hW20 := below_step hW19 hB20; have Y20 := Lib.hid (blk_step Y19.out hB20); have y0 := blk_cell Y20.out 0 (u := .int .i64 4) rfl; have y1 := blk_cell Y20.out 1 (u := .int .i64 (p : Int)) rfl; have hO17 := hO17.below hB20; clear hB20)
        | (go_at_call 64; with_reducible refine (D4.out _ _ _ hO17.marks).mono ?_; rintro e w21 ⟨rfl, hB21⟩; have hW21 := below_step hW20 hB21; clear hB21)
        | (go_at_call 28; refine (sane_any _).mono ?_; rintro e w22 ⟨rfl, hB22⟩)
        | fail)
      go_ret
      exact ⟨rfl, below_step hW21 hB22⟩
  | false =>
    have CHL := Lib.hid (CHG.out l false VL.out H.out.len hbl)
    have CHM := Lib.hid (CHG.out m bm VM.out K0.out.len BM.out)
    have D1 := Lib.hid (CDG.out (mxP orB l m) bm (by rw [mxP, orB, hbl, BM.out]; rfl))
    have D2 := Lib.hid (CDG.out (mxP andB l m) false (by rw [mxP, andB, hbl, BM.out]; rfl))
    have D3 := Lib.hid (CDG.out (mxP lessB l m) false (by rw [mxP, lessB, hbl, BM.out]; rfl))
    have D4 := Lib.hid (CDG.out (rsP l) true (by rw [rsP, hbl]; rfl))
    clear hbl
    rcases st_cases (riP (1 + u) (1 + v)) with h0 | ⟨h4, hnil⟩
    · by_cases hr : 1 + u ≤ R
      · have CBD := Lib.hid (CBX (decide ((R : Int) ≤ 1 + (v : Int))) h0 (by have := HR.out; rw [riP, ← HR.out, Bool.eq_iff_iff]; simp; omega))
        rw [h0] at cR
        have CR := Lib.hid cR
        have t5 : 1 + (u : Int) ≤ (R : Int) := by omega
        clear h0 hr cR CBX
        go_wp2_with (first
          | (go_at_call 60; with_reducible refine (CR.out _).mono ?_; rintro e w10 ⟨A10, c10, rfl, hO10, hB10⟩; have hW10 := below_step hW9 hB10; have Y10 := Lib.hid (blk_step Y9.out hB10); have y0 := blk_cell Y10.out 0 (u := .int .i64 4) rfl; have y1 := blk_cell Y10.out 1 (u := .int .i64 (p : Int)) rfl; clear hB10)
          | (go_at_call 48; with_reducible refine (CBD.out _ _ _ hO10.marks).mono ?_; rintro e w11 ⟨rfl, hB11⟩; have hW11 := below_step hW10 hB11; have Y11 := Lib.hid (blk_step Y10.out hB11); have y0 := blk_cell Y11.out 0 (u := .int .i64 4) rfl; have y1 := blk_cell Y11.out 1 (u := .int .i64 (p : Int)) rfl; clear hB11)
          | (go_at_call 48; with_reducible refine (CHL.out _ _ _ (H.out.marks.below hW11)).mono ?_; rintro e w12 ⟨rfl, hB12⟩; have hW12 := below_step hW11 hB12; have Y12 := Lib.hid (blk_step Y11.out hB12); have y0 := blk_cell Y12.out 0 (u := .int .i64 4) rfl; have y1 := blk_cell Y12.out 1 (u := .int .i64 (p : Int)) rfl; clear hB12)
          | (go_at_call 48; with_reducible refine (CHM.out _ _ _ (K0.out.marks.below hW12)).mono ?_; rintro e w13 ⟨rfl, hB13⟩; have hW13 := below_step hW12 hB13; have Y13 := Lib.hid (blk_step Y12.out hB13); have y0 := blk_cell Y13.out 0 (u := .int .i64 4) rfl; have y1 := blk_cell Y13.out 1 (u := .int .i64 (p : Int)) rfl; clear hB13)
          | (go_at_call 50; with_reducible refine (JJ.out _ _ _ _ _ (H.out.marks.below hW13) (K0.out.marks.below hW13)).mono ?_; rintro e w14 ⟨A14, c14, rfl, hO14, hB14⟩; have hW14 := below_step hW13 hB14; have Y14 := Lib.hid (blk_step Y13.out hB14); have y0 := blk_cell Y14.out 0 (u := .int .i64 4) rfl; have y1 := blk_cell Y14.out 1 (u := .int .i64 (p : Int)) rfl; clear hB14)
          | (go_at_call 52; with_reducible refine (JB.out _ _ _ _ _ (H.out.marks.below hW14) (K0.out.marks.below hW14)).mono ?_; rintro e w15 ⟨A15, c15, rfl, hO15, hB15⟩; have hW15 := below_step hW14 hB15; have Y15 := Lib.hid (blk_step Y14.out hB15); have y0 := blk_cell Y15.out 0 (u := .int .i64 4) rfl; have y1 := blk_cell Y15.out 1 (u := .int .i64 (p : Int)) rfl; have hO14 := hO14.below hB15; clear hB15)
          | (go_at_call 54; with_reducible refine (JW.out _ _ _ _ _ (H.out.marks.below hW15) (K0.out.marks.below hW15)).mono ?_; rintro e w16 ⟨A16, c16, rfl, hO16, hB16⟩; have hW16 := below_step hW15 hB16; have Y16 := Lib.hid (blk_step Y15.out hB16); have y0 := blk_cell Y16.out 0 (u := .int .i64 4) rfl; have y1 := blk_cell Y16.out 1 (u := .int .i64 (p : Int)) rfl; have hO14 := hO14.below hB16; have hO15 := hO15.below hB16; clear hB16)
          | (go_at_call 56; with_reducible refine (JR.out _ _ _ (H.out.marks.below hW16)).mono ?_; rintro e w17 ⟨A17, c17, rfl, hO17, hB17⟩; have hW17 := below_step hW16 hB17; have Y17 := Lib.hid (blk_step Y16.out hB17); have y0 := blk_cell Y17.out 0 (u := .int .i64 4) rfl; have y1 := blk_cell Y17.out 1 (u := .int .i64 (p : Int)) rfl; have hO14 := hO14.below hB17; have hO15 := hO15.below hB17; have hO16 := hO16.below hB17; clear hB17)
          | (go_at_call 64; with_reducible refine (D1.out _ _ _ hO14.marks).mono ?_; rintro e w18 ⟨rfl, hB18⟩; have hW18 := below_step hW17 hB18; have Y18 := Lib.hid (blk_step Y17.out hB18); have y0 := blk_cell Y18.out 0 (u := .int .i64 4) rfl; have y1 := blk_cell Y18.out 1 (u := .int .i64 (p : Int)) rfl; have hO15 := hO15.below hB18; have hO16 := hO16.below hB18; have hO17 := hO17.below hB18; clear hB18)
          | (go_at_call 64; with_reducible refine (D2.out _ _ _ hO15.marks).mono ?_; rintro e w19 ⟨rfl, hB19⟩; have hW19 := below_step hW18 hB19; have Y19 := Lib.hid (blk_step Y18.out hB19); have y0 := blk_cell Y19.out 0 (u := .int .i64 4) rfl; have y1 := blk_cell Y19.out 1 (u := .int .i64 (p : Int)) rfl; have hO16 := hO16.below hB19; have hO17 := hO17.below hB19; clear hB19)
          | (go_at_call 64; with_reducible refine (D3.out _ _ _ hO16.marks).mono ?_; rintro e w20 ⟨rfl, hB20⟩; have hW20 := below_step hW19 hB20; have Y20 := Lib.hid (blk_step Y19.out hB20); have y0 := blk_cell Y20.out 0 (u := .int .i64 4) rfl; have y1 := blk_cell Y20.out 1 (u := .int .i64 (p : Int)) rfl; have hO17 := hO17.below hB20; clear hB20)
          | (go_at_call 64; with_reducible refine (D4.out _ _ _ hO17.marks).mono ?_; rintro e w21 ⟨rfl, hB21⟩; have hW21 := below_step hW20 hB21; clear hB21)
          | (go_at_call 28; refine (sane_any _).mono ?_; rintro e w22 ⟨rfl, hB22⟩)
          | fail)
        go_ret
        exact ⟨rfl, below_step hW21 hB22⟩
      · have CBD := Lib.hid (CBX false h0 (by have := HR.out; rw [riP, ← HR.out]; simp; omega))
        rw [h0] at cR
        have CR := Lib.hid cR
        have t5 : ¬ 1 + (u : Int) ≤ (R : Int) := by omega
        clear h0 hr cR CBX
        go_wp2_with (first
          | (go_at_call 60; with_reducible refine (CR.out _).mono ?_; rintro e w10 ⟨A10, c10, rfl, hO10, hB10⟩; have hW10 := below_step hW9 hB10; have Y10 := Lib.hid (blk_step Y9.out hB10); have y0 := blk_cell Y10.out 0 (u := .int .i64 4) rfl; have y1 := blk_cell Y10.out 1 (u := .int .i64 (p : Int)) rfl; clear hB10)
          | (go_at_call 48; with_reducible refine (CBD.out _ _ _ hO10.marks).mono ?_; rintro e w11 ⟨rfl, hB11⟩; have hW11 := below_step hW10 hB11; have Y11 := Lib.hid (blk_step Y10.out hB11); have y0 := blk_cell Y11.out 0 (u := .int .i64 4) rfl; have y1 := blk_cell Y11.out 1 (u := .int .i64 (p : Int)) rfl; clear hB11)
          | (go_at_call 48; with_reducible refine (CHL.out _ _ _ (H.out.marks.below hW11)).mono ?_; rintro e w12 ⟨rfl, hB12⟩; have hW12 := below_step hW11 hB12; have Y12 := Lib.hid (blk_step Y11.out hB12); have y0 := blk_cell Y12.out 0 (u := .int .i64 4) rfl; have y1 := blk_cell Y12.out 1 (u := .int .i64 (p : Int)) rfl; clear hB12)
          | (go_at_call 48; with_reducible refine (CHM.out _ _ _ (K0.out.marks.below hW12)).mono ?_; rintro e w13 ⟨rfl, hB13⟩; have hW13 := below_step hW12 hB13; have Y13 := Lib.hid (blk_step Y12.out hB13); have y0 := blk_cell Y13.out 0 (u := .int .i64 4) rfl; have y1 := blk_cell Y13.out 1 (u := .int .i64 (p : Int)) rfl; clear hB13)
          | (go_at_call 50; with_reducible refine (JJ.out _ _ _ _ _ (H.out.marks.below hW13) (K0.out.marks.below hW13)).mono ?_; rintro e w14 ⟨A14, c14, rfl, hO14, hB14⟩; have hW14 := below_step hW13 hB14; have Y14 := Lib.hid (blk_step Y13.out hB14); have y0 := blk_cell Y14.out 0 (u := .int .i64 4) rfl; have y1 := blk_cell Y14.out 1 (u := .int .i64 (p : Int)) rfl; clear hB14)
          | (go_at_call 52; with_reducible refine (JB.out _ _ _ _ _ (H.out.marks.below hW14) (K0.out.marks.below hW14)).mono ?_; rintro e w15 ⟨A15, c15, rfl, hO15, hB15⟩; have hW15 := below_step hW14 hB15; have Y15 := Lib.hid (blk_step Y14.out hB15); have y0 := blk_cell Y15.out 0 (u := .int .i64 4) rfl; have y1 := blk_cell Y15.out 1 (u := .int .i64 (p : Int)) rfl; have hO14 := hO14.below hB15; clear hB15)
          | (go_at_call 54; with_reducible refine (JW.out _ _ _ _ _ (H.out.marks.below hW15) (K0.out.marks.below hW15)).mono ?_; rintro e w16 ⟨A16, c16, rfl, hO16, hB16⟩; have hW16 := below_step hW15 hB16; have Y16 := Lib.hid (blk_step Y15.out hB16); have y0 := blk_cell Y16.out 0 (u := .int .i64 4) rfl; have y1 := blk_cell Y16.out 1 (u := .int .i64 (p : Int)) rfl; have hO14 := hO14.below hB16; have hO15 := hO15.below hB16; clear hB16)
          | (go_at_call 56; with_reducible refine (JR.out _ _ _ (H.out.marks.below hW16)).mono ?_; rintro e w17 ⟨A17, c17, rfl, hO17, hB17⟩; have hW17 := below_step hW16 hB17; have Y17 := Lib.hid (blk_step Y16.out hB17); have y0 := blk_cell Y17.out 0 (u := .int .i64 4) rfl; have y1 := blk_cell Y17.out 1 (u := .int .i64 (p : Int)) rfl; have hO14 := hO14.below hB17; have hO15 := hO15.below hB17; have hO16 := hO16.below hB17; clear hB17)
          | (go_at_call 64; with_reducible refine (D1.out _ _ _ hO14.marks).mono ?_; rintro e w18 ⟨rfl, hB18⟩; have hW18 := below_step hW17 hB18; have Y18 := Lib.hid (blk_step Y17.out hB18); have y0 := blk_cell Y18.out 0 (u := .int .i64 4) rfl; have y1 := blk_cell Y18.out 1 (u := .int .i64 (p : Int)) rfl; have hO15 := hO15.below hB18; have hO16 := hO16.below hB18; have hO17 := hO17.below hB18; clear hB18)
          | (go_at_call 64; with_reducible refine (D2.out _ _ _ hO15.marks).mono ?_; rintro e w19 ⟨rfl, hB19⟩; have hW19 := below_step hW18 hB19; have Y19 := Lib.hid (blk_step Y18.out hB19); have y0 := blk_cell Y19.out 0 (u := .int .i64 4) rfl; have y1 := blk_cell Y19.out 1 (u := .int .i64 (p : Int)) rfl; have hO16 := hO16.below hB19; have hO17 := hO17.below hB19; clear hB19)
          | (go_at_call 64; with_reducible refine (D3.out _ _ _ hO16.marks).mono ?_; rintro e w20 ⟨rfl, hB20⟩; have hW20 := below_step hW19 hB20; have Y20 := Lib.hid (blk_step Y19.out hB20); have y0 := blk_cell Y20.out 0 (u := .int .i64 4) rfl; have y1 := blk_cell Y20.out 1 (u := .int .i64 (p : Int)) rfl; have hO17 := hO17.below hB20; clear hB20)
          | (go_at_call 64; with_reducible refine (D4.out _ _ _ hO17.marks).mono ?_; rintro e w21 ⟨rfl, hB21⟩; have hW21 := below_step hW20 hB21; clear hB21)
          | (go_at_call 28; refine (sane_any _).mono ?_; rintro e w22 ⟨rfl, hB22⟩)
          | fail)
        go_ret
        exact ⟨rfl, below_step hW21 hB22⟩
    · rw [h4, hnil] at cR
      have CR := Lib.hid cR
      clear h4 hnil cR CBX
      go_wp2_with (first
        | (go_at_call 60; with_reducible refine (CR.out _).mono ?_; rintro e w10 ⟨A10, c10, rfl, hO10, hB10⟩; have hW10 := below_step hW9 hB10; have Y10 := Lib.hid (blk_step Y9.out hB10); have y0 := blk_cell Y10.out 0 (u := .int .i64 4) rfl; have y1 := blk_cell Y10.out 1 (u := .int .i64 (p : Int)) rfl; clear hB10)
        | (go_at_call 48; with_reducible refine (CHL.out _ _ _ (H.out.marks.below hW10)).mono ?_; rintro e w12 ⟨rfl, hB12⟩; have hW12 := below_step hW10 hB12; have Y12 := Lib.hid (blk_step Y10.out hB12); have y0 := blk_cell Y12.out 0 (u := .int .i64 4) rfl; have y1 := blk_cell Y12.out 1 (u := .int .i64 (p : Int)) rfl; clear hB12)
        | (go_at_call 48; with_reducible refine (CHM.out _ _ _ (K0.out.marks.below hW12)).mono ?_; rintro e w13 ⟨rfl, hB13⟩; have hW13 := below_step hW12 hB13; have Y13 := Lib.hid (blk_step Y12.out hB13); have y0 := blk_cell Y13.out 0 (u := .int .i64 4) rfl; have y1 := blk_cell Y13.out 1 (u := .int .i64 (p : Int)) rfl; clear hB13)
        | (go_at_call 50; with_reducible refine (JJ.out _ _ _ _ _ (H.out.marks.below hW13) (K0.out.marks.below hW13)).mono ?_; rintro e w14 ⟨A14, c14, rfl, hO14, hB14⟩; have hW14 := below_step hW13 hB14; have Y14 := Lib.hid (blk_step Y13.out hB14); have y0 := blk_cell Y14.out 0 (u := .int .i64 4) rfl; have y1 := blk_cell Y14.out 1 (u := .int .i64 (p : Int)) rfl; clear hB14)
        | (go_at_call 52; with_reducible refine (JB.out _ _ _ _ _ (H.out.marks.below hW14) (K0.out.marks.below hW14)).mono ?_; rintro e w15 ⟨A15, c15, rfl, hO15, hB15⟩; have hW15 := below_step hW14 hB15; have Y15 := Lib.hid (blk_step Y14.out hB15); have y0 := blk_cell Y15.out 0 (u := .int .i64 4) rfl; have y1 := blk_cell Y15.out 1 (u := .int .i64 (p : Int)) rfl; have hO14 := hO14.below hB15; clear hB15)
        | (go_at_call 54; with_reducible refine (JW.out _ _ _ _ _ (H.out.marks.below hW15) (K0.out.marks.below hW15)).mono ?_; rintro e w16 ⟨A16, c16, rfl, hO16, hB16⟩; have hW16 := below_step hW15 hB16; have Y16 := Lib.hid (blk_step Y15.out hB16); have y0 := blk_cell Y16.out 0 (u := .int .i64 4) rfl; have y1 := blk_cell Y16.out 1 (u := .int .i64 (p : Int)) rfl; have hO14 := hO14.below hB16; have hO15 := hO15.below hB16; clear hB16)
        | (go_at_call 56; with_reducible refine (JR.out _ _ _ (H.out.marks.below hW16)).mono ?_; rintro e w17 ⟨A17, c17, rfl, hO17, hB17⟩; have hW17 := below_step hW16 hB17; have Y17 := Lib.hid (blk_step Y16.out hB17); have y0 := blk_cell Y17.out 0 (u := .int .i64 4) rfl; have y1 := blk_cell Y17.out 1 (u := .int .i64 (p : Int)) rfl; have hO14 := hO14.below hB17; have hO15 := hO15.below hB17; have hO16 := hO16.below hB17; clear hB17)
        | (go_at_call 64; with_reducible refine (D1.out _ _ _ hO14.marks).mono ?_; rintro e w18 ⟨rfl, hB18⟩; have hW18 := below_step hW17 hB18; have Y18 := Lib.hid (blk_step Y17.out hB18); have y0 := blk_cell Y18.out 0 (u := .int .i64 4) rfl; have y1 := blk_cell Y18.out 1 (u := .int .i64 (p : Int)) rfl; have hO15 := hO15.below hB18; have hO16 := hO16.below hB18; have hO17 := hO17.below hB18; clear hB18)
        | (go_at_call 64; with_reducible refine (D2.out _ _ _ hO15.marks).mono ?_; rintro e w19 ⟨rfl, hB19⟩; have hW19 := below_step hW18 hB19; have Y19 := Lib.hid (blk_step Y18.out hB19); have y0 := blk_cell Y19.out 0 (u := .int .i64 4) rfl; have y1 := blk_cell Y19.out 1 (u := .int .i64 (p : Int)) rfl; have hO16 := hO16.below hB19; have hO17 := hO17.below hB19; clear hB19)
        | (go_at_call 64; with_reducible refine (D3.out _ _ _ hO16.marks).mono ?_; rintro e w20 ⟨rfl, hB20⟩; have hW20 := below_step hW19 hB20; have Y20 := Lib.hid (blk_step Y19.out hB20); have y0 := blk_cell Y20.out 0 (u := .int .i64 4) rfl; have y1 := blk_cell Y20.out 1 (u := .int .i64 (p : Int)) rfl; have hO17 := hO17.below hB20; clear hB20)
        | (go_at_call 64; with_reducible refine (D4.out _ _ _ hO17.marks).mono ?_; rintro e w21 ⟨rfl, hB21⟩; have hW21 := below_step hW20 hB21; clear hB21)
        | (go_at_call 28; refine (sane_any _).mono ?_; rintro e w22 ⟨rfl, hB22⟩)
        | fail)
      go_ret
      exact ⟨rfl, below_step hW21 hB22⟩
end Go.Proofs.Ytnnfnphmieikmaa
