/-
  The walk of SkyCovers: it returns true, whatever it is given.
-/
import Derived.Test.YtnnfnphmieikmaaSetV
import Derived.Test.YtnnfnphmieikmaaLawThere
namespace Go.Proofs.Ytnnfnphmieikmaa
open Go Go.RowKit Go.Shelf

theorem one_marks (w : World) (a b : Int) (g : Nat) (hg : g = w.heap.size) : Marks (w.alloc (.cells #[.int .i64 a, .int .i64 b] 43)) (some ⟨g, 0, none⟩) [(a, b)] := by
  subst hg
  exact ⟨rfl, fun _ => ⟨_, rfl, by simp, cells_new w [.int .i64 a, .int .i64 b] 43⟩⟩
theorem cel_step {W W' : World} {g : Nat} {b : Obj} (h : W.heap[g]? = some b) (hB : Below W.heap.size W W') : W'.heap[g]? = some b :=
  (hB.block g (Array.getElem?_eq_some_iff.1 h).1).trans h
set_option maxRecDepth 100000 in
set_option maxHeartbeats 1000000 in
theorem covers_t0 (l C S T : List (Int × Int)) (A : Option Addr) (c k a X : Nat) (o p : Int) (w : World) (H : Hid (Clk w A c l)) (hlong : ¬ 1000 < l.length) (VL : Hid (vaB l = true))
    (o0 : 0 ≤ o) (o1 : o ≤ 255) (p0 : 0 ≤ p) (p1 : p ≤ 65535) (EO : Hid (o % 5 = (k : Int))) (EP : Hid (p % (X : Int) = (a : Int))) (x1 : 12 ≤ X) (x2 : X ≤ 3072)  (hs : 0 < S.length)
    (CCo : Hid (∀ (A : Option Addr) (c0 : Nat) (W : World), Marks W A l → Calls Try.prog 58 #[.slice A l.length c0, .int .i64 (k : Int)] W fun e w' => ∃ A' c', e = .returned (.tuple #[.slice A' C.length c', .int .i64 0]) ∧ Clk w' A' c' C ∧ Below W.heap.size W w'))
    (CO : Hid (∀ (A : Option Addr) (c0 : Nat) (W : World) (n q : Int), (n, q) ∈ l → Marks W A l → Calls Try.prog 48 #[.slice A l.length c0, .agg #[.int .i64 n, .int .i64 q]] W fun e w' => e = .returned (.tuple #[.bool true, .int .i64 0]) ∧ Below W.heap.size W w'))
    (CK : Hid (∀ (B : Option Addr) (c0 : Nat) (W : World) (n q : Int), (n, q) ∈ l → Marks W B C → Calls Try.prog 48 #[.slice B C.length c0, .agg #[.int .i64 n, .int .i64 q]] W fun e w' => e = .returned (.tuple #[.bool true, .int .i64 0]) ∧ Below W.heap.size W w'))
    (CP : Hid (∀ W, Calls Try.prog 18 #[.int .i64 (k : Int)] W fun e w' => e = .returned (.tuple #[.int .i64 (X : Int), .int .i64 0]) ∧ W = w'))
    (CB : Hid (∀ (A B : Option Addr) (c d : Nat) (W : World), Marks W A l → Marks W B [((k : Int), (a : Int))] → Calls Try.prog 52 #[.slice A l.length c, .slice B 1 d] W fun e w' => ∃ A' c', e = .returned (.tuple #[.slice A' (S : List (Int × Int)).length c', .int .i64 0]) ∧ Clk w' A' c' S ∧ Below W.heap.size W w'))
    (CH : Hid (∀ (B : Option Addr) (c : Nat) (W : World), Marks W B C → Calls Try.prog 48 #[.slice B C.length c, .agg #[.int .i64 (k : Int), .int .i64 (a : Int)]] W fun e w' => e = .returned (.tuple #[.bool true, .int .i64 0]) ∧ Below W.heap.size W w'))
    (CT : Hid (∀ (A B : Option Addr) (c d : Nat) (W : World), Marks W A C → Marks W B [((k : Int), (a : Int))] → Calls Try.prog 52 #[.slice A C.length c, .slice B 1 d] W fun e w' => ∃ A' c', e = .returned (.tuple #[.slice A' (T : List (Int × Int)).length c', .int .i64 0]) ∧ Clk w' A' c' T ∧ Below W.heap.size W w')) :
    Calls Try.prog 15 #[.slice A l.length c, .int .u8 o, .int .u16 p] w fun e w' => e = .returned (.bool true) ∧ Below w.heap.size w w' := by
  have t1 : decide ((1000 : Int) < (l.length : Int)) = false := decide_eq_false (by omega)
  have hl1 : l.length ≤ 1000 := by omega
  have hW0 : Below w.heap.size w w := Below.refl _ _
  have t2 : decide ((0 : Int) < (S.length : Int)) = true := decide_eq_true (by omega)
  clear hlong
  go_enter Try.func15, Try.ntmps15
  go_wp2_with (first
    | (go_at_call 40; refine (lawLong_any _ _ _ _ _).mono ?_; rintro e w' ⟨rfl, rfl⟩)
    | (go_at_call 44; with_reducible refine (refValid_any l _ _ _ (H.out.marks.below hW0) H.out.len).mono ?_; rintro e w1 ⟨he, hB1⟩; rw [VL.out] at he; subst he; have hW1 := below_step hW0 hB1; clear hB1)
    | fail)
  rw [EO.out]
  go_wp2_with (go_at_call 58; with_reducible refine (CCo.out _ _ _ (H.out.marks.below hW1)).mono ?_; rintro e w2 ⟨A2, c2, rfl, hO2, hB2⟩; have hW2 := below_step hW1 hB2; have HO2 := Lib.hid hO2; clear hB2 hO2)
  go_loopw [10] (fun i wr => ∃ n : Nat, n ≤ l.length ∧ i = .int .i64 n ∧ Below w.heap.size w wr ∧ Hid (Clk wr A2 c2 C)) (fun i _ => l.length - (intOf i).toNat)
  case atStart => exact ⟨0, Nat.zero_le _, rfl, hW2, HO2⟩
  case round =>
    clear HO2 hW2
    obtain ⟨n, hn, rfl, hB, HO⟩ := hrel
    by_cases hlt : n < l.length
    · obtain ⟨bl, off, rfl, hbk, hcells⟩ := H.out.marks.open_ (show 0 < l.length by omega)
      obtain ⟨u, v, hx⟩ := getM_of_lt hlt
      have f0 := (hB.cell (p := ⟨bl, off + n * 2, none⟩) hbk).trans (hcells _ _ hx).1
      have f1 := (hB.cell (p := ⟨bl, off + n * 2 + 1, none⟩) hbk).trans (hcells _ _ hx).2
      have HM := Lib.hid (List.mem_of_getElem? hx)
      have g0 := hcells _ _ hx
      clear hcells hx
      go_wp2_with (first
        | (go_at_call 48; with_reducible refine (CO.out _ _ _ _ _ HM.out (H.out.marks.below hB)).mono ?_; rintro e w3 ⟨rfl, hB3⟩; have hW3 := below_step hB hB3; have HO3 := Lib.hid (HO.out.below hB3); have f0 := (hW3.cell (p := ⟨bl, off + n * 2, none⟩) hbk).trans g0.1; have f1 := (hW3.cell (p := ⟨bl, off + n * 2 + 1, none⟩) hbk).trans g0.2; clear hB3)
        | (go_at_call 48; with_reducible refine (CK.out _ _ _ _ _ HM.out HO3.out.marks).mono ?_; rintro e w4 ⟨rfl, hB4⟩; have hW4 := below_step hW3 hB4; have HO4 := Lib.hid (HO3.out.below hB4); clear hB4)
        | fail)
      go_roundw
      case rel => exact ⟨n + 1, by omega, by go_num, hW4, HO4⟩
      case measure => simp [intOf]; omega
    · obtain rfl : n = l.length := by omega
      go_wp2_with (first
        | (go_at_call 18; with_reducible refine (CP.out _).mono ?_; rintro e w5 ⟨rfl, rfl⟩)
        | fail)
      rw [EP.out]
      obtain ⟨W6, e6, hW6, HO6, Y6, M6⟩ : ∃ W6, (wr.alloc (.cells #[.int .i64 (k : Int), .int .i64 (a : Int)] 43)).alloc (.cells #[.int .i64 (k : Int), .int .i64 (a : Int)] 43) = W6 ∧ Below w.heap.size w W6 ∧ Hid (Clk W6 A2 c2 C) ∧ Hid (W6.heap[wr.heap.size]? = some (.cells #[.int .i64 (k : Int), .int .i64 (a : Int)] 43 (0, 0))) ∧ Hid (Marks W6 (some ⟨wr.heap.size + 1, 0, none⟩) [((k : Int), (a : Int))]) := by
        have b1 : Below wr.heap.size wr (wr.alloc (.cells #[.int .i64 (k : Int), .int .i64 (a : Int)] 43)) := Below.alloc (Below.refl _ _) (Nat.le_refl _) _
        have b2 : Below (wr.alloc (.cells #[.int .i64 (k : Int), .int .i64 (a : Int)] 43)).heap.size (wr.alloc (.cells #[.int .i64 (k : Int), .int .i64 (a : Int)] 43)) ((wr.alloc (.cells #[.int .i64 (k : Int), .int .i64 (a : Int)] 43)).alloc (.cells #[.int .i64 (k : Int), .int .i64 (a : Int)] 43)) := Below.alloc (Below.refl _ _) (Nat.le_refl _) _
        exact ⟨_, rfl, below_step (below_step hB b1) b2, Lib.hid ((HO.out.below b1).below b2), Lib.hid (cel_step (heap_alloc_new wr _) b2), Lib.hid (one_marks _ _ _ _ (by simp))⟩
      rw [e6]
      clear e6
      have y0 := blk_cell Y6.out 0 (u := .int .i64 (k : Int)) rfl
      have y1 := blk_cell Y6.out 1 (u := .int .i64 (a : Int)) rfl
      go_wp2_with (first
        | (go_at_call 52; with_reducible refine (CB.out _ _ _ _ _ (H.out.marks.below hW6) M6.out).mono ?_; rintro e w7 ⟨A7, c7, rfl, hO7, hB7⟩; have hW7 := below_step hW6 hB7; have HO7 := Lib.hid (HO6.out.below hB7); have Y7 := Lib.hid (cel_step Y6.out hB7); have y0 := blk_cell Y7.out 0 (u := .int .i64 (k : Int)) rfl; have y1 := blk_cell Y7.out 1 (u := .int .i64 (a : Int)) rfl; clear hB7)
        | (go_at_call 48; with_reducible refine (CH.out _ _ _ HO7.out.marks).mono ?_; rintro e w8 ⟨rfl, hB8⟩; have hW8 := below_step hW7 hB8; have HO8 := Lib.hid (HO7.out.below hB8); have Y8 := Lib.hid (cel_step Y7.out hB8); have y0 := blk_cell Y8.out 0 (u := .int .i64 (k : Int)) rfl; have y1 := blk_cell Y8.out 1 (u := .int .i64 (a : Int)) rfl; clear hB8)
        | (go_at_call 52; with_reducible refine (CT.out _ _ _ _ _ (HO8.out.marks.below (Below.alloc (Below.refl _ _) (Nat.le_refl _) _)) (one_marks _ _ _ _ rfl)).mono ?_; rintro e w9 ⟨A9, c9, rfl, hO9, hB9⟩; have hW9 := below_step (below_step hW8 (Below.alloc (Below.refl _ _) (Nat.le_refl _) _)) hB9; clear hB9)
        | (go_at_call 28; refine (sane_any _).mono ?_; rintro e w10 ⟨rfl, hB10⟩)
        | fail)
      go_ret
      exact ⟨rfl, below_step hW9 hB10⟩
set_option maxRecDepth 100000 in
set_option maxHeartbeats 1000000 in
theorem covers_t4 (l C S T : List (Int × Int)) (A : Option Addr) (c k a X : Nat) (o p : Int) (w : World) (H : Hid (Clk w A c l)) (hlong : ¬ 1000 < l.length) (VL : Hid (vaB l = true))
    (o0 : 0 ≤ o) (o1 : o ≤ 255) (p0 : 0 ≤ p) (p1 : p ≤ 65535) (EO : Hid (o % 5 = (k : Int))) (EP : Hid (p % (X : Int) = (a : Int))) (x1 : 12 ≤ X) (x2 : X ≤ 3072)  (hs : 0 < S.length)
    (CCo : Hid (∀ (A : Option Addr) (c0 : Nat) (W : World), Marks W A l → Calls Try.prog 58 #[.slice A l.length c0, .int .i64 (k : Int)] W fun e w' => ∃ A' c', e = .returned (.tuple #[.slice A' C.length c', .int .i64 0]) ∧ Clk w' A' c' C ∧ Below W.heap.size W w'))
    (CO : Hid (∀ (A : Option Addr) (c0 : Nat) (W : World) (n q : Int), (n, q) ∈ l → Marks W A l → Calls Try.prog 48 #[.slice A l.length c0, .agg #[.int .i64 n, .int .i64 q]] W fun e w' => e = .returned (.tuple #[.bool true, .int .i64 0]) ∧ Below W.heap.size W w'))
    (CK : Hid (∀ (B : Option Addr) (c0 : Nat) (W : World) (n q : Int), (n, q) ∈ l → Marks W B C → Calls Try.prog 48 #[.slice B C.length c0, .agg #[.int .i64 n, .int .i64 q]] W fun e w' => e = .returned (.tuple #[.bool true, .int .i64 0]) ∧ Below W.heap.size W w'))
    (CP : Hid (∀ W, Calls Try.prog 18 #[.int .i64 (k : Int)] W fun e w' => e = .returned (.tuple #[.int .i64 (X : Int), .int .i64 0]) ∧ W = w'))
    (CB : Hid (∀ (A B : Option Addr) (c d : Nat) (W : World), Marks W A l → Marks W B [((k : Int), (a : Int))] → Calls Try.prog 52 #[.slice A l.length c, .slice B 1 d] W fun e w' => ∃ A' c', e = .returned (.tuple #[.slice A' (S : List (Int × Int)).length c', .int .i64 0]) ∧ Clk w' A' c' S ∧ Below W.heap.size W w'))
    (CH : Hid (∀ (B : Option Addr) (c : Nat) (W : World), Marks W B C → Calls Try.prog 48 #[.slice B C.length c, .agg #[.int .i64 (k : Int), .int .i64 (a : Int)]] W fun e w' => e = .returned (.tuple #[.bool true, .int .i64 0]) ∧ Below W.heap.size W w'))
    (CT : Hid (∀ (A B : Option Addr) (c d : Nat) (W : World), Marks W A C → Marks W B [((k : Int), (a : Int))] → Calls Try.prog 52 #[.slice A C.length c, .slice B 1 d] W fun e w' => ∃ A' c', e = .returned (.tuple #[.slice A' (T : List (Int × Int)).length c', .int .i64 4]) ∧ Clk w' A' c' T ∧ Below W.heap.size W w')) :
    Calls Try.prog 15 #[.slice A l.length c, .int .u8 o, .int .u16 p] w fun e w' => e = .returned (.bool true) ∧ Below w.heap.size w w' := by
  have t1 : decide ((1000 : Int) < (l.length : Int)) = false := decide_eq_false (by omega)
  have hl1 : l.length ≤ 1000 := by omega
  have hW0 : Below w.heap.size w w := Below.refl _ _
  have t2 : decide ((0 : Int) < (S.length : Int)) = true := decide_eq_true (by omega)
  clear hlong
  go_enter Try.func15, Try.ntmps15
  go_wp2_with (first
    | (go_at_call 40; refine (lawLong_any _ _ _ _ _).mono ?_; rintro e w' ⟨rfl, rfl⟩)
    | (go_at_call 44; with_reducible refine (refValid_any l _ _ _ (H.out.marks.below hW0) H.out.len).mono ?_; rintro e w1 ⟨he, hB1⟩; rw [VL.out] at he; subst he; have hW1 := below_step hW0 hB1; clear hB1)
    | fail)
  rw [EO.out]
  go_wp2_with (go_at_call 58; with_reducible refine (CCo.out _ _ _ (H.out.marks.below hW1)).mono ?_; rintro e w2 ⟨A2, c2, rfl, hO2, hB2⟩; have hW2 := below_step hW1 hB2; have HO2 := Lib.hid hO2; clear hB2 hO2)
  go_loopw [10] (fun i wr => ∃ n : Nat, n ≤ l.length ∧ i = .int .i64 n ∧ Below w.heap.size w wr ∧ Hid (Clk wr A2 c2 C)) (fun i _ => l.length - (intOf i).toNat)
  case atStart => exact ⟨0, Nat.zero_le _, rfl, hW2, HO2⟩
  case round =>
    clear HO2 hW2
    obtain ⟨n, hn, rfl, hB, HO⟩ := hrel
    by_cases hlt : n < l.length
    · obtain ⟨bl, off, rfl, hbk, hcells⟩ := H.out.marks.open_ (show 0 < l.length by omega)
      obtain ⟨u, v, hx⟩ := getM_of_lt hlt
      have f0 := (hB.cell (p := ⟨bl, off + n * 2, none⟩) hbk).trans (hcells _ _ hx).1
      have f1 := (hB.cell (p := ⟨bl, off + n * 2 + 1, none⟩) hbk).trans (hcells _ _ hx).2
      have HM := Lib.hid (List.mem_of_getElem? hx)
      have g0 := hcells _ _ hx
      clear hcells hx
      go_wp2_with (first
        | (go_at_call 48; with_reducible refine (CO.out _ _ _ _ _ HM.out (H.out.marks.below hB)).mono ?_; rintro e w3 ⟨rfl, hB3⟩; have hW3 := below_step hB hB3; have HO3 := Lib.hid (HO.out.below hB3); have f0 := (hW3.cell (p := ⟨bl, off + n * 2, none⟩) hbk).trans g0.1; have f1 := (hW3.cell (p := ⟨bl, off + n * 2 + 1, none⟩) hbk).trans g0.2; clear hB3)
        | (go_at_call 48; with_reducible refine (CK.out _ _ _ _ _ HM.out HO3.out.marks).mono ?_; rintro e w4 ⟨rfl, hB4⟩; have hW4 := below_step hW3 hB4; have HO4 := Lib.hid (HO3.out.below hB4); clear hB4)
        | fail)
      go_roundw
      case rel => exact ⟨n + 1, by omega, by go_num, hW4, HO4⟩
      case measure => simp [intOf]; omega
    · obtain rfl : n = l.length := by omega
      go_wp2_with (first
        | (go_at_call 18; with_reducible refine (CP.out _).mono ?_; rintro e w5 ⟨rfl, rfl⟩)
        | fail)
      rw [EP.out]
      obtain ⟨W6, e6, hW6, HO6, Y6, M6⟩ : ∃ W6, (wr.alloc (.cells #[.int .i64 (k : Int), .int .i64 (a : Int)] 43)).alloc (.cells #[.int .i64 (k : Int), .int .i64 (a : Int)] 43) = W6 ∧ Below w.heap.size w W6 ∧ Hid (Clk W6 A2 c2 C) ∧ Hid (W6.heap[wr.heap.size]? = some (.cells #[.int .i64 (k : Int), .int .i64 (a : Int)] 43 (0, 0))) ∧ Hid (Marks W6 (some ⟨wr.heap.size + 1, 0, none⟩) [((k : Int), (a : Int))]) := by
        have b1 : Below wr.heap.size wr (wr.alloc (.cells #[.int .i64 (k : Int), .int .i64 (a : Int)] 43)) := Below.alloc (Below.refl _ _) (Nat.le_refl _) _
        have b2 : Below (wr.alloc (.cells #[.int .i64 (k : Int), .int .i64 (a : Int)] 43)).heap.size (wr.alloc (.cells #[.int .i64 (k : Int), .int .i64 (a : Int)] 43)) ((wr.alloc (.cells #[.int .i64 (k : Int), .int .i64 (a : Int)] 43)).alloc (.cells #[.int .i64 (k : Int), .int .i64 (a : Int)] 43)) := Below.alloc (Below.refl _ _) (Nat.le_refl _) _
        exact ⟨_, rfl, below_step (below_step hB b1) b2, Lib.hid ((HO.out.below b1).below b2), Lib.hid (cel_step (heap_alloc_new wr _) b2), Lib.hid (one_marks _ _ _ _ (by simp))⟩
      rw [e6]
      clear e6
      have y0 := blk_cell Y6.out 0 (u := .int .i64 (k : Int)) rfl
      have y1 := blk_cell Y6.out 1 (u := .int .i64 (a : Int)) rfl
      go_wp2_with (first
        | (go_at_call 52; with_reducible refine (CB.out _ _ _ _ _ (H.out.marks.below hW6) M6.out).mono ?_; rintro e w7 ⟨A7, c7, rfl, hO7, hB7⟩; have hW7 := below_step hW6 hB7; have HO7 := Lib.hid (HO6.out.below hB7); have Y7 := Lib.hid (cel_step Y6.out hB7); have y0 := blk_cell Y7.out 0 (u := .int .i64 (k : Int)) rfl; have y1 := blk_cell Y7.out 1 (u := .int .i64 (a : Int)) rfl; clear hB7)
        | (go_at_call 48; with_reducible refine (CH.out _ _ _ HO7.out.marks).mono ?_; rintro e w8 ⟨rfl, hB8⟩; have hW8 := below_step hW7 hB8; have HO8 := Lib.hid (HO7.out.below hB8); have Y8 := Lib.hid (cel_step Y7.out hB8); have y0 := blk_cell Y8.out 0 (u := .int .i64 (k : Int)) rfl; have y1 := blk_cell Y8.out 1 (u := .int .i64 (a : Int)) rfl; clear hB8)
        | (go_at_call 52; with_reducible refine (CT.out _ _ _ _ _ (HO8.out.marks.below (Below.alloc (Below.refl _ _) (Nat.le_refl _) _)) (one_marks _ _ _ _ rfl)).mono ?_; rintro e w9 ⟨A9, c9, rfl, hO9, hB9⟩; have hW9 := below_step (below_step hW8 (Below.alloc (Below.refl _ _) (Nat.le_refl _) _)) hB9; clear hB9)
        | (go_at_call 28; refine (sane_any _).mono ?_; rintro e w10 ⟨rfl, hB10⟩)
        | fail)
      go_ret
      exact ⟨rfl, below_step hW9 hB10⟩
set_option maxRecDepth 100000 in
set_option maxHeartbeats 1000000 in
theorem covers_f0 (l C  : List (Int × Int)) (A : Option Addr) (c k a X : Nat) (o p : Int) (w : World) (H : Hid (Clk w A c l)) (hlong : ¬ 1000 < l.length) (VL : Hid (vaB l = true))
    (o0 : 0 ≤ o) (o1 : o ≤ 255) (p0 : 0 ≤ p) (p1 : p ≤ 65535) (EO : Hid (o % 5 = (k : Int))) (EP : Hid (p % (X : Int) = (a : Int))) (x1 : 12 ≤ X) (x2 : X ≤ 3072) 
    (CCo : Hid (∀ (A : Option Addr) (c0 : Nat) (W : World), Marks W A l → Calls Try.prog 58 #[.slice A l.length c0, .int .i64 (k : Int)] W fun e w' => ∃ A' c', e = .returned (.tuple #[.slice A' C.length c', .int .i64 0]) ∧ Clk w' A' c' C ∧ Below W.heap.size W w'))
    (CO : Hid (∀ (A : Option Addr) (c0 : Nat) (W : World) (n q : Int), (n, q) ∈ l → Marks W A l → Calls Try.prog 48 #[.slice A l.length c0, .agg #[.int .i64 n, .int .i64 q]] W fun e w' => e = .returned (.tuple #[.bool true, .int .i64 0]) ∧ Below W.heap.size W w'))
    (CK : Hid (∀ (B : Option Addr) (c0 : Nat) (W : World) (n q : Int), (n, q) ∈ l → Marks W B C → Calls Try.prog 48 #[.slice B C.length c0, .agg #[.int .i64 n, .int .i64 q]] W fun e w' => e = .returned (.tuple #[.bool true, .int .i64 0]) ∧ Below W.heap.size W w'))
    (CP : Hid (∀ W, Calls Try.prog 18 #[.int .i64 (k : Int)] W fun e w' => e = .returned (.tuple #[.int .i64 (X : Int), .int .i64 0]) ∧ W = w'))
    (CB : Hid (∀ (A B : Option Addr) (c d : Nat) (W : World), Marks W A l → Marks W B [((k : Int), (a : Int))] → Calls Try.prog 52 #[.slice A l.length c, .slice B 1 d] W fun e w' => ∃ A' c', e = .returned (.tuple #[.slice A' ([] : List (Int × Int)).length c', .int .i64 0]) ∧ Clk w' A' c' [] ∧ Below W.heap.size W w'))
    (CH : Hid (∀ (B : Option Addr) (c : Nat) (W : World), Marks W B C → Calls Try.prog 48 #[.slice B C.length c, .agg #[.int .i64 (k : Int), .int .i64 (a : Int)]] W fun e w' => e = .returned (.tuple #[.bool false, .int .i64 0]) ∧ Below W.heap.size W w'))
    (CT : Hid (∀ (A B : Option Addr) (c d : Nat) (W : World), Marks W A C → Marks W B [((k : Int), (a : Int))] → Calls Try.prog 52 #[.slice A C.length c, .slice B 1 d] W fun e w' => ∃ A' c', e = .returned (.tuple #[.slice A' ([] : List (Int × Int)).length c', .int .i64 0]) ∧ Clk w' A' c' [] ∧ Below W.heap.size W w')) :
    Calls Try.prog 15 #[.slice A l.length c, .int .u8 o, .int .u16 p] w fun e w' => e = .returned (.bool true) ∧ Below w.heap.size w w' := by
  have t1 : decide ((1000 : Int) < (l.length : Int)) = false := decide_eq_false (by omega)
  have hl1 : l.length ≤ 1000 := by omega
  have hW0 : Below w.heap.size w w := Below.refl _ _
  clear hlong
  go_enter Try.func15, Try.ntmps15
  go_wp2_with (first
    | (go_at_call 40; refine (lawLong_any _ _ _ _ _).mono ?_; rintro e w' ⟨rfl, rfl⟩)
    | (go_at_call 44; with_reducible refine (refValid_any l _ _ _ (H.out.marks.below hW0) H.out.len).mono ?_; rintro e w1 ⟨he, hB1⟩; rw [VL.out] at he; subst he; have hW1 := below_step hW0 hB1; clear hB1)
    | fail)
  rw [EO.out]
  go_wp2_with (go_at_call 58; with_reducible refine (CCo.out _ _ _ (H.out.marks.below hW1)).mono ?_; rintro e w2 ⟨A2, c2, rfl, hO2, hB2⟩; have hW2 := below_step hW1 hB2; have HO2 := Lib.hid hO2; clear hB2 hO2)
  go_loopw [10] (fun i wr => ∃ n : Nat, n ≤ l.length ∧ i = .int .i64 n ∧ Below w.heap.size w wr ∧ Hid (Clk wr A2 c2 C)) (fun i _ => l.length - (intOf i).toNat)
  case atStart => exact ⟨0, Nat.zero_le _, rfl, hW2, HO2⟩
  case round =>
    clear HO2 hW2
    obtain ⟨n, hn, rfl, hB, HO⟩ := hrel
    by_cases hlt : n < l.length
    · obtain ⟨bl, off, rfl, hbk, hcells⟩ := H.out.marks.open_ (show 0 < l.length by omega)
      obtain ⟨u, v, hx⟩ := getM_of_lt hlt
      have f0 := (hB.cell (p := ⟨bl, off + n * 2, none⟩) hbk).trans (hcells _ _ hx).1
      have f1 := (hB.cell (p := ⟨bl, off + n * 2 + 1, none⟩) hbk).trans (hcells _ _ hx).2
      have HM := Lib.hid (List.mem_of_getElem? hx)
      have g0 := hcells _ _ hx
      clear hcells hx
      go_wp2_with (first
        | (go_at_call 48; with_reducible refine (CO.out _ _ _ _ _ HM.out (H.out.marks.below hB)).mono ?_; rintro e w3 ⟨rfl, hB3⟩; have hW3 := below_step hB hB3; have HO3 := Lib.hid (HO.out.below hB3); have f0 := (hW3.cell (p := ⟨bl, off + n * 2, none⟩) hbk).trans g0.1; have f1 := (hW3.cell (p := ⟨bl, off + n * 2 + 1, none⟩) hbk).trans g0.2; clear hB3)
        | (go_at_call 48; with_reducible refine (CK.out _ _ _ _ _ HM.out HO3.out.marks).mono ?_; rintro e w4 ⟨rfl, hB4⟩; have hW4 := below_step hW3 hB4; have HO4 := Lib.hid (HO3.out.below hB4); clear hB4)
        | fail)
      go_roundw
      case rel => exact ⟨n + 1, by omega, by go_num, hW4, HO4⟩
      case measure => simp [intOf]; omega
    · obtain rfl : n = l.length := by omega
      go_wp2_with (first
        | (go_at_call 18; with_reducible refine (CP.out _).mono ?_; rintro e w5 ⟨rfl, rfl⟩)
        | fail)
      rw [EP.out]
      obtain ⟨W6, e6, hW6, HO6, Y6, M6⟩ : ∃ W6, (wr.alloc (.cells #[.int .i64 (k : Int), .int .i64 (a : Int)] 43)).alloc (.cells #[.int .i64 (k : Int), .int .i64 (a : Int)] 43) = W6 ∧ Below w.heap.size w W6 ∧ Hid (Clk W6 A2 c2 C) ∧ Hid (W6.heap[wr.heap.size]? = some (.cells #[.int .i64 (k : Int), .int .i64 (a : Int)] 43 (0, 0))) ∧ Hid (Marks W6 (some ⟨wr.heap.size + 1, 0, none⟩) [((k : Int), (a : Int))]) := by
        have b1 : Below wr.heap.size wr (wr.alloc (.cells #[.int .i64 (k : Int), .int .i64 (a : Int)] 43)) := Below.alloc (Below.refl _ _) (Nat.le_refl _) _
        have b2 : Below (wr.alloc (.cells #[.int .i64 (k : Int), .int .i64 (a : Int)] 43)).heap.size (wr.alloc (.cells #[.int .i64 (k : Int), .int .i64 (a : Int)] 43)) ((wr.alloc (.cells #[.int .i64 (k : Int), .int .i64 (a : Int)] 43)).alloc (.cells #[.int .i64 (k : Int), .int .i64 (a : Int)] 43)) := Below.alloc (Below.refl _ _) (Nat.le_refl _) _
        exact ⟨_, rfl, below_step (below_step hB b1) b2, Lib.hid ((HO.out.below b1).below b2), Lib.hid (cel_step (heap_alloc_new wr _) b2), Lib.hid (one_marks _ _ _ _ (by simp))⟩
      rw [e6]
      clear e6
      have y0 := blk_cell Y6.out 0 (u := .int .i64 (k : Int)) rfl
      have y1 := blk_cell Y6.out 1 (u := .int .i64 (a : Int)) rfl
      go_wp2_with (first
        | (go_at_call 52; with_reducible refine (CB.out _ _ _ _ _ (H.out.marks.below hW6) M6.out).mono ?_; rintro e w7 ⟨A7, c7, rfl, hO7, hB7⟩; have hW7 := below_step hW6 hB7; have HO7 := Lib.hid (HO6.out.below hB7); have Y7 := Lib.hid (cel_step Y6.out hB7); have y0 := blk_cell Y7.out 0 (u := .int .i64 (k : Int)) rfl; have y1 := blk_cell Y7.out 1 (u := .int .i64 (a : Int)) rfl; clear hB7)
        | (go_at_call 48; with_reducible refine (CH.out _ _ _ HO7.out.marks).mono ?_; rintro e w8 ⟨rfl, hB8⟩; have hW8 := below_step hW7 hB8; have HO8 := Lib.hid (HO7.out.below hB8); have Y8 := Lib.hid (cel_step Y7.out hB8); have y0 := blk_cell Y8.out 0 (u := .int .i64 (k : Int)) rfl; have y1 := blk_cell Y8.out 1 (u := .int .i64 (a : Int)) rfl; clear hB8)
        | (go_at_call 52; with_reducible refine (CT.out _ _ _ _ _ (HO8.out.marks.below (Below.alloc (Below.refl _ _) (Nat.le_refl _) _)) (one_marks _ _ _ _ rfl)).mono ?_; rintro e w9 ⟨A9, c9, rfl, hO9, hB9⟩; have hW9 := below_step (below_step hW8 (Below.alloc (Below.refl _ _) (Nat.le_refl _) _)) hB9; clear hB9)
        | (go_at_call 28; refine (sane_any _).mono ?_; rintro e w10 ⟨rfl, hB10⟩)
        | fail)
      go_ret
      exact ⟨rfl, below_step hW9 hB10⟩
end Go.Proofs.Ytnnfnphmieikmaa
