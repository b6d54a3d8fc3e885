/-
  The walk of AlertEither: it returns true, whatever it is given.
-/
import Derived.Test.YthanmiifcpajhaaSane
import Derived.Test.YthanmiifcpajhaaEitherM
set_option linter.unusedVariables false
set_option linter.unusedSimpArgs false
namespace Go.Proofs.Ythanmiifcpajhaa
open Go Go.RowKit Go.Shelf

/-- What is known of the answers, all together. -/
structure EiK (c ot ov : Bool) (m L A B E K O n s0 s1 : Int) : Prop where
  m1 : -1200 ≤ m
  m2 : m ≤ 100
  m3 : c = decide (0 ≤ m)
  len : c = decide (L = 0)
  e : E = if c then 5 else 0
  k : K = 0 ∨ K = 81
  o : (O = 0 ∧ 0 ≤ s0 ∧ s0 ≤ 100 ∧ 0 ≤ s1 ∧ s1 ≤ 100 ∧ 0 ≤ n ∧ n ≤ 1200 ∧ m ≤ s1 - s0 - n) ∨ O = 2
  ot : ot = true → c = true
  ov : ov = true → c = false
theorem ei_of {ts : List (Int × Int × Int)} {ps : List Int} {s0 s1 : Int} (hv : vaB ts = true) : EiK (canB ts) (daV ts ps) (ioV ts s0 s1 1) (mnS ts allS) (udL ts (urF ts)).length (ovA ts) (ovB ts) (ovE ts) (erE ts ps) (deE ts s0 s1) (deV ts s0 s1) s0 s1 := by
  have hm := mnS_bd hv allS
  refine ⟨hm.1, hm.2, can_slack hv, ?_, ?_, ?_, ?_, da_can hv, io_can hv⟩
  · rw [← cu_can hv, Bool.eq_iff_iff]; simp
  · cases hc : canB ts with
    | true => rw [ov_yes hv hc]; rfl
    | false => rw [(ov_no hv hc).1]; rfl
  · rw [er_yes hv]
    cases hi : isP ts.length ps with
    | true => exact .inl (pl_yes hi).2
    | false => exact .inr (pl_no hi).2
  · cases hs : isB s0 s1 with
    | true =>
      have hd := dm_bd hv s0 s1
      have hb := sl_min (ts := ts) hs
      have hi : 0 ≤ s0 ∧ s0 < s1 ∧ s1 ≤ 100 := by simpa [isB] using hs
      rw [(de_o hv hs).1, (de_o hv hs).2]
      exact .inl ⟨rfl, by omega, by omega, by omega, by omega, hd.1, hd.2, hb⟩
    | false => exact .inr (de_a hv hs).1
theorem io_err {ts : List (Int × Int × Int)} {s0 s1 : Int} (hv : vaB ts = true) : ioE ts s0 s1 1 = deE ts s0 s1 := by
  cases hs : isB s0 s1 with
  | true => rw [(io_o (k := 1) hv hs (by decide)).1, (de_o hv hs).1]
  | false => rw [(io_a (k := 1) hv (by rw [hs]; rfl)).1, (de_a hv hs).1]

set_option maxRecDepth 100000 in
set_option maxHeartbeats 8000000 in
theorem either_core (ts : List (Int × Int × Int)) (A : Option Addr) (cap : Nat) (ps : List Int) (B : Option Addr) (cb : Nat) (s0 s1 : Int) (w : World) (c ot ov : Bool) (m A1 B1 E K O n : Int) (L : Nat) (H : Marks (w.alloc (.cells #[.int .i64 s0, .int .i64 s1] 42)) A ts)
    (hp : ps.length ≤ 300) (hE : EiK c ot ov m L A1 B1 E K O n s0 s1)
    (h1 : ∀ W, Calls Try.prog 15 #[.slice A ts.length cap] W fun e w' => e = .returned (.bool false) ∧ W = w')
    (h2 : ∀ W, Below (w.alloc (.cells #[.int .i64 s0, .int .i64 s1] 42)).heap.size (w.alloc (.cells #[.int .i64 s0, .int .i64 s1] 42)) W → Calls Try.prog 20 #[.slice A ts.length cap] W fun e w' => e = .returned (.bool true) ∧ Below W.heap.size W w')
    (h3 : ∀ W, Below (w.alloc (.cells #[.int .i64 s0, .int .i64 s1] 42)).heap.size (w.alloc (.cells #[.int .i64 s0, .int .i64 s1] 42)) W → Calls Try.prog 30 #[.slice A ts.length cap] W fun e w' => e = .returned (.tuple #[.bool c, .int .i64 0]) ∧ Below W.heap.size W w')
    (h4 : ∀ W, Below (w.alloc (.cells #[.int .i64 s0, .int .i64 s1] 42)).heap.size (w.alloc (.cells #[.int .i64 s0, .int .i64 s1] 42)) W → Calls Try.prog 28 #[.slice A ts.length cap] W fun e w' => ∃ D d, e = .returned (.tuple #[.slice D (upL ts).length d, .int .i64 0]) ∧ Out w' D d (upL ts) ∧ Below W.heap.size W w')
    (h5 : ∀ W D d, Below (w.alloc (.cells #[.int .i64 s0, .int .i64 s1] 42)).heap.size (w.alloc (.cells #[.int .i64 s0, .int .i64 s1] 42)) W → Out W D d (upL ts) → Calls Try.prog 21 #[.slice A ts.length cap, .slice D (upL ts).length d] W fun e w' => e = .returned (.tuple #[.bool c, .int .i64 0]) ∧ Below W.heap.size W w')
    (h6 : ∀ W, Below (w.alloc (.cells #[.int .i64 s0, .int .i64 s1] 42)).heap.size (w.alloc (.cells #[.int .i64 s0, .int .i64 s1] 42)) W → Calls Try.prog 38 #[.slice A ts.length cap] W fun e w' => e = .returned (.tuple #[.int .i64 m, .int .i64 0]) ∧ Below W.heap.size W w')
    (h7 : ∀ W, Below (w.alloc (.cells #[.int .i64 s0, .int .i64 s1] 42)).heap.size (w.alloc (.cells #[.int .i64 s0, .int .i64 s1] 42)) W → Calls Try.prog 40 #[.slice A ts.length cap] W fun e w' => e = .returned (.tuple #[.int .i64 A1, .int .i64 B1, .int .i64 E]) ∧ Below W.heap.size W w')
    (h8 : ∀ W, Below (w.alloc (.cells #[.int .i64 s0, .int .i64 s1] 42)).heap.size (w.alloc (.cells #[.int .i64 s0, .int .i64 s1] 42)) W → Calls Try.prog 32 #[.slice A ts.length cap] W fun e w' => ∃ D d, e = .returned (.tuple #[.slice D L d, .int .i64 0]) ∧ Below W.heap.size W w')
    (h9 : c = false → ∀ W, Below (w.alloc (.cells #[.int .i64 s0, .int .i64 s1] 42)).heap.size (w.alloc (.cells #[.int .i64 s0, .int .i64 s1] 42)) W → Calls Try.prog 42 #[.slice A ts.length cap, .int .i64 A1, .int .i64 B1, .int .i64 1] W fun e w' => e = .returned (.tuple #[.bool true, .int .i64 0]) ∧ Below W.heap.size W w')
    (h10 : ∀ W, Below (w.alloc (.cells #[.int .i64 s0, .int .i64 s1] 42)).heap.size (w.alloc (.cells #[.int .i64 s0, .int .i64 s1] 42)) W → Calls Try.prog 21 #[.slice A ts.length cap, .slice B ps.length cb] W fun e w' => e = .returned (.tuple #[.bool ot, .int .i64 K]) ∧ Below W.heap.size W w')
    (h11 : ∀ W, Below (w.alloc (.cells #[.int .i64 s0, .int .i64 s1] 42)).heap.size (w.alloc (.cells #[.int .i64 s0, .int .i64 s1] 42)) W → Calls Try.prog 42 #[.slice A ts.length cap, .int .i64 s0, .int .i64 s1, .int .i64 1] W fun e w' => e = .returned (.tuple #[.bool ov, .int .i64 O]) ∧ Below W.heap.size W w')
    (h12 : ∀ W, Below (w.alloc (.cells #[.int .i64 s0, .int .i64 s1] 42)).heap.size (w.alloc (.cells #[.int .i64 s0, .int .i64 s1] 42)) W → Calls Try.prog 36 #[.slice A ts.length cap, .int .i64 s0, .int .i64 s1] W fun e w' => e = .returned (.tuple #[.int .i64 n, .int .i64 O]) ∧ Below W.heap.size W w') :
    Calls Try.prog 8 #[.slice A ts.length cap, .slice B ps.length cb, .agg #[.int .i64 s0, .int .i64 s1]] w fun e w' => e = .returned (.bool true) ∧ Below w.heap.size w w' := by
  have H1 := Lib.hid h1
  have H2 := Lib.hid h2
  have H3 := Lib.hid h3
  have H4 := Lib.hid h4
  have H5 := Lib.hid h5
  have H6 := Lib.hid h6
  have H7 := Lib.hid h7
  have H8 := Lib.hid h8
  have H9 := Lib.hid h9
  have H10 := Lib.hid h10
  have H11 := Lib.hid h11
  have H12 := Lib.hid h12
  have hW0 : Below (w.alloc (.cells #[.int .i64 s0, .int .i64 s1] 42)).heap.size (w.alloc (.cells #[.int .i64 s0, .int .i64 s1] 42)) (w.alloc (.cells #[.int .i64 s0, .int .i64 s1] 42)) := Below.refl _ _
  have TA : Hid True := Lib.hid trivial
  have TB : Hid True := Lib.hid trivial
  have B0 : Hid ((w.alloc (.cells #[.int .i64 s0, .int .i64 s1] 42)).cell? ⟨w.heap.size, 0, none⟩ = some (.int .i64 s0)) := Lib.hid (blk_cell (heap_alloc_new w _) 0 rfl)
  have B1' : Hid ((w.alloc (.cells #[.int .i64 s0, .int .i64 s1] 42)).cell? ⟨w.heap.size, 1, none⟩ = some (.int .i64 s1)) := Lib.hid (blk_cell (heap_alloc_new w _) 1 rfl)
  have hn : w.heap.size < (w.alloc (.cells #[.int .i64 s0, .int .i64 s1] 42)).heap.size := by simp
  have HN := Lib.hid hn
  obtain ⟨m1, m2, m3, hl, he, hk, ho, hot, hov⟩ := hE
  have tp : decide ((300 : Int) < (ps.length : Int)) = false := decide_eq_false (by omega)
  clear h1 h2 h3 h4 h5 h6 h7 h8 h9 h10 h11 h12 hn H hp
  cases c with
  | true =>
    have q1 : 0 ≤ m := by simpa using m3.symm
    have q2 : decide (0 ≤ m) = true := decide_eq_true q1
    obtain rfl : L = 0 := by have := hl.symm; simp at this; omega
    obtain rfl : E = 5 := he
    obtain rfl : ov = false := by cases ov with | false => rfl | true => cases hov rfl
    clear m3 hl hot hov
    rcases hk with rfl | rfl <;> rcases ho with ⟨rfl, s2, s3, s4, s5, n1, n2, hs⟩ | rfl <;> cases ot
    all_goals
      (try have q3 : decide (m ≤ s1 - s0 - n) = true := decide_eq_true hs)
      go_enter Try.func8, Try.ntmps8
      go_wp2_with (first
        | (go_at_call 15; refine (H1.out _).mono ?_; rintro e w' ⟨rfl, rfl⟩)
        | (go_at_call 20; refine (H2.out _ hW0).mono ?_; rintro e w1 ⟨rfl, hB1⟩; have hW1 := below_step hW0 hB1; clear hB1)
        | (go_at_call 30; refine (H3.out _ hW1).mono ?_; rintro e w2 ⟨rfl, hB2⟩; have hW2 := below_step hW1 hB2; clear hB2)
        | (go_at_call 28; refine (H4.out _ hW2).mono ?_; rintro e w3 ⟨D1, d1, rfl, hOO1, hB3⟩; have hW3 := below_step hW2 hB3; have O1 := Lib.hid hOO1; clear hOO1; clear hB3)
        | (go_at_call 21; clear TA; refine (H5.out _ _ _ hW3 O1.out).mono ?_; rintro e w4 ⟨rfl, hB4⟩; have hW4 := below_step hW3 hB4; clear hB4)
        | (go_at_call 38; refine (H6.out _ hW4).mono ?_; rintro e w5 ⟨rfl, hB5⟩; have hW5 := below_step hW4 hB5; clear hB5)
        | (go_at_call 40; refine (H7.out _ hW5).mono ?_; rintro e w6 ⟨rfl, hB6⟩; have hW6 := below_step hW5 hB6; clear hB6)
        | (go_at_call 32; refine (H8.out _ hW6).mono ?_; rintro e w7 ⟨D2, d2, rfl, hB7⟩; have hW7 := below_step hW6 hB7; clear hB7)
        | (go_at_call 21; refine (H10.out _ hW7).mono ?_; rintro e w8 ⟨rfl, hB8⟩; have hW8 := below_step hW7 hB8; clear hB8; have b0 := (hW8.cell (p := ⟨w.heap.size, 0, none⟩) HN.out).trans B0.out; have b1 := (hW8.cell (p := ⟨w.heap.size, 1, none⟩) HN.out).trans B1'.out)
        | (go_at_call 42; refine (H11.out _ hW8).mono ?_; rintro e w9 ⟨rfl, hB9⟩; have hW9 := below_step hW8 hB9; clear hB9; have b0 := (hW9.cell (p := ⟨w.heap.size, 0, none⟩) HN.out).trans B0.out; have b1 := (hW9.cell (p := ⟨w.heap.size, 1, none⟩) HN.out).trans B1'.out)
        | (go_at_call 36; refine (H12.out _ hW9).mono ?_; rintro e w10 ⟨rfl, hB10⟩; have hW10 := below_step hW9 hB10; clear hB10; have b0 := (hW10.cell (p := ⟨w.heap.size, 0, none⟩) HN.out).trans B0.out; have b1 := (hW10.cell (p := ⟨w.heap.size, 1, none⟩) HN.out).trans B1'.out)
        | (go_at_call 16; refine (sane_any _).mono ?_; rintro e w11 ⟨rfl, hB11⟩; have hW11 := below_step hW10 hB11; clear hB11)
        | fail)
      go_ret
      exact ⟨rfl, Below.trans (Below.alloc (Below.refl _ _) (Nat.le_refl _) _) (hW11.mono (Nat.le_of_lt HN.out))⟩
  | false =>
    have H9x := Lib.hid (H9.out rfl)
    clear H9
    have q1 : ¬ 0 ≤ m := by simpa using m3.symm
    have q2 : decide (0 ≤ m) = false := decide_eq_false q1
    have q4 : ((L : Int) == 0) = false := by have := hl.symm; simp at this; simp; omega
    obtain rfl : E = 0 := he
    obtain rfl : ot = false := by cases ot with | false => rfl | true => cases hot rfl
    clear m3 hl hot hov q1
    rcases hk with rfl | rfl <;> rcases ho with ⟨rfl, s2, s3, s4, s5, n1, n2, hs⟩ | rfl <;> cases ov
    all_goals
      (try have q3 : decide (m ≤ s1 - s0 - n) = true := decide_eq_true hs)
      go_enter Try.func8, Try.ntmps8
      go_wp2_with (first
        | (go_at_call 15; refine (H1.out _).mono ?_; rintro e w' ⟨rfl, rfl⟩)
        | (go_at_call 20; refine (H2.out _ hW0).mono ?_; rintro e w1 ⟨rfl, hB1⟩; have hW1 := below_step hW0 hB1; clear hB1)
        | (go_at_call 30; refine (H3.out _ hW1).mono ?_; rintro e w2 ⟨rfl, hB2⟩; have hW2 := below_step hW1 hB2; clear hB2)
        | (go_at_call 28; refine (H4.out _ hW2).mono ?_; rintro e w3 ⟨D1, d1, rfl, hOO1, hB3⟩; have hW3 := below_step hW2 hB3; have O1 := Lib.hid hOO1; clear hOO1; clear hB3)
        | (go_at_call 21; clear TA; refine (H5.out _ _ _ hW3 O1.out).mono ?_; rintro e w4 ⟨rfl, hB4⟩; have hW4 := below_step hW3 hB4; clear hB4)
        | (go_at_call 38; refine (H6.out _ hW4).mono ?_; rintro e w5 ⟨rfl, hB5⟩; have hW5 := below_step hW4 hB5; clear hB5)
        | (go_at_call 40; refine (H7.out _ hW5).mono ?_; rintro e w6 ⟨rfl, hB6⟩; have hW6 := below_step hW5 hB6; clear hB6)
        | (go_at_call 32; refine (H8.out _ hW6).mono ?_; rintro e w7 ⟨D2, d2, rfl, hB7⟩; have hW7 := below_step hW6 hB7; clear hB7)
        | (go_at_call 42; clear TB; refine (H9x.out _ hW7).mono ?_; rintro e w8 ⟨rfl, hB8⟩; have hW8 := below_step hW7 hB8; clear hB8)
        | (go_at_call 21; refine (H10.out _ hW8).mono ?_; rintro e w9 ⟨rfl, hB9⟩; have hW9 := below_step hW8 hB9; clear hB9; have b0 := (hW9.cell (p := ⟨w.heap.size, 0, none⟩) HN.out).trans B0.out; have b1 := (hW9.cell (p := ⟨w.heap.size, 1, none⟩) HN.out).trans B1'.out)
        | (go_at_call 42; refine (H11.out _ hW9).mono ?_; rintro e w10 ⟨rfl, hB10⟩; have hW10 := below_step hW9 hB10; clear hB10; have b0 := (hW10.cell (p := ⟨w.heap.size, 0, none⟩) HN.out).trans B0.out; have b1 := (hW10.cell (p := ⟨w.heap.size, 1, none⟩) HN.out).trans B1'.out)
        | (go_at_call 36; refine (H12.out _ hW10).mono ?_; rintro e w11 ⟨rfl, hB11⟩; have hW11 := below_step hW10 hB11; clear hB11; have b0 := (hW11.cell (p := ⟨w.heap.size, 0, none⟩) HN.out).trans B0.out; have b1 := (hW11.cell (p := ⟨w.heap.size, 1, none⟩) HN.out).trans B1'.out)
        | (go_at_call 16; refine (sane_any _).mono ?_; rintro e w12 ⟨rfl, hB12⟩; have hW12 := below_step hW11 hB12; clear hB12)
        | fail)
      go_ret
      exact ⟨rfl, Below.trans (Below.alloc (Below.refl _ _) (Nat.le_refl _) _) (hW12.mono (Nat.le_of_lt HN.out))⟩

set_option maxRecDepth 100000 in
set_option maxHeartbeats 4000000 in
theorem alertEither_walk (ts : List (Int × Int × Int)) (A : Option Addr) (cap : Nat) (ps : List Int) (B : Option Addr) (cb : Nat) (s0 s1 : Int) (w : World) (hA : Marks w A ts) (hc : ts.length ≤ cap) (hc0 : cap ≤ maxLen) (hB : Ints w B ps) (hd : ps.length ≤ cb) (hd0 : cb ≤ maxLen) (_h0 : (Lit.int .i64 s0).wf = true) (_h1 : (Lit.int .i64 s1).wf = true) :
    Calls Try.prog 8 #[.slice A ts.length cap, .slice B ps.length cb, .agg #[.int .i64 s0, .int .i64 s1]] w fun e w' => e = .returned (.bool true) ∧ Below w.heap.size w w' := by
  have hl : ts.length ≤ maxLen := Nat.le_trans hc hc0
  have hps : ps.length ≤ maxLen := Nat.le_trans hd hd0
  have hBa : Below w.heap.size w (w.alloc (.cells #[.int .i64 s0, .int .i64 s1] 42)) := Below.alloc (Below.refl _ _) (Nat.le_refl _) _
  have h : Marks (w.alloc (.cells #[.int .i64 s0, .int .i64 s1] 42)) A ts := hA.below hBa
  have hq : Ints (w.alloc (.cells #[.int .i64 s0, .int .i64 s1] 42)) B ps := hB.below hBa
  have short : ∀ b : Bool, decide (40 < ts.length) = b → ∀ W, Calls Try.prog 15 #[.slice A ts.length cap] W fun e w' => e = .returned (.bool b) ∧ W = w' := fun b hb W => (long_any ts A cap W).mono fun _ _ h => ⟨by rw [h.1, hb], h.2⟩
  have val : ∀ b : Bool, vaB ts = b → ∀ W, Below (w.alloc (.cells #[.int .i64 s0, .int .i64 s1] 42)).heap.size (w.alloc (.cells #[.int .i64 s0, .int .i64 s1] 42)) W → Calls Try.prog 20 #[.slice A ts.length cap] W fun e w' => e = .returned (.bool b) ∧ Below W.heap.size W w' := fun b hb W hW => (refValid_any ts A cap W (h.below hW) hl).mono fun _ _ ⟨h, n, hn⟩ => ⟨by rw [h, hb], by rw [hn]; exact below_drewN (Below.refl _ _) _⟩
  have hW0 : Below (w.alloc (.cells #[.int .i64 s0, .int .i64 s1] 42)).heap.size (w.alloc (.cells #[.int .i64 s0, .int .i64 s1] 42)) (w.alloc (.cells #[.int .i64 s0, .int .i64 s1] 42)) := Below.refl _ _
  have HN : Hid (w.heap.size < (w.alloc (.cells #[.int .i64 s0, .int .i64 s1] 42)).heap.size) := Lib.hid (by simp)
  cases hm : decide (40 < ts.length) with
  | true =>
    have H1 := Lib.hid (short true hm)
    clear hm short val h hq hA hB
    go_enter Try.func8, Try.ntmps8
    go_wp2_with (first
      | (go_at_call 15; refine (H1.out _).mono ?_; rintro e w' ⟨rfl, rfl⟩)
      | (go_at_call 16; refine (sane_any _).mono ?_; rintro e w1 ⟨rfl, hB1⟩; have hW1 := below_step hW0 hB1; clear hB1)
      | fail)
    go_ret
    exact ⟨rfl, Below.trans (Below.alloc (Below.refl _ _) (Nat.le_refl _) _) (hW1.mono (Nat.le_of_lt HN.out))⟩
  | false =>
    have H1 := Lib.hid (short false hm)
    cases hv : vaB ts with
    | false =>
      have H2 := Lib.hid (val false hv)
      clear hm short val h hq hA hB hv
      go_enter Try.func8, Try.ntmps8
      go_wp2_with (first
        | (go_at_call 15; refine (H1.out _).mono ?_; rintro e w' ⟨rfl, rfl⟩)
        | (go_at_call 20; refine (H2.out _ hW0).mono ?_; rintro e w1 ⟨rfl, hB1⟩; have hW1 := below_step hW0 hB1; clear hB1)
        | (go_at_call 16; refine (sane_any _).mono ?_; rintro e w2 ⟨rfl, hB2⟩; have hW2 := below_step hW1 hB2; clear hB2)
        | fail)
      go_ret
      exact ⟨rfl, Below.trans (Below.alloc (Below.refl _ _) (Nat.le_refl _) _) (hW2.mono (Nat.le_of_lt HN.out))⟩
    | true =>
      by_cases hp : 300 < ps.length
      · have H2 := Lib.hid (val true hv)
        have tp : decide ((300 : Int) < (ps.length : Int)) = true := decide_eq_true (by omega)
        clear hm short val h hq hA hB hv hp
        go_enter Try.func8, Try.ntmps8
        go_wp2_with (first
          | (go_at_call 15; refine (H1.out _).mono ?_; rintro e w' ⟨rfl, rfl⟩)
          | (go_at_call 20; refine (H2.out _ hW0).mono ?_; rintro e w1 ⟨rfl, hB1⟩; have hW1 := below_step hW0 hB1; clear hB1)
          | (go_at_call 16; refine (sane_any _).mono ?_; rintro e w2 ⟨rfl, hB2⟩; have hW2 := below_step hW1 hB2; clear hB2)
          | fail)
        go_ret
        exact ⟨rfl, Below.trans (Below.alloc (Below.refl _ _) (Nat.le_refl _) _) (hW2.mono (Nat.le_of_lt HN.out))⟩
      · have ta := ta_yes hv
        have hE := ei_of (ps := ps) (s0 := s0) (s1 := s1) hv
        refine either_core ts A cap ps B cb s0 s1 w _ _ _ _ _ _ _ _ _ _ _ h (by omega) hE (short false hm) (val true hv) ?_ ?_ ?_ ?_ ?_ ?_ ?_ ?_ ?_ ?_
        · exact fun W hW => (canX_any ts A cap W (h.below hW) hl).mono fun _ _ h => ⟨by rw [h.1, ta.1, ta.2.2.1], h.2⟩
        · exact fun W hW => (urgentX_any ts A cap W (h.below hW) hl).mono fun _ _ ⟨D, d, h1, h2, h3⟩ => ⟨D, d, by rw [h1, ta.1, ta.2.1]; rfl, by rw [ta.2.1] at h2; exact h2, h3⟩
        · exact fun W D d hW hO => (doesX_any ts A cap (upL ts) D d W (h.below hW) hl hO.ints (Nat.le_trans hO.le hO.cap)).mono fun _ _ h => ⟨by rw [h.1, up_da hv, up_er hv], h.2⟩
        · exact fun W hW => slackX_any ts A cap W (h.below hW) hv |>.mono fun _ _ h => h
        · exact fun W hW => over_any ts A cap W (h.below hW) hv
        · exact fun W hW => (undoneX_any ts A cap W (h.below hW) hl).mono fun _ _ ⟨D, d, h1, h2, h3⟩ => ⟨D, d, by rw [h1, ta.1, ta.2.2.2.1], h3⟩
        · exact fun hc W hW => (isOver_any ts A cap (ovA ts) (ovB ts) 1 W (h.below hW) hl).mono fun _ _ h => ⟨by rw [h.1, (io_ov hv hc).1, (io_ov hv hc).2], h.2⟩
        · exact fun W hW => doesX_any ts A cap ps B cb W (h.below hW) hl (hq.below hW) hps
        · exact fun W hW => (isOver_any ts A cap s0 s1 1 W (h.below hW) hl).mono fun _ _ h => ⟨by rw [h.1, io_err hv], h.2⟩
        · exact fun W hW => demandX_any ts A cap s0 s1 W (h.below hW) hl
end Go.Proofs.Ythanmiifcpajhaa
