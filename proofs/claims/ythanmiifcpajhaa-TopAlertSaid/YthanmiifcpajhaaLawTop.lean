/-
  The walk of TopAlert: it returns true, whatever it is given.
-/
import Derived.Test.YthanmiifcpajhaaSane
import Derived.Test.YthanmiifcpajhaaEitherM
import Derived.Test.YthanmiifcpajhaaExchM
import Derived.Test.YthanmiifcpajhaaKeptM
set_option linter.unusedVariables false
set_option linter.unusedSimpArgs false
namespace Go.Proofs.Ythanmiifcpajhaa
open Go Go.RowKit Go.Shelf

theorem to_er {ts : List (Int × Int × Int)} {ps : List Int} (hv : vaB ts = true) : erE ts ps = 0 ∨ erE ts ps = 81 := by
  rw [er_yes hv]
  cases hi : isP ts.length ps with
  | true => exact .inl (pl_yes hi).2
  | false => exact .inr (pl_no hi).2
theorem to_free {ts : List (Int × Int × Int)} {ps : List Int} (hv : vaB ts = true) (h : riV ts ps = true) : frV ts (upL ts) ≤ frV ts ps := by
  obtain ⟨h1, h2⟩ := rt_of h
  rw [up_fr hv, (ri_o h1).2.2]
  exact free_least hv h2
theorem to_ri {ts : List (Int × Int × Int)} {ps : List Int} (h : erE ts ps = 81) : riV ts ps = false := by
  cases hr : riV ts ps with
  | false => rfl
  | true => have := (rt_of hr).1; omega
theorem to_bd (ts : List (Int × Int × Int)) (ps : List Int) : 0 ≤ frV ts ps ∧ frV ts ps ≤ 100 := by
  unfold frV; split
  · have : 0 ≤ frI (pF ps) 100 ∧ frI (pF ps) 100 ≤ 100 := nb_nn _ 100
    omega
  · omega
theorem to_io {ts : List (Int × Int × Int)} {s0 s1 : Int} (hv : vaB ts = true) : ioE ts s0 s1 1 = 0 ∨ ioE ts s0 s1 1 = 2 := by
  cases hs : isB s0 s1 with
  | true => exact .inl (io_o (k := 1) hv hs (by decide)).1
  | false => exact .inr (io_a (k := 1) hv (by rw [hs]; rfl)).1

set_option maxRecDepth 100000 in
set_option maxHeartbeats 8000000 in
theorem top_core (ts T : List (Int × Int × Int)) (L : List Int) (A : Option Addr) (cap : Nat) (ps : List Int) (B : Option Addr) (cb : Nat) (s0 s1 : Int) (w : World) (c ot ov ri : Bool) (A1 B1 E K O fu N : Int) (hH : Marks (w.alloc (.cells #[.int .i64 s0, .int .i64 s1] 42)) A ts) (hts : 1 ≤ ts.length ∧ ts.length ≤ 12)
    (hp : ps.length ≤ 300) (he : E = if c then 5 else 0) (hk : K = 0 ∨ K = 81) (ho : O = 0 ∨ O = 2) (hot : ot = true → c = true) (hov : ov = true → c = false) (hri : K = 81 → ri = false) (hN : ri = true → fu ≤ N) (hf : 0 ≤ fu ∧ fu ≤ 100) (hn : 0 ≤ N ∧ N ≤ 100)
    (hLT : T.length = L.length) (hLn : L.length ≤ ts.length) (hix : ∀ i, i < L.length → ∃ j : Nat, j < ts.length ∧ L[i]? = some (j : Int) ∧ T[i]? = ts[j]?) (hc : c = decide (T.length = ts.length))
    (h1 : ∀ W, Calls Try.prog 15 #[.slice A ts.length cap] W fun e w' => e = .returned (.bool false) ∧ W = w')
    (h2 : ∀ W, Below (w.alloc (.cells #[.int .i64 s0, .int .i64 s1] 42)).heap.size (w.alloc (.cells #[.int .i64 s0, .int .i64 s1] 42)) W → Calls Try.prog 20 #[.slice A ts.length cap] W fun e w' => e = .returned (.bool true) ∧ Below W.heap.size W w')
    (h3 : ∀ W, Below (w.alloc (.cells #[.int .i64 s0, .int .i64 s1] 42)).heap.size (w.alloc (.cells #[.int .i64 s0, .int .i64 s1] 42)) W → Calls Try.prog 28 #[.slice A ts.length cap] W fun e w' => ∃ D d, e = .returned (.tuple #[.slice D (upL ts).length d, .int .i64 0]) ∧ Out w' D d (upL ts) ∧ Below W.heap.size W w')
    (h4 : ∀ W, Below (w.alloc (.cells #[.int .i64 s0, .int .i64 s1] 42)).heap.size (w.alloc (.cells #[.int .i64 s0, .int .i64 s1] 42)) W → Calls Try.prog 40 #[.slice A ts.length cap] W fun e w' => e = .returned (.tuple #[.int .i64 A1, .int .i64 B1, .int .i64 E]) ∧ Below W.heap.size W w')
    (h5 : ∀ W D d, Below (w.alloc (.cells #[.int .i64 s0, .int .i64 s1] 42)).heap.size (w.alloc (.cells #[.int .i64 s0, .int .i64 s1] 42)) W → Out W D d (upL ts) → Calls Try.prog 21 #[.slice A ts.length cap, .slice D (upL ts).length d] W fun e w' => e = .returned (.tuple #[.bool c, .int .i64 0]) ∧ Below W.heap.size W w')
    (h6 : c = false → ∀ W, Below (w.alloc (.cells #[.int .i64 s0, .int .i64 s1] 42)).heap.size (w.alloc (.cells #[.int .i64 s0, .int .i64 s1] 42)) W → Calls Try.prog 43 #[.slice A ts.length cap, .int .i64 A1, .int .i64 B1, .int .i64 1] W fun e w' => e = .returned (.tuple #[.bool true, .int .i64 0]) ∧ Below W.heap.size W w')
    (h7 : ∀ W, Below (w.alloc (.cells #[.int .i64 s0, .int .i64 s1] 42)).heap.size (w.alloc (.cells #[.int .i64 s0, .int .i64 s1] 42)) W → Calls Try.prog 21 #[.slice A ts.length cap, .slice B ps.length cb] W fun e w' => e = .returned (.tuple #[.bool ot, .int .i64 K]) ∧ Below W.heap.size W w')
    (h8 : ∀ W, Below (w.alloc (.cells #[.int .i64 s0, .int .i64 s1] 42)).heap.size (w.alloc (.cells #[.int .i64 s0, .int .i64 s1] 42)) W → Calls Try.prog 42 #[.slice A ts.length cap, .int .i64 s0, .int .i64 s1, .int .i64 1] W fun e w' => e = .returned (.tuple #[.bool ov, .int .i64 O]) ∧ Below W.heap.size W w')
    (h9 : ∀ W, Below (w.alloc (.cells #[.int .i64 s0, .int .i64 s1] 42)).heap.size (w.alloc (.cells #[.int .i64 s0, .int .i64 s1] 42)) W → Calls Try.prog 17 #[.slice A ts.length cap, .slice B ps.length cb] W fun e w' => e = .returned (.tuple #[.bool ri, .int .i64 K]) ∧ Below W.heap.size W w')
    (h10 : ∀ W D d, Below (w.alloc (.cells #[.int .i64 s0, .int .i64 s1] 42)).heap.size (w.alloc (.cells #[.int .i64 s0, .int .i64 s1] 42)) W → Out W D d (upL ts) → Calls Try.prog 25 #[.slice A ts.length cap, .slice D (upL ts).length d] W fun e w' => e = .returned (.tuple #[.int .i64 fu, .int .i64 0]) ∧ Below W.heap.size W w')
    (h11 : ∀ W, Below (w.alloc (.cells #[.int .i64 s0, .int .i64 s1] 42)).heap.size (w.alloc (.cells #[.int .i64 s0, .int .i64 s1] 42)) W → Calls Try.prog 25 #[.slice A ts.length cap, .slice B ps.length cb] W fun e w' => e = .returned (.tuple #[.int .i64 N, .int .i64 K]) ∧ Below W.heap.size W w')
    (h12 : ∀ W, Below (w.alloc (.cells #[.int .i64 s0, .int .i64 s1] 42)).heap.size (w.alloc (.cells #[.int .i64 s0, .int .i64 s1] 42)) W → Calls Try.prog 53 #[.slice A ts.length cap] W fun e w' => ∃ D d, e = .returned (.tuple #[.slice D L.length d, .int .i64 0]) ∧ Out w' D d L ∧ Below W.heap.size W w')
    (h13 : ∀ W D d, Clk W D d T → 0 < T.length → Calls Try.prog 28 #[.slice D T.length d] W fun e w' => ∃ G g, e = .returned (.tuple #[.slice G (upL T).length g, .int .i64 0]) ∧ Out w' G g (upL T) ∧ Below W.heap.size W w')
    (h14 : ∀ W D d G g, Clk W D d T → 0 < T.length → Out W G g (upL T) → Calls Try.prog 21 #[.slice D T.length d, .slice G (upL T).length g] W fun e w' => e = .returned (.tuple #[.bool true, .int .i64 0]) ∧ Below W.heap.size W w') :
    Calls Try.prog 14 #[.slice A ts.length cap, .slice B ps.length cb, .agg #[.int .i64 s0, .int .i64 s1]] w fun e w' => e = .returned (.bool true) ∧ Below w.heap.size w w' := by
  have H1 := Lib.hid h1
  have H2 := Lib.hid h2
  have H3 := Lib.hid h3
  have H4 := Lib.hid h4
  have H5 := Lib.hid h5
  have H6 := Lib.hid h6
  have H7 := Lib.hid h7
  have H8 := Lib.hid h8
  have H9 := Lib.hid h9
  have H10 := Lib.hid h10
  have H11 := Lib.hid h11
  have H12 := Lib.hid h12
  have H13 := Lib.hid h13
  have H14 := Lib.hid h14
  have HIX := Lib.hid hix
  obtain ⟨ht1, ht2⟩ := hts
  obtain ⟨bl, off, rfl, hbk, hcells⟩ := hH.open_ (show 0 < ts.length by omega)
  have HC := Lib.hid hcells
  have hW0 : Below (w.alloc (.cells #[.int .i64 s0, .int .i64 s1] 42)).heap.size (w.alloc (.cells #[.int .i64 s0, .int .i64 s1] 42)) (w.alloc (.cells #[.int .i64 s0, .int .i64 s1] 42)) := Below.refl _ _
  have TA : Hid True := Lib.hid trivial
  have TB : Hid True := Lib.hid trivial
  have TC : Hid True := Lib.hid trivial
  have B0 : Hid ((w.alloc (.cells #[.int .i64 s0, .int .i64 s1] 42)).cell? ⟨w.heap.size, 0, none⟩ = some (.int .i64 s0)) := Lib.hid (blk_cell (heap_alloc_new w _) 0 rfl)
  have B1' : Hid ((w.alloc (.cells #[.int .i64 s0, .int .i64 s1] 42)).cell? ⟨w.heap.size, 1, none⟩ = some (.int .i64 s1)) := Lib.hid (blk_cell (heap_alloc_new w _) 1 rfl)
  have hnn : w.heap.size < (w.alloc (.cells #[.int .i64 s0, .int .i64 s1] 42)).heap.size := by simp
  have HN := Lib.hid hnn
  have HTL := Lib.hid hLT
  have HBK := Lib.hid hbk
  obtain ⟨f1, f2⟩ := hf
  obtain ⟨n1, n2⟩ := hn
  have tp : decide ((300 : Int) < (ps.length : Int)) = false := decide_eq_false (by omega)
  clear h1 h2 h3 h4 h5 h6 h7 h8 h9 h10 h11 h12 h13 h14 hnn hH hp hix hcells hLT hbk
  cases c with
  | true =>
    obtain rfl : E = 5 := he
    obtain rfl : ov = false := by cases ov with | false => rfl | true => cases hov rfl
    have q1 : ((5 : Int) == 5) = true := rfl
    clear hot hov
    have HCC := Lib.hid hc
    clear hc
    rcases hk with rfl | rfl <;> rcases ho with rfl | rfl <;> cases ri
    all_goals first | (cases hri rfl; done) | skip
    all_goals
      (try have q3 : decide (N < fu) = false := decide_eq_false (by have := hN rfl; omega))
      clear hN hri
      go_enter Try.func14, Try.ntmps14
      go_wp2_with (first
        | (go_at_call 15; refine (H1.out _).mono ?_; rintro e w' ⟨rfl, rfl⟩)
        | (go_at_call 20; refine (H2.out _ hW0).mono ?_; rintro e w1 ⟨rfl, hB1⟩; have hW1 := below_step hW0 hB1; clear hB1)
        | (go_at_call 28; refine (H3.out _ hW1).mono ?_; rintro e w2 ⟨D1, d1, rfl, hOO1, hB2⟩; have hW2 := below_step hW1 hB2; have O1 := Lib.hid hOO1; clear hOO1; clear hB2)
        | (go_at_call 40; refine (H4.out _ hW2).mono ?_; rintro e w3 ⟨rfl, hB3⟩; have hW3 := below_step hW2 hB3; have O1 := Lib.hid (O1.out.below hB3); clear hB3)
        | (go_at_call 21; clear TA; refine (H5.out _ _ _ hW3 O1.out).mono ?_; rintro e w4 ⟨rfl, hB4⟩; have hW4 := below_step hW3 hB4; have O1 := Lib.hid (O1.out.below hB4); clear hB4; have b0 := (hW4.cell (p := ⟨w.heap.size, 0, none⟩) HN.out).trans B0.out; have b1 := (hW4.cell (p := ⟨w.heap.size, 1, none⟩) HN.out).trans B1'.out)
        | (go_at_call 42; refine (H8.out _ hW4).mono ?_; rintro e w5 ⟨rfl, hB5⟩; have hW5 := below_step hW4 hB5; have O1 := Lib.hid (O1.out.below hB5); clear hB5; have b0 := (hW5.cell (p := ⟨w.heap.size, 0, none⟩) HN.out).trans B0.out; have b1 := (hW5.cell (p := ⟨w.heap.size, 1, none⟩) HN.out).trans B1'.out)
        | (go_at_call 17; refine (H9.out _ hW5).mono ?_; rintro e w6 ⟨rfl, hB6⟩; have hW6 := below_step hW5 hB6; have O1 := Lib.hid (O1.out.below hB6); clear hB6)
        | (go_at_call 25; clear TC; refine (H10.out _ _ _ hW6 O1.out).mono ?_; rintro e w7 ⟨rfl, hB7⟩; have hW7 := below_step hW6 hB7; clear hB7)
        | (go_at_call 25; refine (H11.out _ hW7).mono ?_; rintro e w8 ⟨rfl, hB8⟩; have hW8 := below_step hW7 hB8; clear hB8)
        | (go_at_call 53; refine (H12.out _ hW8).mono ?_; rintro e w9 ⟨D2, d2, rfl, hOO2, hB9⟩; have hW9 := below_step hW8 hB9; have O2 := Lib.hid hOO2; clear hOO2; clear hB9)
        | fail)
      go_loopw [24, 25] (fun v i wr => ∃ k : Nat, k ≤ L.length ∧ i = .int .i64 k ∧ Hid (wr.ownsRow w9.heap.size 53 3 v k ((T.take k).flatMap mk3)) ∧ Below w9.heap.size w9 wr) (fun _ i _ => L.length - (intOf i).toNat)
      case atStart => exact ⟨0, Nat.zero_le _, rfl, Lib.hid ⟨rfl, .inl ⟨rfl, rfl⟩⟩, Below.refl _ _⟩
      case round =>
        obtain ⟨k, hk, rfl, hown, hB⟩ := hrel
        rename World => wr
        by_cases hlt : k < L.length
        · obtain ⟨j, hj, hLj, hTj⟩ := HIX.out k hlt
          obtain ⟨x, y, d, hx⟩ := getT_of_lt hj
          obtain ⟨bu, ou, rfl, hbu, hcu⟩ := O2.out.ints.open_ (by omega)
          have c0 := (hB.cell (p := ⟨bu, ou + k, none⟩) hbu).trans (hcu k j hLj)
          have hbw := HBK.out
          have hbl : bl < w9.heap.size := Nat.lt_of_lt_of_le hbw hW9.size
          have f0 := ((hB.cell (p := ⟨bl, off + j * 3, none⟩) hbl).trans (hW9.cell (p := ⟨bl, off + j * 3, none⟩) hbw)).trans (HC.out _ _ hx).1
          have f1 := ((hB.cell (p := ⟨bl, off + j * 3 + 1, none⟩) hbl).trans (hW9.cell (p := ⟨bl, off + j * 3 + 1, none⟩) hbw)).trans (HC.out _ _ hx).2.1
          have f2 := ((hB.cell (p := ⟨bl, off + j * 3 + 2, none⟩) hbl).trans (hW9.cell (p := ⟨bl, off + j * 3 + 2, none⟩) hbw)).trans (HC.out _ _ hx).2.2
          have HSN := Lib.hid (take_snoc (hTj.trans hx))
          have HTK : Hid ((T.take k).length = k) := Lib.hid (by rw [List.length_take, HTL.out]; omega)
          have u1 : decide ((j : Int) < 0) = false := by simp
          have u2 : decide ((ts.length : Int) ≤ (j : Int)) = false := decide_eq_false (by omega)
          have hsz := hB.size
          clear hLj hTj hx hcu hbw hbl
          go_wp2_with (at_builtin; refine wp_app_task _ rfl (.tmp 196) (.tmp 204) rfl w9.heap.size _ k (T.take k) x y d rfl hown.out rfl (by omega) hsz ?_; intro v2 w2 hown2 hB2)
          go_roundw
          case rel => exact ⟨k + 1, by omega, by go_num, Lib.hid (by rw [HSN.out]; exact hown2), Below.trans hB hB2⟩
          case measure => simp [intOf]; omega
        · obtain rfl : k = L.length := by omega
          have hown1 := hown.out
          rw [← HTL.out, List.take_length] at hown1
          obtain ⟨A9, c9, rfl, hC9⟩ := own_tasks hown1
          have HC9 := Lib.hid hC9
          clear hown hown1 hC9
          have hX0 : Below wr.heap.size wr wr := Below.refl _ _
          have HZ : Hid (Below (w.alloc (.cells #[.int .i64 s0, .int .i64 s1] 42)).heap.size (w.alloc (.cells #[.int .i64 s0, .int .i64 s1] 42)) wr) := Lib.hid (Below.trans hW9 (hB.mono hW9.size))
          have hq := of_decide_eq_true HCC.out.symm
          have z1 : ((T.length : Int) == (ts.length : Int)) = true := by rw [hq]; exact beq_self_eq_true _
          have z2 : ((T.length : Int) == 0) = false := beq_eq_false_iff_ne.2 (by omega)
          have HP9 : Hid (0 < T.length) := Lib.hid (by omega)
          clear hq
          have TD : Hid True := Lib.hid trivial
          have TE : Hid True := Lib.hid trivial
          go_wp2_with (first
            | (go_at_call 28; clear TE; refine (H13.out _ _ _ HC9.out HP9.out).mono ?_; rintro e x1 ⟨G1, g1, rfl, hOO3, hY1⟩; have HC9 := Lib.hid (HC9.out.below hY1); have hX1 := below_step hX0 hY1; have O3 := Lib.hid hOO3; clear hOO3; clear hY1)
            | (go_at_call 21; clear TD; refine (H14.out _ _ _ _ _ HC9.out HP9.out O3.out).mono ?_; rintro e x2 ⟨rfl, hY2⟩; have hX2 := below_step hX1 hY2; have O3 := Lib.hid (O3.out.below hY2); clear hY2)
            | (go_at_call 16; refine (sane_any _).mono ?_; rintro e x3 ⟨rfl, hY3⟩; have hX3 := below_step hX2 hY3; have O3 := Lib.hid (O3.out.below hY3); clear hY3)
            | fail)
          go_ret
          exact ⟨rfl, Below.trans (Below.alloc (Below.refl _ _) (Nat.le_refl _) _) (Below.mono (Below.trans HZ.out (Below.mono hX3 HZ.out.size)) (Nat.le_of_lt HN.out))⟩
  | false =>
    have H6x := Lib.hid (H6.out rfl)
    clear H6
    obtain rfl : E = 0 := he
    obtain rfl : ot = false := by cases ot with | false => rfl | true => cases hot rfl
    clear hot hov
    have HCC := Lib.hid hc
    clear hc
    rcases hk with rfl | rfl <;> cases ri
    all_goals first | (cases hri rfl; done) | skip
    all_goals
      (try have q3 : decide (N < fu) = false := decide_eq_false (by have := hN rfl; omega))
      clear hN hri
      go_enter Try.func14, Try.ntmps14
      go_wp2_with (first
        | (go_at_call 15; refine (H1.out _).mono ?_; rintro e w' ⟨rfl, rfl⟩)
        | (go_at_call 20; refine (H2.out _ hW0).mono ?_; rintro e w1 ⟨rfl, hB1⟩; have hW1 := below_step hW0 hB1; clear hB1)
        | (go_at_call 28; refine (H3.out _ hW1).mono ?_; rintro e w2 ⟨D1, d1, rfl, hOO1, hB2⟩; have hW2 := below_step hW1 hB2; have O1 := Lib.hid hOO1; clear hOO1; clear hB2)
        | (go_at_call 40; refine (H4.out _ hW2).mono ?_; rintro e w3 ⟨rfl, hB3⟩; have hW3 := below_step hW2 hB3; have O1 := Lib.hid (O1.out.below hB3); clear hB3)
        | (go_at_call 21; clear TA; refine (H5.out _ _ _ hW3 O1.out).mono ?_; rintro e w4 ⟨rfl, hB4⟩; have hW4 := below_step hW3 hB4; have O1 := Lib.hid (O1.out.below hB4); clear hB4)
        | (go_at_call 43; refine (H6x.out _ hW4).mono ?_; rintro e w5 ⟨rfl, hB5⟩; have hW5 := below_step hW4 hB5; have O1 := Lib.hid (O1.out.below hB5); clear hB5)
        | (go_at_call 21; clear TB; refine (H7.out _ hW5).mono ?_; rintro e w6 ⟨rfl, hB6⟩; have hW6 := below_step hW5 hB6; have O1 := Lib.hid (O1.out.below hB6); clear hB6)
        | (go_at_call 17; refine (H9.out _ hW6).mono ?_; rintro e w7 ⟨rfl, hB7⟩; have hW7 := below_step hW6 hB7; have O1 := Lib.hid (O1.out.below hB7); clear hB7)
        | (go_at_call 25; clear TC; refine (H10.out _ _ _ hW7 O1.out).mono ?_; rintro e w8 ⟨rfl, hB8⟩; have hW8 := below_step hW7 hB8; clear hB8)
        | (go_at_call 25; refine (H11.out _ hW8).mono ?_; rintro e w9 ⟨rfl, hB9⟩; have hW9 := below_step hW8 hB9; clear hB9)
        | (go_at_call 53; refine (H12.out _ hW9).mono ?_; rintro e w10 ⟨D2, d2, rfl, hOO2, hB10⟩; have hW10 := below_step hW9 hB10; have O2 := Lib.hid hOO2; clear hOO2; clear hB10)
        | fail)
      go_loopw [24, 25] (fun v i wr => ∃ k : Nat, k ≤ L.length ∧ i = .int .i64 k ∧ Hid (wr.ownsRow w10.heap.size 53 3 v k ((T.take k).flatMap mk3)) ∧ Below w10.heap.size w10 wr) (fun _ i _ => L.length - (intOf i).toNat)
      case atStart => exact ⟨0, Nat.zero_le _, rfl, Lib.hid ⟨rfl, .inl ⟨rfl, rfl⟩⟩, Below.refl _ _⟩
      case round =>
        obtain ⟨k, hk, rfl, hown, hB⟩ := hrel
        rename World => wr
        by_cases hlt : k < L.length
        · obtain ⟨j, hj, hLj, hTj⟩ := HIX.out k hlt
          obtain ⟨x, y, d, hx⟩ := getT_of_lt hj
          obtain ⟨bu, ou, rfl, hbu, hcu⟩ := O2.out.ints.open_ (by omega)
          have c0 := (hB.cell (p := ⟨bu, ou + k, none⟩) hbu).trans (hcu k j hLj)
          have hbw := HBK.out
          have hbl : bl < w10.heap.size := Nat.lt_of_lt_of_le hbw hW10.size
          have f0 := ((hB.cell (p := ⟨bl, off + j * 3, none⟩) hbl).trans (hW10.cell (p := ⟨bl, off + j * 3, none⟩) hbw)).trans (HC.out _ _ hx).1
          have f1 := ((hB.cell (p := ⟨bl, off + j * 3 + 1, none⟩) hbl).trans (hW10.cell (p := ⟨bl, off + j * 3 + 1, none⟩) hbw)).trans (HC.out _ _ hx).2.1
          have f2 := ((hB.cell (p := ⟨bl, off + j * 3 + 2, none⟩) hbl).trans (hW10.cell (p := ⟨bl, off + j * 3 + 2, none⟩) hbw)).trans (HC.out _ _ hx).2.2
          have HSN := Lib.hid (take_snoc (hTj.trans hx))
          have HTK : Hid ((T.take k).length = k) := Lib.hid (by rw [List.length_take, HTL.out]; omega)
          have u1 : decide ((j : Int) < 0) = false := by simp
          have u2 : decide ((ts.length : Int) ≤ (j : Int)) = false := decide_eq_false (by omega)
          have hsz := hB.size
          clear hLj hTj hx hcu hbw hbl
          go_wp2_with (at_builtin; refine wp_app_task _ rfl (.tmp 196) (.tmp 204) rfl w10.heap.size _ k (T.take k) x y d rfl hown.out rfl (by omega) hsz ?_; intro v2 w2 hown2 hB2)
          go_roundw
          case rel => exact ⟨k + 1, by omega, by go_num, Lib.hid (by rw [HSN.out]; exact hown2), Below.trans hB hB2⟩
          case measure => simp [intOf]; omega
        · obtain rfl : k = L.length := by omega
          have hown1 := hown.out
          rw [← HTL.out, List.take_length] at hown1
          obtain ⟨A9, c9, rfl, hC9⟩ := own_tasks hown1
          have HC9 := Lib.hid hC9
          clear hown hown1 hC9
          have hX0 : Below wr.heap.size wr wr := Below.refl _ _
          have HZ : Hid (Below (w.alloc (.cells #[.int .i64 s0, .int .i64 s1] 42)).heap.size (w.alloc (.cells #[.int .i64 s0, .int .i64 s1] 42)) wr) := Lib.hid (Below.trans hW10 (hB.mono hW10.size))
          have hq := of_decide_eq_false HCC.out.symm
          have z1 : ((T.length : Int) == (ts.length : Int)) = false := beq_eq_false_iff_ne.2 (by omega)
          clear hq
          by_cases hz : T.length = 0
          · have z2 : ((T.length : Int) == 0) = true := by simp [hz]
            clear hz
            go_wp2_with (first
              | (go_at_call 16; refine (sane_any _).mono ?_; rintro e x1 ⟨rfl, hY1⟩; have hX1 := below_step hX0 hY1; clear hY1)
              | fail)
            go_ret
            exact ⟨rfl, Below.trans (Below.alloc (Below.refl _ _) (Nat.le_refl _) _) (Below.mono (Below.trans HZ.out (Below.mono hX1 HZ.out.size)) (Nat.le_of_lt HN.out))⟩
          · have z2 : ((T.length : Int) == 0) = false := beq_eq_false_iff_ne.2 (by omega)
            have HP9 : Hid (0 < T.length) := Lib.hid (by omega)
            have TD : Hid True := Lib.hid trivial
            have TE : Hid True := Lib.hid trivial
            clear hz
            go_wp2_with (first
              | (go_at_call 28; clear TE; refine (H13.out _ _ _ HC9.out HP9.out).mono ?_; rintro e x1 ⟨G1, g1, rfl, hOO3, hY1⟩; have HC9 := Lib.hid (HC9.out.below hY1); have hX1 := below_step hX0 hY1; have O3 := Lib.hid hOO3; clear hOO3; clear hY1)
              | (go_at_call 21; clear TD; refine (H14.out _ _ _ _ _ HC9.out HP9.out O3.out).mono ?_; rintro e x2 ⟨rfl, hY2⟩; have hX2 := below_step hX1 hY2; have O3 := Lib.hid (O3.out.below hY2); clear hY2)
              | (go_at_call 16; refine (sane_any _).mono ?_; rintro e x3 ⟨rfl, hY3⟩; have hX3 := below_step hX2 hY3; have O3 := Lib.hid (O3.out.below hY3); clear hY3)
              | fail)
            go_ret
            exact ⟨rfl, Below.trans (Below.alloc (Below.refl _ _) (Nat.le_refl _) _) (Below.mono (Below.trans HZ.out (Below.mono hX3 HZ.out.size)) (Nat.le_of_lt HN.out))⟩

set_option maxRecDepth 100000 in
set_option maxHeartbeats 4000000 in
theorem topAlert_walk (ts : List (Int × Int × Int)) (A : Option Addr) (cap : Nat) (ps : List Int) (B : Option Addr) (cb : Nat) (s0 s1 : Int) (w : World) (hA : Marks w A ts) (hc : ts.length ≤ cap) (hc0 : cap ≤ maxLen) (hB : Ints w B ps) (hd : ps.length ≤ cb) (hd0 : cb ≤ maxLen) (_h0 : (Lit.int .i64 s0).wf = true) (_h1 : (Lit.int .i64 s1).wf = true) :
    Calls Try.prog 14 #[.slice A ts.length cap, .slice B ps.length cb, .agg #[.int .i64 s0, .int .i64 s1]] w fun e w' => e = .returned (.bool true) ∧ Below w.heap.size w w' := by
  have hl : ts.length ≤ maxLen := Nat.le_trans hc hc0
  have hps : ps.length ≤ maxLen := Nat.le_trans hd hd0
  have hBa : Below w.heap.size w (w.alloc (.cells #[.int .i64 s0, .int .i64 s1] 42)) := Below.alloc (Below.refl _ _) (Nat.le_refl _) _
  have h : Marks (w.alloc (.cells #[.int .i64 s0, .int .i64 s1] 42)) A ts := hA.below hBa
  have hq : Ints (w.alloc (.cells #[.int .i64 s0, .int .i64 s1] 42)) B ps := hB.below hBa
  have short : ∀ b : Bool, decide (40 < ts.length) = b → ∀ W, Calls Try.prog 15 #[.slice A ts.length cap] W fun e w' => e = .returned (.bool b) ∧ W = w' := fun b hb W => (long_any ts A cap W).mono fun _ _ h => ⟨by rw [h.1, hb], h.2⟩
  have val : ∀ b : Bool, vaB ts = b → ∀ W, Below (w.alloc (.cells #[.int .i64 s0, .int .i64 s1] 42)).heap.size (w.alloc (.cells #[.int .i64 s0, .int .i64 s1] 42)) W → Calls Try.prog 20 #[.slice A ts.length cap] W fun e w' => e = .returned (.bool b) ∧ Below W.heap.size W w' := fun b hb W hW => (refValid_any ts A cap W (h.below hW) hl).mono fun _ _ ⟨h, n, hn⟩ => ⟨by rw [h, hb], by rw [hn]; exact below_drewN (Below.refl _ _) _⟩
  have hW0 : Below (w.alloc (.cells #[.int .i64 s0, .int .i64 s1] 42)).heap.size (w.alloc (.cells #[.int .i64 s0, .int .i64 s1] 42)) (w.alloc (.cells #[.int .i64 s0, .int .i64 s1] 42)) := Below.refl _ _
  have HN : Hid (w.heap.size < (w.alloc (.cells #[.int .i64 s0, .int .i64 s1] 42)).heap.size) := Lib.hid (by simp)
  cases hm : decide (40 < ts.length) with
  | true =>
    have H1 := Lib.hid (short true hm)
    clear hm short val h hq hA hB
    go_enter Try.func14, Try.ntmps14
    go_wp2_with (first
      | (go_at_call 15; refine (H1.out _).mono ?_; rintro e w' ⟨rfl, rfl⟩)
      | (go_at_call 16; refine (sane_any _).mono ?_; rintro e w1 ⟨rfl, hB1⟩; have hW1 := below_step hW0 hB1; clear hB1)
      | fail)
    go_ret
    exact ⟨rfl, Below.trans (Below.alloc (Below.refl _ _) (Nat.le_refl _) _) (hW1.mono (Nat.le_of_lt HN.out))⟩
  | false =>
    have H1 := Lib.hid (short false hm)
    cases hv : vaB ts with
    | false =>
      have H2 := Lib.hid (val false hv)
      clear hm short val h hq hA hB hv
      go_enter Try.func14, Try.ntmps14
      go_wp2_with (first
        | (go_at_call 15; refine (H1.out _).mono ?_; rintro e w' ⟨rfl, rfl⟩)
        | (go_at_call 20; refine (H2.out _ hW0).mono ?_; rintro e w1 ⟨rfl, hB1⟩; have hW1 := below_step hW0 hB1; clear hB1)
        | (go_at_call 16; refine (sane_any _).mono ?_; rintro e w2 ⟨rfl, hB2⟩; have hW2 := below_step hW1 hB2; clear hB2)
        | fail)
      go_ret
      exact ⟨rfl, Below.trans (Below.alloc (Below.refl _ _) (Nat.le_refl _) _) (hW2.mono (Nat.le_of_lt HN.out))⟩
    | true =>
      by_cases hp : 300 < ps.length
      · have H2 := Lib.hid (val true hv)
        have tp : decide ((300 : Int) < (ps.length : Int)) = true := decide_eq_true (by omega)
        clear hm short val h hq hA hB hv hp
        go_enter Try.func14, Try.ntmps14
        go_wp2_with (first
          | (go_at_call 15; refine (H1.out _).mono ?_; rintro e w' ⟨rfl, rfl⟩)
          | (go_at_call 20; refine (H2.out _ hW0).mono ?_; rintro e w1 ⟨rfl, hB1⟩; have hW1 := below_step hW0 hB1; clear hB1)
          | (go_at_call 16; refine (sane_any _).mono ?_; rintro e w2 ⟨rfl, hB2⟩; have hW2 := below_step hW1 hB2; clear hB2)
          | fail)
        go_ret
        exact ⟨rfl, Below.trans (Below.alloc (Below.refl _ _) (Nat.le_refl _) _) (hW2.mono (Nat.le_of_lt HN.out))⟩
      · have ta := ta_yes hv
        have hkl := kp_len ts ts.length
        have hE : ovE ts = if canB ts then 5 else 0 := by
          cases hc : canB ts with
          | true => rw [ov_yes hv hc]; rfl
          | false => rw [(ov_no hv hc).1]; rfl
        refine top_core ts (kpS ts ts.length).2 (kpS ts ts.length).1 A cap ps B cb s0 s1 w (canB ts) (daV ts ps) (ioV ts s0 s1 1) (riV ts ps) (ovA ts) (ovB ts) (ovE ts) (erE ts ps) (ioE ts s0 s1 1) (frV ts (upL ts)) (frV ts ps) h (va_len hv) (by omega) hE (to_er hv) (to_io hv) (da_can hv) (io_can hv) to_ri (to_free hv) (to_bd _ _) (to_bd _ _) hkl.2 hkl.1 (fun i hi => (kp_idx ts _ (Nat.le_refl _) i hi)) (kp_full hv) (short false hm) (val true hv) ?_ ?_ ?_ ?_ ?_ ?_ ?_ ?_ ?_ ?_ ?_ ?_
        · exact fun W hW => (urgentX_any ts A cap W (h.below hW) hl).mono fun _ _ ⟨D, d, h1, h2, h3⟩ => ⟨D, d, by rw [h1, ta.1, ta.2.1]; rfl, by rw [ta.2.1] at h2; exact h2, h3⟩
        · exact fun W hW => over_any ts A cap W (h.below hW) hv
        · exact fun W D d hW hO => (doesX_any ts A cap (upL ts) D d W (h.below hW) hl hO.ints (Nat.le_trans hO.le hO.cap)).mono fun _ _ h => ⟨by rw [h.1, up_da hv, up_er hv], h.2⟩
        · exact fun hc W hW => (refIsOver_any ts A cap (ovA ts) (ovB ts) 1 W (h.below hW) hl).mono fun _ _ h => ⟨by rw [h.1, (io_ov hv hc).1, (io_ov hv hc).2], h.2⟩
        · exact fun W hW => doesX_any ts A cap ps B cb W (h.below hW) hl (hq.below hW) hps
        · exact fun W hW => isOver_any ts A cap s0 s1 1 W (h.below hW) hl
        · exact fun W hW => rightX_any ts A cap ps B cb W (h.below hW) hl (hq.below hW) hps
        · exact fun W D d hW hO => (freeX_any ts A cap (upL ts) D d W (h.below hW) hl hO.ints (Nat.le_trans hO.le hO.cap)).mono fun _ _ h => ⟨by rw [h.1, up_er hv], h.2⟩
        · exact fun W hW => freeX_any ts A cap ps B cb W (h.below hW) hl (hq.below hW) hps
        · exact fun W hW => kept_any ts A cap W (h.below hW) hv
        · exact fun W D d hC hp => by
            have hvT := kp_va2 hv (Nat.le_refl _) hp
            have tb := ta_yes hvT
            exact (urgentX_any _ D d W hC.marks hC.len).mono fun _ _ ⟨G, g, h1, h2, h3⟩ => ⟨G, g, by rw [h1, tb.1, tb.2.1]; rfl, by rw [tb.2.1] at h2; exact h2, h3⟩
        · exact fun W D d G g hC hp hO => by
            have hvT := kp_va2 hv (Nat.le_refl _) hp
            exact (doesX_any _ D d _ G g W hC.marks hC.len hO.ints (Nat.le_trans hO.le hO.cap)).mono fun _ _ h => ⟨by rw [h.1, up_da hvT, up_er hvT, kp_can _ hp], h.2⟩
end Go.Proofs.Ythanmiifcpajhaa
