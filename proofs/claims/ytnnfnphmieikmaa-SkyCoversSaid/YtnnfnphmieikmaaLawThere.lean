/-
  The walk of SkyThere: it returns true, whatever it is given.
-/
import Derived.Test.YtnnfnphmieikmaaLawDown
import Derived.Test.YtnnfnphmieikmaaOn2
namespace Go.Proofs.Ytnnfnphmieikmaa
open Go Go.RowKit Go.Shelf

theorem nt_lt {k a b : Nat} (hk : k < 5) (ha : a < pxN k) (hb : b < pxN k) (h : RT k a < RT k b) : NT k a < NT k b := by
  have A := fact_of hk ha
  have B := fact_of hk hb
  have a1 := A.r1
  have a2 := A.p1
  have a3 := A.p2
  have b1 := B.p1
  obtain ⟨s, hs⟩ : ∃ s, RT k a = s + 1 := ⟨RT k a - 1, by omega⟩
  have m := bef_mono (k := k) (a := s + 1) (b := RT k b - 1) (by omega)
  simp only [NT]
  rw [hs] at a3 ⊢
  simp only [bef, Nat.add_sub_cancel] at *; omega
theorem nt_same {k a b : Nat} (hk : k < 5) (ha : a < pxN k) (hb : b < pxN k) (h : RT k a = RT k b) : (NT k a < NT k b ↔ PT k a < PT k b) := by
  have a1 := (fact_of hk ha).p1
  have b1 := (fact_of hk hb).p1
  simp only [NT, h]; omega
theorem nt_inj {k a b : Nat} (hk : k < 5) (ha : a < pxN k) (hb : b < pxN k) (h : NT k a = NT k b) : a = b := by
  have e1 := (fact_of hk ha).t
  have e2 := (fact_of hk hb).t
  rw [← e1, ← e2, h]

set_option maxRecDepth 100000 in
set_option maxHeartbeats 800000 in
theorem there_less (k a b F Xc Yc N M R R2 Q P2 X L : Nat) (o p q : Int) (w : World) (o0 : 0 ≤ o) (o1 : o ≤ 255) (p0 : 0 ≤ p) (p1 : p ≤ 65535) (q0 : 0 ≤ q) (q1 : q ≤ 65535) (_ : k < 5) (eo : o % 5 = k) (ep : p % (X : Int) = a) (eq : q % (X : Int) = b) (x1 : 12 ≤ X) (x2 : X ≤ 3072) (hN : N < X) (hQ : Q < L) (hL : L ≤ 64)
    (C1 : Hid (∀ W, Calls Try.prog 18 #[.int .i64 (k : Int)] W fun e w' => e = .returned (.tuple #[.int .i64 (X : Int), .int .i64 0]) ∧ W = w'))
    (C2 : Hid (∀ W, Calls Try.prog 20 #[.int .i64 (k : Int), .int .i64 (a : Int)] W fun e w' => e = .returned (.tuple #[.int .i64 (F : Int), .int .i64 (Xc : Int), .int .i64 (Yc : Int), .int .i64 0]) ∧ Below W.heap.size W w'))
    (C3 : Hid (∀ W, Calls Try.prog 29 #[.int .i64 (k : Int), .int .i64 (F : Int), .int .i64 (Xc : Int), .int .i64 (Yc : Int)] W fun e w' => e = .returned (.tuple #[.int .i64 (a : Int), .int .i64 0]) ∧ Below W.heap.size W w'))
    (C4 : Hid (∀ W, Calls Try.prog 22 #[.int .i64 (k : Int), .int .i64 (a : Int)] W fun e w' => e = .returned (.tuple #[.int .i64 (N : Int), .int .i64 0]) ∧ Below W.heap.size W w'))
    (C5 : Hid (∀ W, Calls Try.prog 24 #[.int .i64 (k : Int), .int .i64 (N : Int)] W fun e w' => e = .returned (.tuple #[.int .i64 (a : Int), .int .i64 0]) ∧ Below W.heap.size W w'))
    (C6 : Hid (∀ W, Calls Try.prog 22 #[.int .i64 (k : Int), .int .i64 (b : Int)] W fun e w' => e = .returned (.tuple #[.int .i64 (M : Int), .int .i64 0]) ∧ Below W.heap.size W w'))
    (C7 : Hid (∀ W, Calls Try.prog 26 #[.int .i64 (k : Int), .int .i64 (a : Int)] W fun e w' => e = .returned (.tuple #[.int .i64 (R : Int), .int .i64 ((Q : Int) + 1), .int .i64 0]) ∧ Below W.heap.size W w'))
    (C8 : Hid (∀ W, Calls Try.prog 26 #[.int .i64 (k : Int), .int .i64 (b : Int)] W fun e w' => e = .returned (.tuple #[.int .i64 (R2 : Int), .int .i64 (P2 : Int), .int .i64 0]) ∧ Below W.heap.size W w'))
    (C9 : Hid (∀ W, Calls Try.prog 31 #[.int .i64 (k : Int), .int .i64 (R : Int)] W fun e w' => e = .returned (.tuple #[.int .i64 (L : Int), .int .i64 0]) ∧ W = w'))
    (C10 : Hid (∀ W, Calls Try.prog 33 #[.int .i64 (k : Int), .int .i64 (R : Int)] W fun e w' => ∃ b o c, e = .returned (.tuple #[.slice (some ⟨b, o, none⟩) L c, .int .i64 0]) ∧ w'.cell? ⟨b, o + Q, none⟩ = some (.int .i64 (a : Int)) ∧ Below W.heap.size W w')) (h1 : N ≠ M) (h2 : a ≠ b) (h3 : N < M) (h4 : R < R2) :
    Calls Try.prog 11 #[.int .u8 o, .int .u16 p, .int .u16 q] w fun e w' => e = .returned (.bool true) ∧ Below w.heap.size w w' := by
  have t1 : (N == M) = false := by simpa using h1
  have u1 : ((N : Int) == (M : Int)) = false := by simp; omega
  have t2 : (a == b) = false := by simpa using h2
  have u2 : ((a : Int) == (b : Int)) = false := by simp; omega
  have t3 : decide (N < M) = true := decide_eq_true h3
  have u3 : decide ((N : Int) < (M : Int)) = true := decide_eq_true (by omega)
  have t4 : decide (R < R2) = true := decide_eq_true h4
  have u4 : decide ((R : Int) < (R2 : Int)) = true := decide_eq_true (by omega)
  have TA : Hid True := Lib.hid trivial
  have TB : Hid True := Lib.hid trivial
  clear h1 h2
  go_enter Try.func11, Try.ntmps11
  go_wp2_with (go_at_call 18; refine (C1.out _).mono ?_; rintro e w1 ⟨rfl, rfl⟩)
  go_quiet (fail)
  obtain ⟨W0, hW0, hB0⟩ : ∃ W0, w.drewN nq = W0 ∧ Below w.heap.size w W0 := ⟨_, rfl, below_drewN (Below.refl _ _) _⟩
  rw [hW0]
  clear hW0
  go_wp2_with (first
    | (go_at_call 20; with_reducible refine (C2.out _).mono ?_; rintro e w2 ⟨rfl, hB2⟩; have hW2 := Below.trans hB0 (hB2.mono hB0.size))
    | (go_at_call 29; with_reducible refine (C3.out _).mono ?_; rintro e w3 ⟨rfl, hB3⟩; have hW3 := below_step hW2 hB3)
    | (go_at_call 22; with_reducible refine (C4.out _).mono ?_; clear TA; rintro e w4 ⟨rfl, hB4⟩; have hW4 := below_step hW3 hB4)
    | (go_at_call 24; with_reducible refine (C5.out _).mono ?_; rintro e w5 ⟨rfl, hB5⟩; have hW5 := below_step hW4 hB5)
    | (go_at_call 22; with_reducible refine (C6.out _).mono ?_; rintro e w6 ⟨rfl, hB6⟩; have hW6 := below_step hW5 hB6)
    | (go_at_call 26; with_reducible refine (C7.out _).mono ?_; clear TB; rintro e w7 ⟨rfl, hB7⟩; have hW7 := below_step hW6 hB7)
    | (go_at_call 26; with_reducible refine (C8.out _).mono ?_; rintro e w8 ⟨rfl, hB8⟩; have hW8 := below_step hW7 hB8)
    | (go_at_call 31; with_reducible refine (C9.out _).mono ?_; rintro e w9 ⟨rfl, rfl⟩)
    | (go_at_call 33; with_reducible refine (C10.out _).mono ?_; rintro e w10 ⟨bl, off, c10, rfl, g0, hB10⟩; have hW10 := below_step hW8 hB10)
    | (go_at_call 28; refine (sane_any _).mono ?_; rintro e w11 ⟨rfl, hB11⟩; have hW11 := below_step hW10 hB11)
    | fail)
  go_ret
  exact ⟨rfl, hW11⟩
set_option maxRecDepth 100000 in
set_option maxHeartbeats 800000 in
theorem there_more (k a b F Xc Yc N M R R2 Q P2 X L : Nat) (o p q : Int) (w : World) (o0 : 0 ≤ o) (o1 : o ≤ 255) (p0 : 0 ≤ p) (p1 : p ≤ 65535) (q0 : 0 ≤ q) (q1 : q ≤ 65535) (_ : k < 5) (eo : o % 5 = k) (ep : p % (X : Int) = a) (eq : q % (X : Int) = b) (x1 : 12 ≤ X) (x2 : X ≤ 3072) (hN : N < X) (hQ : Q < L) (hL : L ≤ 64)
    (C1 : Hid (∀ W, Calls Try.prog 18 #[.int .i64 (k : Int)] W fun e w' => e = .returned (.tuple #[.int .i64 (X : Int), .int .i64 0]) ∧ W = w'))
    (C2 : Hid (∀ W, Calls Try.prog 20 #[.int .i64 (k : Int), .int .i64 (a : Int)] W fun e w' => e = .returned (.tuple #[.int .i64 (F : Int), .int .i64 (Xc : Int), .int .i64 (Yc : Int), .int .i64 0]) ∧ Below W.heap.size W w'))
    (C3 : Hid (∀ W, Calls Try.prog 29 #[.int .i64 (k : Int), .int .i64 (F : Int), .int .i64 (Xc : Int), .int .i64 (Yc : Int)] W fun e w' => e = .returned (.tuple #[.int .i64 (a : Int), .int .i64 0]) ∧ Below W.heap.size W w'))
    (C4 : Hid (∀ W, Calls Try.prog 22 #[.int .i64 (k : Int), .int .i64 (a : Int)] W fun e w' => e = .returned (.tuple #[.int .i64 (N : Int), .int .i64 0]) ∧ Below W.heap.size W w'))
    (C5 : Hid (∀ W, Calls Try.prog 24 #[.int .i64 (k : Int), .int .i64 (N : Int)] W fun e w' => e = .returned (.tuple #[.int .i64 (a : Int), .int .i64 0]) ∧ Below W.heap.size W w'))
    (C6 : Hid (∀ W, Calls Try.prog 22 #[.int .i64 (k : Int), .int .i64 (b : Int)] W fun e w' => e = .returned (.tuple #[.int .i64 (M : Int), .int .i64 0]) ∧ Below W.heap.size W w'))
    (C7 : Hid (∀ W, Calls Try.prog 26 #[.int .i64 (k : Int), .int .i64 (a : Int)] W fun e w' => e = .returned (.tuple #[.int .i64 (R : Int), .int .i64 ((Q : Int) + 1), .int .i64 0]) ∧ Below W.heap.size W w'))
    (C8 : Hid (∀ W, Calls Try.prog 26 #[.int .i64 (k : Int), .int .i64 (b : Int)] W fun e w' => e = .returned (.tuple #[.int .i64 (R2 : Int), .int .i64 (P2 : Int), .int .i64 0]) ∧ Below W.heap.size W w'))
    (C9 : Hid (∀ W, Calls Try.prog 31 #[.int .i64 (k : Int), .int .i64 (R : Int)] W fun e w' => e = .returned (.tuple #[.int .i64 (L : Int), .int .i64 0]) ∧ W = w'))
    (C10 : Hid (∀ W, Calls Try.prog 33 #[.int .i64 (k : Int), .int .i64 (R : Int)] W fun e w' => ∃ b o c, e = .returned (.tuple #[.slice (some ⟨b, o, none⟩) L c, .int .i64 0]) ∧ w'.cell? ⟨b, o + Q, none⟩ = some (.int .i64 (a : Int)) ∧ Below W.heap.size W w')) (h1 : N ≠ M) (h2 : a ≠ b) (h3 : ¬ N < M) (h4 : ¬ R < R2) (h5 : R ≠ R2) :
    Calls Try.prog 11 #[.int .u8 o, .int .u16 p, .int .u16 q] w fun e w' => e = .returned (.bool true) ∧ Below w.heap.size w w' := by
  have t1 : (N == M) = false := by simpa using h1
  have u1 : ((N : Int) == (M : Int)) = false := by simp; omega
  have t2 : (a == b) = false := by simpa using h2
  have u2 : ((a : Int) == (b : Int)) = false := by simp; omega
  have t3 : decide (N < M) = false := decide_eq_false h3
  have u3 : decide ((N : Int) < (M : Int)) = false := decide_eq_false (by omega)
  have t4 : decide (R < R2) = false := decide_eq_false h4
  have u4 : decide ((R : Int) < (R2 : Int)) = false := decide_eq_false (by omega)
  have t5 : (R == R2) = false := by simpa using h5
  have u5 : ((R : Int) == (R2 : Int)) = false := by simp; omega
  have TA : Hid True := Lib.hid trivial
  have TB : Hid True := Lib.hid trivial
  clear h1 h2 h5
  go_enter Try.func11, Try.ntmps11
  go_wp2_with (go_at_call 18; refine (C1.out _).mono ?_; rintro e w1 ⟨rfl, rfl⟩)
  go_quiet (fail)
  obtain ⟨W0, hW0, hB0⟩ : ∃ W0, w.drewN nq = W0 ∧ Below w.heap.size w W0 := ⟨_, rfl, below_drewN (Below.refl _ _) _⟩
  rw [hW0]
  clear hW0
  go_wp2_with (first
    | (go_at_call 20; with_reducible refine (C2.out _).mono ?_; rintro e w2 ⟨rfl, hB2⟩; have hW2 := Below.trans hB0 (hB2.mono hB0.size))
    | (go_at_call 29; with_reducible refine (C3.out _).mono ?_; rintro e w3 ⟨rfl, hB3⟩; have hW3 := below_step hW2 hB3)
    | (go_at_call 22; with_reducible refine (C4.out _).mono ?_; clear TA; rintro e w4 ⟨rfl, hB4⟩; have hW4 := below_step hW3 hB4)
    | (go_at_call 24; with_reducible refine (C5.out _).mono ?_; rintro e w5 ⟨rfl, hB5⟩; have hW5 := below_step hW4 hB5)
    | (go_at_call 22; with_reducible refine (C6.out _).mono ?_; rintro e w6 ⟨rfl, hB6⟩; have hW6 := below_step hW5 hB6)
    | (go_at_call 26; with_reducible refine (C7.out _).mono ?_; clear TB; rintro e w7 ⟨rfl, hB7⟩; have hW7 := below_step hW6 hB7)
    | (go_at_call 26; with_reducible refine (C8.out _).mono ?_; rintro e w8 ⟨rfl, hB8⟩; have hW8 := below_step hW7 hB8)
    | (go_at_call 31; with_reducible refine (C9.out _).mono ?_; rintro e w9 ⟨rfl, rfl⟩)
    | (go_at_call 33; with_reducible refine (C10.out _).mono ?_; rintro e w10 ⟨bl, off, c10, rfl, g0, hB10⟩; have hW10 := below_step hW8 hB10)
    | (go_at_call 28; refine (sane_any _).mono ?_; rintro e w11 ⟨rfl, hB11⟩; have hW11 := below_step hW10 hB11)
    | fail)
  go_ret
  exact ⟨rfl, hW11⟩
set_option maxRecDepth 100000 in
set_option maxHeartbeats 800000 in
theorem there_left (k a b F Xc Yc N M R R2 Q P2 X L : Nat) (o p q : Int) (w : World) (o0 : 0 ≤ o) (o1 : o ≤ 255) (p0 : 0 ≤ p) (p1 : p ≤ 65535) (q0 : 0 ≤ q) (q1 : q ≤ 65535) (_ : k < 5) (eo : o % 5 = k) (ep : p % (X : Int) = a) (eq : q % (X : Int) = b) (x1 : 12 ≤ X) (x2 : X ≤ 3072) (hN : N < X) (hQ : Q < L) (hL : L ≤ 64)
    (C1 : Hid (∀ W, Calls Try.prog 18 #[.int .i64 (k : Int)] W fun e w' => e = .returned (.tuple #[.int .i64 (X : Int), .int .i64 0]) ∧ W = w'))
    (C2 : Hid (∀ W, Calls Try.prog 20 #[.int .i64 (k : Int), .int .i64 (a : Int)] W fun e w' => e = .returned (.tuple #[.int .i64 (F : Int), .int .i64 (Xc : Int), .int .i64 (Yc : Int), .int .i64 0]) ∧ Below W.heap.size W w'))
    (C3 : Hid (∀ W, Calls Try.prog 29 #[.int .i64 (k : Int), .int .i64 (F : Int), .int .i64 (Xc : Int), .int .i64 (Yc : Int)] W fun e w' => e = .returned (.tuple #[.int .i64 (a : Int), .int .i64 0]) ∧ Below W.heap.size W w'))
    (C4 : Hid (∀ W, Calls Try.prog 22 #[.int .i64 (k : Int), .int .i64 (a : Int)] W fun e w' => e = .returned (.tuple #[.int .i64 (N : Int), .int .i64 0]) ∧ Below W.heap.size W w'))
    (C5 : Hid (∀ W, Calls Try.prog 24 #[.int .i64 (k : Int), .int .i64 (N : Int)] W fun e w' => e = .returned (.tuple #[.int .i64 (a : Int), .int .i64 0]) ∧ Below W.heap.size W w'))
    (C6 : Hid (∀ W, Calls Try.prog 22 #[.int .i64 (k : Int), .int .i64 (b : Int)] W fun e w' => e = .returned (.tuple #[.int .i64 (M : Int), .int .i64 0]) ∧ Below W.heap.size W w'))
    (C7 : Hid (∀ W, Calls Try.prog 26 #[.int .i64 (k : Int), .int .i64 (a : Int)] W fun e w' => e = .returned (.tuple #[.int .i64 (R : Int), .int .i64 ((Q : Int) + 1), .int .i64 0]) ∧ Below W.heap.size W w'))
    (C8 : Hid (∀ W, Calls Try.prog 26 #[.int .i64 (k : Int), .int .i64 (b : Int)] W fun e w' => e = .returned (.tuple #[.int .i64 (R2 : Int), .int .i64 (P2 : Int), .int .i64 0]) ∧ Below W.heap.size W w'))
    (C9 : Hid (∀ W, Calls Try.prog 31 #[.int .i64 (k : Int), .int .i64 (R : Int)] W fun e w' => e = .returned (.tuple #[.int .i64 (L : Int), .int .i64 0]) ∧ W = w'))
    (C10 : Hid (∀ W, Calls Try.prog 33 #[.int .i64 (k : Int), .int .i64 (R : Int)] W fun e w' => ∃ b o c, e = .returned (.tuple #[.slice (some ⟨b, o, none⟩) L c, .int .i64 0]) ∧ w'.cell? ⟨b, o + Q, none⟩ = some (.int .i64 (a : Int)) ∧ Below W.heap.size W w')) (h1 : N ≠ M) (h2 : a ≠ b) (h3 : N < M) (h4 : ¬ R < R2) (h5 : R = R2) (h6 : Q + 1 < P2) :
    Calls Try.prog 11 #[.int .u8 o, .int .u16 p, .int .u16 q] w fun e w' => e = .returned (.bool true) ∧ Below w.heap.size w w' := by
  have t1 : (N == M) = false := by simpa using h1
  have u1 : ((N : Int) == (M : Int)) = false := by simp; omega
  have t2 : (a == b) = false := by simpa using h2
  have u2 : ((a : Int) == (b : Int)) = false := by simp; omega
  have t3 : decide (N < M) = true := decide_eq_true h3
  have u3 : decide ((N : Int) < (M : Int)) = true := decide_eq_true (by omega)
  have t4 : decide (R < R2) = false := decide_eq_false h4
  have u4 : decide ((R : Int) < (R2 : Int)) = false := decide_eq_false (by omega)
  have t5 : (R == R2) = true := by simpa using h5
  have u5 : ((R : Int) == (R2 : Int)) = true := by simp; omega
  have t6 : decide (Q + 1 < P2) = true := decide_eq_true h6
  have u6 : decide (((Q : Int) + 1) < (P2 : Int)) = true := decide_eq_true (by omega)
  have TA : Hid True := Lib.hid trivial
  have TB : Hid True := Lib.hid trivial
  clear h1 h2 h5
  go_enter Try.func11, Try.ntmps11
  go_wp2_with (go_at_call 18; refine (C1.out _).mono ?_; rintro e w1 ⟨rfl, rfl⟩)
  go_quiet (fail)
  obtain ⟨W0, hW0, hB0⟩ : ∃ W0, w.drewN nq = W0 ∧ Below w.heap.size w W0 := ⟨_, rfl, below_drewN (Below.refl _ _) _⟩
  rw [hW0]
  clear hW0
  go_wp2_with (first
    | (go_at_call 20; with_reducible refine (C2.out _).mono ?_; rintro e w2 ⟨rfl, hB2⟩; have hW2 := Below.trans hB0 (hB2.mono hB0.size))
    | (go_at_call 29; with_reducible refine (C3.out _).mono ?_; rintro e w3 ⟨rfl, hB3⟩; have hW3 := below_step hW2 hB3)
    | (go_at_call 22; with_reducible refine (C4.out _).mono ?_; clear TA; rintro e w4 ⟨rfl, hB4⟩; have hW4 := below_step hW3 hB4)
    | (go_at_call 24; with_reducible refine (C5.out _).mono ?_; rintro e w5 ⟨rfl, hB5⟩; have hW5 := below_step hW4 hB5)
    | (go_at_call 22; with_reducible refine (C6.out _).mono ?_; rintro e w6 ⟨rfl, hB6⟩; have hW6 := below_step hW5 hB6)
    | (go_at_call 26; with_reducible refine (C7.out _).mono ?_; clear TB; rintro e w7 ⟨rfl, hB7⟩; have hW7 := below_step hW6 hB7)
    | (go_at_call 26; with_reducible refine (C8.out _).mono ?_; rintro e w8 ⟨rfl, hB8⟩; have hW8 := below_step hW7 hB8)
    | (go_at_call 31; with_reducible refine (C9.out _).mono ?_; rintro e w9 ⟨rfl, rfl⟩)
    | (go_at_call 33; with_reducible refine (C10.out _).mono ?_; rintro e w10 ⟨bl, off, c10, rfl, g0, hB10⟩; have hW10 := below_step hW8 hB10)
    | (go_at_call 28; refine (sane_any _).mono ?_; rintro e w11 ⟨rfl, hB11⟩; have hW11 := below_step hW10 hB11)
    | fail)
  go_ret
  exact ⟨rfl, hW11⟩
set_option maxRecDepth 100000 in
set_option maxHeartbeats 800000 in
theorem there_right (k a b F Xc Yc N M R R2 Q P2 X L : Nat) (o p q : Int) (w : World) (o0 : 0 ≤ o) (o1 : o ≤ 255) (p0 : 0 ≤ p) (p1 : p ≤ 65535) (q0 : 0 ≤ q) (q1 : q ≤ 65535) (_ : k < 5) (eo : o % 5 = k) (ep : p % (X : Int) = a) (eq : q % (X : Int) = b) (x1 : 12 ≤ X) (x2 : X ≤ 3072) (hN : N < X) (hQ : Q < L) (hL : L ≤ 64)
    (C1 : Hid (∀ W, Calls Try.prog 18 #[.int .i64 (k : Int)] W fun e w' => e = .returned (.tuple #[.int .i64 (X : Int), .int .i64 0]) ∧ W = w'))
    (C2 : Hid (∀ W, Calls Try.prog 20 #[.int .i64 (k : Int), .int .i64 (a : Int)] W fun e w' => e = .returned (.tuple #[.int .i64 (F : Int), .int .i64 (Xc : Int), .int .i64 (Yc : Int), .int .i64 0]) ∧ Below W.heap.size W w'))
    (C3 : Hid (∀ W, Calls Try.prog 29 #[.int .i64 (k : Int), .int .i64 (F : Int), .int .i64 (Xc : Int), .int .i64 (Yc : Int)] W fun e w' => e = .returned (.tuple #[.int .i64 (a : Int), .int .i64 0]) ∧ Below W.heap.size W w'))
    (C4 : Hid (∀ W, Calls Try.prog 22 #[.int .i64 (k : Int), .int .i64 (a : Int)] W fun e w' => e = .returned (.tuple #[.int .i64 (N : Int), .int .i64 0]) ∧ Below W.heap.size W w'))
    (C5 : Hid (∀ W, Calls Try.prog 24 #[.int .i64 (k : Int), .int .i64 (N : Int)] W fun e w' => e = .returned (.tuple #[.int .i64 (a : Int), .int .i64 0]) ∧ Below W.heap.size W w'))
    (C6 : Hid (∀ W, Calls Try.prog 22 #[.int .i64 (k : Int), .int .i64 (b : Int)] W fun e w' => e = .returned (.tuple #[.int .i64 (M : Int), .int .i64 0]) ∧ Below W.heap.size W w'))
    (C7 : Hid (∀ W, Calls Try.prog 26 #[.int .i64 (k : Int), .int .i64 (a : Int)] W fun e w' => e = .returned (.tuple #[.int .i64 (R : Int), .int .i64 ((Q : Int) + 1), .int .i64 0]) ∧ Below W.heap.size W w'))
    (C8 : Hid (∀ W, Calls Try.prog 26 #[.int .i64 (k : Int), .int .i64 (b : Int)] W fun e w' => e = .returned (.tuple #[.int .i64 (R2 : Int), .int .i64 (P2 : Int), .int .i64 0]) ∧ Below W.heap.size W w'))
    (C9 : Hid (∀ W, Calls Try.prog 31 #[.int .i64 (k : Int), .int .i64 (R : Int)] W fun e w' => e = .returned (.tuple #[.int .i64 (L : Int), .int .i64 0]) ∧ W = w'))
    (C10 : Hid (∀ W, Calls Try.prog 33 #[.int .i64 (k : Int), .int .i64 (R : Int)] W fun e w' => ∃ b o c, e = .returned (.tuple #[.slice (some ⟨b, o, none⟩) L c, .int .i64 0]) ∧ w'.cell? ⟨b, o + Q, none⟩ = some (.int .i64 (a : Int)) ∧ Below W.heap.size W w')) (h1 : N ≠ M) (h2 : a ≠ b) (h3 : ¬ N < M) (h4 : ¬ R < R2) (h5 : R = R2) (h6 : ¬ Q + 1 < P2) :
    Calls Try.prog 11 #[.int .u8 o, .int .u16 p, .int .u16 q] w fun e w' => e = .returned (.bool true) ∧ Below w.heap.size w w' := by
  have t1 : (N == M) = false := by simpa using h1
  have u1 : ((N : Int) == (M : Int)) = false := by simp; omega
  have t2 : (a == b) = false := by simpa using h2
  have u2 : ((a : Int) == (b : Int)) = false := by simp; omega
  have t3 : decide (N < M) = false := decide_eq_false h3
  have u3 : decide ((N : Int) < (M : Int)) = false := decide_eq_false (by omega)
  have t4 : decide (R < R2) = false := decide_eq_false h4
  have u4 : decide ((R : Int) < (R2 : Int)) = false := decide_eq_false (by omega)
  have t5 : (R == R2) = true := by simpa using h5
  have u5 : ((R : Int) == (R2 : Int)) = true := by simp; omega
  have t6 : decide (Q + 1 < P2) = false := decide_eq_false h6
  have u6 : decide (((Q : Int) + 1) < (P2 : Int)) = false := decide_eq_false (by omega)
  have TA : Hid True := Lib.hid trivial
  have TB : Hid True := Lib.hid trivial
  clear h1 h2 h5
  go_enter Try.func11, Try.ntmps11
  go_wp2_with (go_at_call 18; refine (C1.out _).mono ?_; rintro e w1 ⟨rfl, rfl⟩)
  go_quiet (fail)
  obtain ⟨W0, hW0, hB0⟩ : ∃ W0, w.drewN nq = W0 ∧ Below w.heap.size w W0 := ⟨_, rfl, below_drewN (Below.refl _ _) _⟩
  rw [hW0]
  clear hW0
  go_wp2_with (first
    | (go_at_call 20; with_reducible refine (C2.out _).mono ?_; rintro e w2 ⟨rfl, hB2⟩; have hW2 := Below.trans hB0 (hB2.mono hB0.size))
    | (go_at_call 29; with_reducible refine (C3.out _).mono ?_; rintro e w3 ⟨rfl, hB3⟩; have hW3 := below_step hW2 hB3)
    | (go_at_call 22; with_reducible refine (C4.out _).mono ?_; clear TA; rintro e w4 ⟨rfl, hB4⟩; have hW4 := below_step hW3 hB4)
    | (go_at_call 24; with_reducible refine (C5.out _).mono ?_; rintro e w5 ⟨rfl, hB5⟩; have hW5 := below_step hW4 hB5)
    | (go_at_call 22; with_reducible refine (C6.out _).mono ?_; rintro e w6 ⟨rfl, hB6⟩; have hW6 := below_step hW5 hB6)
    | (go_at_call 26; with_reducible refine (C7.out _).mono ?_; clear TB; rintro e w7 ⟨rfl, hB7⟩; have hW7 := below_step hW6 hB7)
    | (go_at_call 26; with_reducible refine (C8.out _).mono ?_; rintro e w8 ⟨rfl, hB8⟩; have hW8 := below_step hW7 hB8)
    | (go_at_call 31; with_reducible refine (C9.out _).mono ?_; rintro e w9 ⟨rfl, rfl⟩)
    | (go_at_call 33; with_reducible refine (C10.out _).mono ?_; rintro e w10 ⟨bl, off, c10, rfl, g0, hB10⟩; have hW10 := below_step hW8 hB10)
    | (go_at_call 28; refine (sane_any _).mono ?_; rintro e w11 ⟨rfl, hB11⟩; have hW11 := below_step hW10 hB11)
    | fail)
  go_ret
  exact ⟨rfl, hW11⟩
set_option maxRecDepth 100000 in
set_option maxHeartbeats 800000 in
theorem there_same (k a b F Xc Yc N M R R2 Q P2 X L : Nat) (o p q : Int) (w : World) (o0 : 0 ≤ o) (o1 : o ≤ 255) (p0 : 0 ≤ p) (p1 : p ≤ 65535) (q0 : 0 ≤ q) (q1 : q ≤ 65535) (_ : k < 5) (eo : o % 5 = k) (ep : p % (X : Int) = a) (eq : q % (X : Int) = b) (x1 : 12 ≤ X) (x2 : X ≤ 3072) (hN : N < X) (hQ : Q < L) (hL : L ≤ 64)
    (C1 : Hid (∀ W, Calls Try.prog 18 #[.int .i64 (k : Int)] W fun e w' => e = .returned (.tuple #[.int .i64 (X : Int), .int .i64 0]) ∧ W = w'))
    (C2 : Hid (∀ W, Calls Try.prog 20 #[.int .i64 (k : Int), .int .i64 (a : Int)] W fun e w' => e = .returned (.tuple #[.int .i64 (F : Int), .int .i64 (Xc : Int), .int .i64 (Yc : Int), .int .i64 0]) ∧ Below W.heap.size W w'))
    (C3 : Hid (∀ W, Calls Try.prog 29 #[.int .i64 (k : Int), .int .i64 (F : Int), .int .i64 (Xc : Int), .int .i64 (Yc : Int)] W fun e w' => e = .returned (.tuple #[.int .i64 (a : Int), .int .i64 0]) ∧ Below W.heap.size W w'))
    (C4 : Hid (∀ W, Calls Try.prog 22 #[.int .i64 (k : Int), .int .i64 (a : Int)] W fun e w' => e = .returned (.tuple #[.int .i64 (N : Int), .int .i64 0]) ∧ Below W.heap.size W w'))
    (C5 : Hid (∀ W, Calls Try.prog 24 #[.int .i64 (k : Int), .int .i64 (N : Int)] W fun e w' => e = .returned (.tuple #[.int .i64 (a : Int), .int .i64 0]) ∧ Below W.heap.size W w'))
    (C6 : Hid (∀ W, Calls Try.prog 22 #[.int .i64 (k : Int), .int .i64 (b : Int)] W fun e w' => e = .returned (.tuple #[.int .i64 (M : Int), .int .i64 0]) ∧ Below W.heap.size W w'))
    (C7 : Hid (∀ W, Calls Try.prog 26 #[.int .i64 (k : Int), .int .i64 (a : Int)] W fun e w' => e = .returned (.tuple #[.int .i64 (R : Int), .int .i64 ((Q : Int) + 1), .int .i64 0]) ∧ Below W.heap.size W w'))
    (C8 : Hid (∀ W, Calls Try.prog 26 #[.int .i64 (k : Int), .int .i64 (b : Int)] W fun e w' => e = .returned (.tuple #[.int .i64 (R2 : Int), .int .i64 (P2 : Int), .int .i64 0]) ∧ Below W.heap.size W w'))
    (C9 : Hid (∀ W, Calls Try.prog 31 #[.int .i64 (k : Int), .int .i64 (R : Int)] W fun e w' => e = .returned (.tuple #[.int .i64 (L : Int), .int .i64 0]) ∧ W = w'))
    (C10 : Hid (∀ W, Calls Try.prog 33 #[.int .i64 (k : Int), .int .i64 (R : Int)] W fun e w' => ∃ b o c, e = .returned (.tuple #[.slice (some ⟨b, o, none⟩) L c, .int .i64 0]) ∧ w'.cell? ⟨b, o + Q, none⟩ = some (.int .i64 (a : Int)) ∧ Below W.heap.size W w')) (h1 : N = M) (h2 : a = b) (h3 : ¬ N < M) (h4 : ¬ R < R2) (h5 : R = R2) (h6 : ¬ Q + 1 < P2) :
    Calls Try.prog 11 #[.int .u8 o, .int .u16 p, .int .u16 q] w fun e w' => e = .returned (.bool true) ∧ Below w.heap.size w w' := by
  have t1 : (N == M) = true := by simpa using h1
  have u1 : ((N : Int) == (M : Int)) = true := by simp; omega
  have t2 : (a == b) = true := by simpa using h2
  have u2 : ((a : Int) == (b : Int)) = true := by simp; omega
  have t3 : decide (N < M) = false := decide_eq_false h3
  have u3 : decide ((N : Int) < (M : Int)) = false := decide_eq_false (by omega)
  have t4 : decide (R < R2) = false := decide_eq_false h4
  have u4 : decide ((R : Int) < (R2 : Int)) = false := decide_eq_false (by omega)
  have t5 : (R == R2) = true := by simpa using h5
  have u5 : ((R : Int) == (R2 : Int)) = true := by simp; omega
  have t6 : decide (Q + 1 < P2) = false := decide_eq_false h6
  have u6 : decide (((Q : Int) + 1) < (P2 : Int)) = false := decide_eq_false (by omega)
  have TA : Hid True := Lib.hid trivial
  have TB : Hid True := Lib.hid trivial
  clear h1 h2 h5
  go_enter Try.func11, Try.ntmps11
  go_wp2_with (go_at_call 18; refine (C1.out _).mono ?_; rintro e w1 ⟨rfl, rfl⟩)
  go_quiet (fail)
  obtain ⟨W0, hW0, hB0⟩ : ∃ W0, w.drewN nq = W0 ∧ Below w.heap.size w W0 := ⟨_, rfl, below_drewN (Below.refl _ _) _⟩
  rw [hW0]
  clear hW0
  go_wp2_with (first
    | (go_at_call 20; with_reducible refine (C2.out _).mono ?_; rintro e w2 ⟨rfl, hB2⟩; have hW2 := Below.trans hB0 (hB2.mono hB0.size))
    | (go_at_call 29; with_reducible refine (C3.out _).mono ?_; rintro e w3 ⟨rfl, hB3⟩; have hW3 := below_step hW2 hB3)
    | (go_at_call 22; with_reducible refine (C4.out _).mono ?_; clear TA; rintro e w4 ⟨rfl, hB4⟩; have hW4 := below_step hW3 hB4)
    | (go_at_call 24; with_reducible refine (C5.out _).mono ?_; rintro e w5 ⟨rfl, hB5⟩; have hW5 := below_step hW4 hB5)
    | (go_at_call 22; with_reducible refine (C6.out _).mono ?_; rintro e w6 ⟨rfl, hB6⟩; have hW6 := below_step hW5 hB6)
    | (go_at_call 26; with_reducible refine (C7.out _).mono ?_; clear TB; rintro e w7 ⟨rfl, hB7⟩; have hW7 := below_step hW6 hB7)
    | (go_at_call 26; with_reducible refine (C8.out _).mono ?_; rintro e w8 ⟨rfl, hB8⟩; have hW8 := below_step hW7 hB8)
    | (go_at_call 31; with_reducible refine (C9.out _).mono ?_; rintro e w9 ⟨rfl, rfl⟩)
    | (go_at_call 33; with_reducible refine (C10.out _).mono ?_; rintro e w10 ⟨bl, off, c10, rfl, g0, hB10⟩; have hW10 := below_step hW8 hB10)
    | (go_at_call 28; refine (sane_any _).mono ?_; rintro e w11 ⟨rfl, hB11⟩; have hW11 := below_step hW10 hB11)
    | fail)
  go_ret
  exact ⟨rfl, hW11⟩

theorem skyThere_walk (o p q : Int) (w : World) (ho : (Lit.int .u8 o).wf = true) (hp : (Lit.int .u16 p).wf = true) (hq : (Lit.int .u16 q).wf = true) :
    Calls Try.prog 11 #[.int .u8 o, .int .u16 p, .int .u16 q] w fun e w' => e = .returned (.bool true) ∧ Below w.heap.size w w' := by
  obtain ⟨o0, o1⟩ := u8_bd ho
  obtain ⟨p0, p1⟩ := u16_bd hp
  obtain ⟨q0, q1⟩ := u16_bd hq
  obtain ⟨k, ek, hk⟩ : ∃ k : Nat, o % 5 = k ∧ k < 5 := ⟨(o % 5).toNat, by omega, by omega⟩
  obtain ⟨x2, x1⟩ := pxN_le hk
  obtain ⟨a, ea, ha⟩ : ∃ a : Nat, p % ((pxN k : Nat) : Int) = a ∧ a < pxN k := ⟨(p % ((pxN k : Nat) : Int)).toNat, by have := Int.emod_nonneg p (show ((pxN k : Nat) : Int) ≠ 0 by omega); omega, by have := Int.emod_lt_of_pos p (show 0 < ((pxN k : Nat) : Int) by omega); have := Int.emod_nonneg p (show ((pxN k : Nat) : Int) ≠ 0 by omega); omega⟩
  obtain ⟨b, eb, hb⟩ : ∃ a : Nat, q % ((pxN k : Nat) : Int) = a ∧ a < pxN k := ⟨(q % ((pxN k : Nat) : Int)).toNat, by have := Int.emod_nonneg q (show ((pxN k : Nat) : Int) ≠ 0 by omega); omega, by have := Int.emod_lt_of_pos q (show 0 < ((pxN k : Nat) : Int) by omega); have := Int.emod_nonneg q (show ((pxN k : Nat) : Int) ≠ 0 by omega); omega⟩
  have A := fact_of hk ha
  have B := fact_of hk hb
  have oa := okP_nat hk ha
  have ob := okP_nat hk hb
  have C1 : Hid (∀ W, Calls Try.prog 18 #[.int .i64 (k : Int)] W fun e w' => e = .returned (.tuple #[.int .i64 ((pxN k : Nat) : Int), .int .i64 0]) ∧ W = w') :=
    Lib.hid (fun W => (skyPixels_any k W).mono fun _ _ h => ⟨by rw [h.1]; simp [pxV, okE, okO_k hk, px_eq hk], h.2⟩)
  have C2 : Hid (∀ W, Calls Try.prog 20 #[.int .i64 ((k : Nat) : Int), .int .i64 ((a : Nat) : Int)] W fun e w' => e = .returned (.tuple #[.int .i64 ((fB k a : Nat) : Int), .int .i64 ((xB k a : Nat) : Int), .int .i64 ((yB k a : Nat) : Int), .int .i64 0]) ∧ Below W.heap.size W w') :=
    Lib.hid (fun W => (skyPlace_any k a W).mono fun _ _ h => ⟨by rw [h.1]; simp [plF, plX, plY, okE, oa], h.2⟩)
  have C3 : Hid (∀ W, Calls Try.prog 29 #[.int .i64 ((k : Nat) : Int), .int .i64 ((fB k a : Nat) : Int), .int .i64 ((xB k a : Nat) : Int), .int .i64 ((yB k a : Nat) : Int)] W fun e w' => e = .returned (.tuple #[.int .i64 ((a : Nat) : Int), .int .i64 0]) ∧ Below W.heap.size W w') :=
    Lib.hid (fun W => (skyNested_yes k (fB k a) (xB k a) (yB k a) hk A.f A.x A.y W).mono fun _ _ h => ⟨by rw [h.1, show nB k (fB k a) k (xB k a) (yB k a) = a from A.nest], h.2⟩)
  have C4 : Hid (∀ W, Calls Try.prog 22 #[.int .i64 ((k : Nat) : Int), .int .i64 ((a : Nat) : Int)] W fun e w' => e = .returned (.tuple #[.int .i64 ((NT k a : Nat) : Int), .int .i64 0]) ∧ Below W.heap.size W w') :=
    Lib.hid (fun W => (skyRing_any k a W).mono fun _ _ h => ⟨by rw [h.1]; simp [rgV, okE, oa], h.2⟩)
  have C5 : Hid (∀ W, Calls Try.prog 24 #[.int .i64 ((k : Nat) : Int), .int .i64 ((NT k a : Nat) : Int)] W fun e w' => e = .returned (.tuple #[.int .i64 ((a : Nat) : Int), .int .i64 0]) ∧ Below W.heap.size W w') :=
    Lib.hid (fun W => (skyFromRing_any k (NT k a : Nat) W).mono fun _ _ h => ⟨by rw [h.1]; simp [frV, okE, okP_nat hk A.n, A.t], h.2⟩)
  have C6 : Hid (∀ W, Calls Try.prog 22 #[.int .i64 ((k : Nat) : Int), .int .i64 ((b : Nat) : Int)] W fun e w' => e = .returned (.tuple #[.int .i64 ((NT k b : Nat) : Int), .int .i64 0]) ∧ Below W.heap.size W w') :=
    Lib.hid (fun W => (skyRing_any k b W).mono fun _ _ h => ⟨by rw [h.1]; simp [rgV, okE, ob], h.2⟩)
  have p1' := A.p1
  obtain ⟨Q, hQ⟩ : ∃ Q, PT k a = Q + 1 := ⟨PT k a - 1, by omega⟩
  have C7 : Hid (∀ W, Calls Try.prog 26 #[.int .i64 ((k : Nat) : Int), .int .i64 ((a : Nat) : Int)] W fun e w' => e = .returned (.tuple #[.int .i64 ((RT k a : Nat) : Int), .int .i64 ((Q : Int) + 1), .int .i64 0]) ∧ Below W.heap.size W w') :=
    Lib.hid (fun W => (skyRingOf_any k a W).mono fun _ _ h => ⟨by rw [h.1]; simp [roR, roP, okE, oa, hQ], h.2⟩)
  have C8 : Hid (∀ W, Calls Try.prog 26 #[.int .i64 ((k : Nat) : Int), .int .i64 ((b : Nat) : Int)] W fun e w' => e = .returned (.tuple #[.int .i64 ((RT k b : Nat) : Int), .int .i64 ((PT k b : Nat) : Int), .int .i64 0]) ∧ Below W.heap.size W w') :=
    Lib.hid (fun W => (skyRingOf_any k b W).mono fun _ _ h => ⟨by rw [h.1]; simp [roR, roP, okE, ob], h.2⟩)
  have okr : okR (k : Int) ((RT k a : Nat) : Int) = true := by rw [okR_k hk]; exact decide_eq_true ⟨by have := A.r1; omega, by rw [sd_nat]; have := A.r1; have := A.r2; omega⟩
  have hl4 : RT k a ≤ 4 * 2 ^ k := by have := A.r2; omega
  have C9 : Hid (∀ W, Calls Try.prog 31 #[.int .i64 (k : Int), .int .i64 ((RT k a : Nat) : Int)] W fun e w' => e = .returned (.tuple #[.int .i64 ((lenN k (RT k a) : Nat) : Int), .int .i64 0]) ∧ W = w') :=
    Lib.hid (fun W => (skyLength_any k (RT k a : Nat) W).mono fun _ _ h => ⟨by rw [h.1, lnV, if_pos okr, okr, Int.toNat_natCast, len_nat hk hl4]; rfl, h.2⟩)
  have hQL : Q < lenN k (RT k a) := by have := A.p2; omega
  have hTT : TT k (bef k (RT k a - 1) + Q) = a := by
    have t := A.t
    rwa [NT, hQ, show bef k (RT k a - 1) + (Q + 1) - 1 = bef k (RT k a - 1) + Q by omega] at t
  have C10 : Hid (∀ W, Calls Try.prog 33 #[.int .i64 (k : Int), .int .i64 ((RT k a : Nat) : Int)] W fun e w' => ∃ b o c, e = .returned (.tuple #[.slice (some ⟨b, o, none⟩) (lenN k (RT k a)) c, .int .i64 0]) ∧ w'.cell? ⟨b, o + Q, none⟩ = some (.int .i64 (a : Int)) ∧ Below W.heap.size W w') :=
    Lib.hid (fun W => (skyOn_any k (RT k a : Nat) W).mono fun e w' h => by
    obtain ⟨Ad, c, he, hO, hB⟩ := h
    have ev : onV k (RT k a : Nat) = onL k (RT k a) := by rw [onV, if_pos okr]; simp
    rw [ev] at he hO
    obtain ⟨b', o', rfl, _, hc⟩ := hO.ints.open_ (by rw [onL_len]; omega)
    have g := hc Q _ (onL_get hQL)
    rw [hTT] at g
    exact ⟨b', o', c, by rw [he, onL_len, okr]; rfl, g, hB⟩)
  have hL := lenN_le (r := RT k a) hk
  rcases Nat.lt_trichotomy (RT k a) (RT k b) with h | h | h
  · have hlt := nt_lt hk ha hb h
    exact there_less k a b _ _ _ (NT k a) (NT k b) (RT k a) (RT k b) Q (PT k b) (pxN k) _ o p q w o0 o1 p0 p1 q0 q1 hk ek ea eb x1 x2 A.n hQL hL C1 C2 C3 C4 C5 C6 C7 C8 C9 C10 (by omega) (by rintro rfl; omega) hlt h
  · have hs := nt_same hk ha hb h
    by_cases hab : a = b
    · have hPP : PT k b = Q + 1 := by rw [← hab]; exact hQ
      exact there_same k a b _ _ _ (NT k a) (NT k b) (RT k a) (RT k b) Q (PT k b) (pxN k) _ o p q w o0 o1 p0 p1 q0 q1 hk ek ea eb x1 x2 A.n hQL hL C1 C2 C3 C4 C5 C6 C7 C8 C9 C10 (by rw [hab]) hab (by rw [hab]; omega) (by omega) h (by omega)
    · have hne : NT k a ≠ NT k b := fun e => hab (nt_inj hk ha hb e)
      by_cases hp' : Q + 1 < PT k b
      · exact there_left k a b _ _ _ (NT k a) (NT k b) (RT k a) (RT k b) Q (PT k b) (pxN k) _ o p q w o0 o1 p0 p1 q0 q1 hk ek ea eb x1 x2 A.n hQL hL C1 C2 C3 C4 C5 C6 C7 C8 C9 C10 hne hab (hs.2 (by omega)) (by omega) h hp'
      · exact there_right k a b _ _ _ (NT k a) (NT k b) (RT k a) (RT k b) Q (PT k b) (pxN k) _ o p q w o0 o1 p0 p1 q0 q1 hk ek ea eb x1 x2 A.n hQL hL C1 C2 C3 C4 C5 C6 C7 C8 C9 C10 hne hab (fun hh => hp' (by have := hs.1 hh; omega)) (by omega) h hp'
  · have hlt := nt_lt hk hb ha h
    exact there_more k a b _ _ _ (NT k a) (NT k b) (RT k a) (RT k b) Q (PT k b) (pxN k) _ o p q w o0 o1 p0 p1 q0 q1 hk ek ea eb x1 x2 A.n hQL hL C1 C2 C3 C4 C5 C6 C7 C8 C9 C10 (by omega) (by rintro rfl; omega) (by omega) (by omega) (by omega)
end Go.Proofs.Ytnnfnphmieikmaa
