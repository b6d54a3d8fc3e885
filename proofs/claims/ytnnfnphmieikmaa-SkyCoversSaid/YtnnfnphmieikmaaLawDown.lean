/-
  The walk of SkyDown: it returns true, whatever it is given.
-/
import Derived.Test.YtnnfnphmieikmaaChild
namespace Go.Proofs.Ytnnfnphmieikmaa
open Go Go.RowKit Go.Shelf

theorem u8_bd {a : Int} (h : (Lit.int .u8 a).wf = true) : 0 ≤ a ∧ a ≤ 255 := by
  have h2 : (decide (0 ≤ a) && decide (a ≤ 255)) = true := h
  simpa using h2
theorem u16_bd {a : Int} (h : (Lit.int .u16 a).wf = true) : 0 ≤ a ∧ a ≤ 65535 := by
  have h2 : (decide (0 ≤ a) && decide (a ≤ 65535)) = true := h
  simpa using h2
theorem px_next {k p i : Nat} (hp : p < pxN k) (hi : i < 4) : 4 * p + i < pxN (k + 1) := by
  have e : pxN (k + 1) = 4 * pxN k := by unfold pxN; rw [Nat.pow_succ]; generalize 2 ^ k = s; simp only [Nat.mul_assoc, Nat.mul_comm, Nat.mul_left_comm]
  omega
theorem up_ok {k d p : Nat} (hk : k + d < 5) (hp : p < pxN (k + d)) : upV ((k + d : Nat) : Int) p k = (upN d p : Nat) ∧ upE ((k + d : Nat) : Int) p k = 0 := by
  have e1 : upOk ((k + d : Nat) : Int) p k = true := by
    rw [upOk, okP_nat hk hp]; simp; omega
  rw [upV, upE, if_pos e1, if_pos e1]
  exact ⟨by congr 2; omega, rfl⟩
theorem upN_child (p i : Nat) (hi : i < 4) : upN 1 (4 * p + i) = p := by unfold upN; omega
theorem upN_lt {k d p : Nat} (hp : p < pxN (k + d)) : upN d p < pxN k := by
  have e : pxN (k + d) = pxN k * 2 ^ (2 * d) := by
    unfold pxN; rw [show 2 * d = d + d by omega, Nat.pow_add, Nat.pow_add]; simp only [Nat.mul_assoc, Nat.mul_comm, Nat.mul_left_comm]
  unfold upN
  exact Nat.div_lt_of_lt_mul (by rw [Nat.mul_comm, ← e]; exact hp)
theorem upN_add (d e p : Nat) : upN e (upN d p) = upN (d + e) p := by
  unfold upN; rw [Nat.div_div_eq_div_mul, ← Nat.pow_add]; congr 2; omega
theorem ch_ok {k p : Nat} (hk : k < 4) (hp : p < pxN k) : chL k p = [4 * (p : Int), 4 * (p : Int) + 1, 4 * (p : Int) + 2, 4 * (p : Int) + 3] ∧ chE k p = 0 := by
  have h := okP_nat (k := k) (by omega) hp
  constructor
  · rw [chL, if_pos (by rw [chOk, h]; simp; omega)]
  · rw [chE, if_pos h, if_neg (by omega)]
theorem four_get (p : Int) (i : Nat) (hi : i < 4) : [4 * p, 4 * p + 1, 4 * p + 2, 4 * p + 3][i]? = some (4 * p + i) := by
  obtain rfl | rfl | rfl | rfl : i = 0 ∨ i = 1 ∨ i = 2 ∨ i = 3 := by omega
  all_goals simp

set_option maxRecDepth 100000 in
set_option maxHeartbeats 1000000 in
theorem skyDown_walk (o p t0 t1 : Int) (w : World) (ho : (Lit.int .u8 o).wf = true) (hp : (Lit.int .u16 p).wf = true) (h0 : (Lit.int .u8 t0).wf = true) (h1 : (Lit.int .u8 t1).wf = true) :
    Calls Try.prog 12 #[.int .u8 o, .int .u16 p, .agg #[.int .u8 t0, .int .u8 t1]] w fun e w' => e = .returned (.bool true) ∧ Below w.heap.size w w' := by
  obtain ⟨o0, o1⟩ := u8_bd ho
  obtain ⟨p0, p1⟩ := u16_bd hp
  obtain ⟨a0, a1⟩ := u8_bd h0
  obtain ⟨b0, b1⟩ := u8_bd h1
  clear ho hp h0 h1
  obtain ⟨k, ek, hk⟩ : ∃ k : Nat, o % 4 = k ∧ k < 4 := ⟨(o % 4).toNat, by omega, by omega⟩
  have q1 := px_eq (k := k) (by omega)
  obtain ⟨q2, q3⟩ := px_bd (k := k) (by omega)
  obtain ⟨a, ea, ha⟩ : ∃ a : Nat, p % pxI k = a ∧ a < pxN k := ⟨(p % pxI k).toNat, by have := Int.emod_nonneg p (show pxI k ≠ 0 by omega); omega, by have := Int.emod_lt_of_pos p (show 0 < pxI k by omega); have := Int.emod_nonneg p (show pxI k ≠ 0 by omega); omega⟩
  obtain ⟨f, ef, hf⟩ : ∃ f : Nat, t0 % ((k : Int) + 1) = f ∧ f ≤ k := ⟨(t0 % ((k : Int) + 1)).toNat, by have := Int.emod_nonneg t0 (show ((k : Int) + 1) ≠ 0 by omega); omega, by have := Int.emod_lt_of_pos t0 (show 0 < ((k : Int) + 1) by omega); have := Int.emod_nonneg t0 (show ((k : Int) + 1) ≠ 0 by omega); omega⟩
  obtain ⟨s, es, hs⟩ : ∃ s : Nat, t1 % ((f : Int) + 1) = s ∧ s ≤ f := ⟨(t1 % ((f : Int) + 1)).toNat, by have := Int.emod_nonneg t1 (show ((f : Int) + 1) ≠ 0 by omega); omega, by have := Int.emod_lt_of_pos t1 (show 0 < ((f : Int) + 1) by omega); have := Int.emod_nonneg t1 (show ((f : Int) + 1) ≠ 0 by omega); omega⟩
  have hq := (pxN_le (k := k) (by omega)).1
  have CP : Hid (∀ W, Calls Try.prog 18 #[.int .i64 (k : Int)] W fun e w' => e = .returned (.tuple #[.int .i64 (pxI k), .int .i64 0]) ∧ W = w') :=
    Lib.hid (fun W => (skyPixels_any k W).mono fun _ _ h => ⟨by rw [h.1]; simp [pxV, okE, okO_k (show k < 5 by omega)], h.2⟩)
  have CC : Hid (∀ W, Calls Try.prog 38 #[.int .i64 (k : Int), .int .i64 (a : Int)] W fun e w' => ∃ A c, e = .returned (.tuple #[.slice A 4 c, .int .i64 0]) ∧ Out w' A c [4 * (a : Int), 4 * (a : Int) + 1, 4 * (a : Int) + 2, 4 * (a : Int) + 3] ∧ Below W.heap.size W w') :=
    Lib.hid (fun W => (skyChildren_any k a W).mono fun _ _ h => by rw [(ch_ok hk ha).1, (ch_ok hk ha).2] at h; exact h)
  have CU : Hid (∀ z : Int, 4 * (a : Int) ≤ z → z ≤ 4 * (a : Int) + 3 → ∀ W, Calls Try.prog 36 #[.int .i64 ((k : Int) + 1), .int .i64 z, .int .i64 (k : Int)] W fun e w' => e = .returned (.tuple #[.int .i64 (a : Int), .int .i64 0]) ∧ Below W.heap.size W w') :=
    Lib.hid (fun z h1 h2 W => (skyUp_any _ _ _ W).mono fun _ _ h => ⟨by
      obtain ⟨i, rfl, hi⟩ : ∃ i : Nat, z = ((4 * a + i : Nat) : Int) ∧ i < 4 := ⟨(z - 4 * a).toNat, by omega, by omega⟩
      have u := up_ok (k := k) (d := 1) (p := 4 * a + i) (by omega) (px_next ha hi)
      rw [upN_child a i hi] at u
      rw [h.1, show ((k : Int) + 1) = ((k + 1 : Nat) : Int) by omega, u.1, u.2], h.2⟩)
  have C1 : Hid (∀ W, Calls Try.prog 36 #[.int .i64 (k : Int), .int .i64 (a : Int), .int .i64 (f : Int)] W fun e w' => e = .returned (.tuple #[.int .i64 (upN (k - f) a : Nat), .int .i64 0]) ∧ Below W.heap.size W w') :=
    Lib.hid (fun W => (skyUp_any _ _ _ W).mono fun _ _ h => ⟨by
      have u := up_ok (k := f) (d := k - f) (p := a) (by omega) (by rw [show f + (k - f) = k by omega]; exact ha)
      rw [show f + (k - f) = k by omega] at u
      rw [h.1, u.1, u.2], h.2⟩)
  have C2 : Hid (∀ W, Calls Try.prog 36 #[.int .i64 (f : Int), .int .i64 (upN (k - f) a : Nat), .int .i64 (s : Int)] W fun e w' => e = .returned (.tuple #[.int .i64 (upN (k - s) a : Nat), .int .i64 0]) ∧ Below W.heap.size W w') :=
    Lib.hid (fun W => (skyUp_any _ _ _ W).mono fun _ _ h => ⟨by
      have hl := upN_lt (k := f) (d := k - f) (p := a) (by rw [show f + (k - f) = k by omega]; exact ha)
      have u := up_ok (k := s) (d := f - s) (p := upN (k - f) a) (by omega) (by rw [show s + (f - s) = f by omega]; exact hl)
      rw [show s + (f - s) = f by omega, upN_add, show k - f + (f - s) = k - s by omega] at u
      rw [h.1, u.1, u.2], h.2⟩)
  have C3 : Hid (∀ W, Calls Try.prog 36 #[.int .i64 (k : Int), .int .i64 (a : Int), .int .i64 (s : Int)] W fun e w' => e = .returned (.tuple #[.int .i64 (upN (k - s) a : Nat), .int .i64 0]) ∧ Below W.heap.size W w') :=
    Lib.hid (fun W => (skyUp_any _ _ _ W).mono fun _ _ h => ⟨by
      have u := up_ok (k := s) (d := k - s) (p := a) (by omega) (by rw [show s + (k - s) = k by omega]; exact ha)
      rw [show s + (k - s) = k by omega] at u
      rw [h.1, u.1, u.2], h.2⟩)
  have TA : Hid True := Lib.hid trivial
  have TB : Hid True := Lib.hid trivial
  generalize ((upN (k - f) a : Nat) : Int) = X at C1 C2
  generalize ((upN (k - s) a : Nat) : Int) = Y at C2 C3
  clear q1
  go_enter Try.func12, Try.ntmps12
  go_wp2_with (first
    | (go_at_call 18; refine (CP.out _).mono ?_; rintro e w1 ⟨rfl, rfl⟩)
    | (go_at_call 38; refine (CC.out _).mono ?_; rintro e w2 ⟨A2, c2, rfl, hO2, hB2⟩; have hW2 : Below w.heap.size w w2 := (Below.trans (by repeat (first | with_reducible exact Below.refl _ _ | with_reducible assumption | refine below_drewN ?_ _ | with_reducible refine Below.drew ?_ | (refine Below.setCell ?_ (by first | (simp; done) | (simp; omega) | omega) _) | (refine Below.alloc ?_ (by first | (simp; done) | (simp; omega) | omega) _))) (hB2.mono (by first | (simp; done) | (simp; omega) | omega))); have y0 := (hB2.cell (p := ⟨w.heap.size, 0, none⟩) (by simp)).trans (cell_of_row _ _ 0 _ _ _ (heap_alloc_new w _)); have y1 := (hB2.cell (p := ⟨w.heap.size, 1, none⟩) (by simp)).trans (cell_of_row _ _ 1 _ _ _ (heap_alloc_new w _)); simp at y0 y1; have z2 : w.heap.size < w2.heap.size := (by have := hB2.size; simp at this; omega); clear hB2)
    | fail)
  obtain ⟨bl, off, rfl, hbl, hcells⟩ := hO2.ints.open_ (by simp)
  have HC : Hid (∀ i : Nat, i < 4 → w2.cell? ⟨bl, off + i, none⟩ = some (.int .i64 (4 * (a : Int) + i))) := Lib.hid (fun i hi => hcells i _ (four_get a i hi))
  clear hcells
  go_loopw [12] (fun i wr => ∃ q : Nat, q ≤ 4 ∧ i = .int .i64 q ∧ Below w2.heap.size w2 wr) (fun i _ => 4 - (intOf i).toNat)
  case atStart => exact ⟨0, by omega, rfl, Below.refl _ _⟩
  case round =>
    obtain ⟨q, hq4, rfl, hB⟩ := hrel
    by_cases hlt : q < 4
    · have hz := hB.size
      have hzl : bl < wr.heap.size := by omega
      cases q with
      | zero =>
        have g0 : wr.cell? ⟨bl, off, none⟩ = some (.int .i64 (4 * (a : Int))) := by simpa using (hB.cell (p := ⟨bl, off + 0, none⟩) hbl).trans (HC.out 0 hlt)
        have CQ := Lib.hid (CU.out (4 * (a : Int)) (by omega) (by omega))
        go_wp2_with (go_at_call 36; refine (CQ.out _).mono ?_; rintro e w3 ⟨rfl, hB3⟩; have g0 := (hB3.cell (p := ⟨bl, off, none⟩) hzl).trans g0; have hB := (Below.trans hB (hB3.mono hz)); clear hB3)
        go_quiet (fail)
        go_wp2
        go_roundw
        case rel => exact ⟨1, by omega, rfl, below_drewN hB _⟩
        case measure => simp [intOf]
      | succ r =>
        have g0 := (hB.cell (p := ⟨bl, off + (r + 1), none⟩) hbl).trans (HC.out (r + 1) (by omega))
        have g1 := (hB.cell (p := ⟨bl, off + r, none⟩) hbl).trans (HC.out r (by omega))
        have CQ := Lib.hid (CU.out (4 * (a : Int) + ((r + 1 : Nat) : Int)) (by omega) (by omega))
        obtain ⟨z1, e1, l1, l2⟩ : ∃ z1, z1 = 4 * (a : Int) + ((r + 1 : Nat) : Int) ∧ 0 ≤ z1 ∧ z1 ≤ 20000 := ⟨_, rfl, by omega, by omega⟩
        obtain ⟨z0, e0, l3, l4⟩ : ∃ z0, z0 = 4 * (a : Int) + (r : Int) ∧ 0 ≤ z0 ∧ z0 ≤ 20000 := ⟨_, rfl, by omega, by omega⟩
        have t1 : (z1 != z0 + 1) = false := by simp; omega
        rw [← e1] at g0 CQ
        rw [← e0] at g1
        clear e0 e1
        go_wp2_with (go_at_call 36; refine (CQ.out _).mono ?_; rintro e w3 ⟨rfl, hB3⟩; have g0 := (hB3.cell (p := ⟨bl, off + (r + 1), none⟩) hzl).trans g0; have g1 := (hB3.cell (p := ⟨bl, off + r, none⟩) hzl).trans g1; have hB := (Below.trans hB (hB3.mono hz)); clear hB3)
        go_quiet (fail)
        go_wp2
        go_roundw
        case rel => exact ⟨r + 2, by omega, by go_num, below_drewN hB _⟩
        case measure => simp [intOf]; omega
    · obtain rfl : q = 4 := by omega
      have hz := hB.size
      have y0 := (hB.cell (p := ⟨w.heap.size, 0, none⟩) z2).trans y0
      have y1 := (hB.cell (p := ⟨w.heap.size, 1, none⟩) z2).trans y1
      have hz3 : w.heap.size < wr.heap.size := by omega
      have hWr : Below w.heap.size w wr := Below.trans hW2 (hB.mono (by omega))
      go_wp2_with (first
        | (go_at_call 36; with_reducible refine (C1.out _).mono ?_; clear TA; rintro e w4 ⟨rfl, hB4⟩; have y1 := (hB4.cell (p := ⟨w.heap.size, 1, none⟩) hz3).trans y1; have hW4 := below_step hWr hB4)
        | (go_at_call 36; with_reducible refine (C2.out _).mono ?_; clear TB; rintro e w5 ⟨rfl, hB5⟩; have hW5 := below_step hW4 hB5)
        | (go_at_call 36; with_reducible refine (C3.out _).mono ?_; rintro e w6 ⟨rfl, hB6⟩; have hW6 := below_step hW5 hB6)
        | (go_at_call 28; refine (sane_any _).mono ?_; rintro e w7 ⟨rfl, hB7⟩)
        | fail)
      go_ret
      exact ⟨rfl, below_step hW6 hB7⟩
end Go.Proofs.Ytnnfnphmieikmaa
