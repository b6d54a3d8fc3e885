/-
  Plain: the cells of a set have its pixels, and counts of sets; nothing of the program.
-/
import Derived.Test.YtnnfnphmieikmaaReg8
namespace Go.Proofs.Ytnnfnphmieikmaa
open Go

theorem from_in (P : Nat → Bool) : ∀ (n q0 : Nat), 3072 - q0 ≤ n → ∀ q, q < 3072 → inL (cellsFrom P q0) q = (decide (q0 ≤ q) && P q)
  | 0, q0, h, q, hq => by
    rw [from_end (by omega)]; simp [inL]; omega
  | n + 1, q0, h, q, hq => by
    by_cases hlt : q0 < 3072
    · cases hP : P q0 with
      | true =>
        have hw := wN_pos (ordAt P q0)
        have ih := from_in P n (q0 + wN (ordAt P q0)) (by omega) q hq
        have hk := okAt_ord hP
        simp only [okAt, Bool.and_eq_true, decide_eq_true_eq] at hk
        have hb := ord_begin hP
        have hfull := full_iff.1 hk.2
        rw [from_yes hlt hP, inL, List.any_cons]
        rw [inL] at ih
        rw [ih]
        simp only [Int.toNat_natCast]
        by_cases hi : inC (ordAt P q0) (q0 / wN (ordAt P q0)) q = true
        · have hp := hfull q hi
          rw [hi, hp]
          simp only [inC, hb, Bool.and_eq_true, decide_eq_true_eq] at hi
          simp; omega
        · have hi' : inC (ordAt P q0) (q0 / wN (ordAt P q0)) q = false := by simpa using hi
          rw [hi']
          simp only [inC, hb, Bool.and_eq_true, decide_eq_true_eq] at hi
          rw [Bool.false_or, show decide (q0 + wN (ordAt P q0) ≤ q) = decide (q0 ≤ q) from by rw [Bool.eq_iff_iff]; simp; omega]
      | false =>
        have ih := from_in P n (q0 + 1) (by omega) q hq
        rw [from_no hlt hP, ih]
        by_cases e : q = q0
        · subst e; simp [hP]
        · rw [show decide (q0 + 1 ≤ q) = decide (q0 ≤ q) from by rw [Bool.eq_iff_iff]; simp; omega]
    · rw [from_end (by omega)]; simp [inL]; omega
theorem cells_in (P : Nat → Bool) {q : Nat} (hq : q < 3072) : inL (cellsP P) q = P q := by
  rw [cellsP, from_in P 3072 0 (by omega) q hq]; simp
theorem from_cells (P : Nat → Bool) : ∀ (n q0 : Nat), 3072 - q0 ≤ n → (cellsFrom P q0).all cellB = true
  | 0, q0, h => by rw [from_end (by omega)]; rfl
  | n + 1, q0, h => by
    by_cases hlt : q0 < 3072
    · cases hP : P q0 with
      | true =>
        have hw := wN_pos (ordAt P q0)
        have ih := from_cells P n (q0 + wN (ordAt P q0)) (by omega)
        rw [from_yes hlt hP, List.all_cons, ih, cellB_mk (ord_le P q0) (ord_pix hlt)]; rfl
      | false => rw [from_no hlt hP]; exact from_cells P n (q0 + 1) (by omega)
    · rw [from_end (by omega)]; rfl
theorem st_valid (P : Nat → Bool) : vaB (stL P) = true := by
  unfold stL
  split
  · next h =>
    have e : cellsP (inL (cellsP P)) = cellsP P := cellsP_congr fun q hq => cells_in P hq
    have e2 := from_cells P 3072 0 (by omega)
    simp only [vaB, Bool.and_eq_true, decide_eq_true_eq]
    exact ⟨⟨h, e2⟩, e⟩
  · exact va_nil
theorem st_in {P : Nat → Bool} (h : stE P = 0) {q : Nat} (hq : q < 3072) : inL (stL P) q = P q := by
  unfold stE at h
  split at h
  · next hl => rw [stL, if_pos hl]; exact cells_in P hq
  · exact absurd h (by decide)
theorem st_cases (P : Nat → Bool) : stE P = 0 ∨ (stE P = 4 ∧ stL P = []) := by
  unfold stE stL; split
  · exact .inl rfl
  · exact .inr ⟨rfl, rfl⟩
theorem st_same {l : List (Int × Int)} (h : vaB l = true) : stL (inL l) = l ∧ stE (inL l) = 0 := by
  obtain ⟨h1, h2, h3⟩ := va_parts h
  rw [stL, stE, h3, if_pos h1, if_pos h1]; exact ⟨rfl, rfl⟩

theorem cnt_congr {P R : Nat → Bool} : ∀ n, (∀ q, q < n → P q = R q) → cntP P n = cntP R n
  | 0, _ => rfl
  | n + 1, h => by rw [cnt_snoc, cnt_snoc, cnt_congr n fun q hq => h q (by omega), h n (by omega)]
theorem cnt_or (P R : Nat → Bool) : ∀ n, cntP (fun q => P q || R q) n + cntP (fun q => P q && R q) n = cntP P n + cntP R n
  | 0 => rfl
  | n + 1 => by
    have ih := cnt_or P R n
    rw [cnt_snoc, cnt_snoc, cnt_snoc, cnt_snoc]
    cases P n <;> cases R n <;> simp <;> omega
theorem cnt_not (P : Nat → Bool) : ∀ n, cntP P n + cntP (fun q => !P q) n = n
  | 0 => rfl
  | n + 1 => by
    have ih := cnt_not P n
    rw [cnt_snoc, cnt_snoc]
    cases P n <;> simp <;> omega
theorem cnt_none (n : Nat) : cntP (fun _ => false) n = 0 := by simp [cntP]
theorem cnt_add {P : Nat → Bool} {p : Nat} (h : P p = false) : ∀ n, cntP (fun q => P q || decide (q = p)) n = cntP P n + if p < n then 1 else 0
  | 0 => rfl
  | n + 1 => by
    rw [cnt_snoc, cnt_snoc, cnt_add h n]
    rcases Nat.lt_trichotomy p n with h1 | rfl | h1
    · rw [show decide (n = p) = false from decide_eq_false (by omega), Bool.or_false, if_pos h1, if_pos (show p < n + 1 by omega)]; omega
    · rw [h]; simp
    · rw [show decide (n = p) = false from decide_eq_false (by omega), Bool.or_false, if_neg (show ¬ p < n by omega), if_neg (show ¬ p < n + 1 by omega)]; simp
set_option maxRecDepth 100000 in
theorem rg_new {a r j : Nat} (h1 : 1 ≤ r) (h2 : r ≤ 63) (hj : j < lenN 4 r) : rgTo a r j (TT 4 (bef 4 (r - 1) + j)) = false := by
  obtain ⟨b1, b2, b3⟩ := at_of (k := 4) (by omega) h1 (by omega) hj
  simp only [rgTo, b2, b3]
  simp
set_option maxRecDepth 100000 in
theorem rg_cnt {a r : Nat} (h1 : 1 ≤ r) (h2 : r ≤ 63) : ∀ j, j ≤ lenN 4 r → cntP (rgTo a r j) 3072 = cntP (rgTo a r 0) 3072 + j
  | 0, _ => rfl
  | j + 1, h => by
    obtain ⟨b1, b2, b3⟩ := at_of (k := 4) (by omega) h1 (by omega) (show j < lenN 4 r by omega)
    rw [px_top] at b1
    rw [cnt_congr 3072 fun q hq => (rg_step h1 h2 (show j < lenN 4 r by omega) hq).trans (by rw [in_four]), cnt_add (rg_new h1 h2 (by omega)), if_pos b1, rg_cnt h1 h2 j (by omega)]
    omega
set_option maxRecDepth 100000 in
theorem rg_sum {a : Nat} (ha : 1 ≤ a) : ∀ r, a ≤ r → r ≤ 64 → cntP (rgTo a r 0) 3072 + bef 4 (a - 1) = bef 4 (r - 1) := by
  intro r hr h64
  obtain ⟨d, rfl⟩ : ∃ d, r = a + d := ⟨r - a, by omega⟩
  clear hr
  induction d with
  | zero =>
    have : cntP (rgTo a a 0) 3072 = 0 := by rw [cnt_congr 3072 (rg_start a), cnt_none]
    rw [Nat.add_zero, this]; omega
  | succ d ih =>
    have ih := ih (by omega)
    have h1 : cntP (rgTo a (a + d + 1) 0) 3072 = cntP (rgTo a (a + d) 0) 3072 + lenN 4 (a + d) := by
      rw [← cnt_congr 3072 fun q hq => rg_ring (by omega : a ≤ a + d) hq]
      exact rg_cnt (by omega) (by omega) _ (Nat.le_refl _)
    have h2 : bef 4 (a + d) = bef 4 (a + d - 1) + lenN 4 (a + d) := by
      obtain ⟨x, hx⟩ : ∃ x, a + d = x + 1 := ⟨a + d - 1, by omega⟩
      rw [hx]; rfl
    rw [show a + (d + 1) = a + d + 1 by omega, h1, show a + d + 1 - 1 = a + d by omega, h2]
    omega
set_option maxRecDepth 100000 in
theorem ri_cnt {a b : Nat} (h1 : 1 ≤ a) (h2 : a ≤ b) (h3 : b ≤ 63) : cntP (riP a b) 3072 + bef 4 (a - 1) = bef 4 b := by
  have := rg_sum h1 (b + 1) (by omega) (by omega)
  rw [Nat.add_sub_cancel] at this
  rw [← this, cnt_congr 3072 fun q hq => (rg_end hq).symm]
set_option maxRecDepth 100000 in
theorem ri_sky : riL 1 63 = skyL ∧ riE 1 63 = 0 := by
  have h := st_same sky_valid
  have hc := stL_congr (P := riP 1 63) (R := inL skyL) (fun q hq => by
    have F := fact_of (k := 4) (by omega) (show q < pxN 4 by rw [px_top]; exact hq)
    have r1 := F.r1
    have r2 := F.r2
    rw [sky_in hq, riP, decide_eq_true_eq]; omega)
  have e : riOk 1 63 = true := by decide
  rw [riL, riE, e]
  simp only [if_true]
  exact ⟨(show stL (riP 1 63) = skyL from hc.1.trans h.1), (show stE (riP 1 63) = 0 from hc.2.trans h.2)⟩
end Go.Proofs.Ytnnfnphmieikmaa
