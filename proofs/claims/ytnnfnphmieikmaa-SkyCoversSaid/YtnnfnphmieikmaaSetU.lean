/-
  Plain: the part of a valid set that lies within one cell is never too great; nothing of the program.
-/
import Derived.Test.YtnnfnphmieikmaaSetT
namespace Go.Proofs.Ytnnfnphmieikmaa
open Go

theorem cell_nest {o k c p q0 : Nat} (ho : o < 5) (hk : k < 5) (h1 : q0 / wN o = c) (h2 : q0 / wN k = p) : (∀ q, q / wN k = p → q / wN o = c) ∨ (∀ q, q / wN o = c → q / wN k = p) := by
  rcases Nat.le_total o k with h | h
  · left; intro q hq; rw [div_up h hk, hq, ← h2, ← div_up h hk, h1]
  · right; intro q hq; rw [div_up h ho, hq, ← h1, ← div_up h ho, h2]
def inP (P : Nat → Bool) (k p : Nat) (q : Nat) : Bool := P q && inC k p q
theorem ok_part {P : Nat → Bool} {k p q o : Nat} (hk : k < 5) (ho : o < 5) (hn : fullB P k p = false) (hq : inC k p q = true) : okAt (inP P k p) q o = okAt P q o := by
  rw [Bool.eq_iff_iff]
  simp only [okAt, Bool.and_eq_true, decide_eq_true_eq]
  constructor
  · rintro ⟨h1, h2⟩
    refine ⟨h1, full_iff.2 fun x hx => ?_⟩
    have := full_iff.1 h2 x hx
    simp only [inP, Bool.and_eq_true] at this
    exact this.1
  · rintro ⟨h1, h2⟩
    refine ⟨h1, full_iff.2 fun x hx => ?_⟩
    rcases cell_nest ho hk (rfl : q / wN o = q / wN o) (in_div.1 hq) with hl | hr
    · have : fullB P k p = true := full_iff.2 fun y hy => full_iff.1 h2 y (in_div.2 (hl y (in_div.1 hy)))
      rw [hn] at this; exact absurd this (by decide)
    · rw [inP, full_iff.1 h2 x hx, in_div.2 (hr x (in_div.1 hx))]; rfl
theorem ord_part {P : Nat → Bool} {k p q : Nat} (hk : k < 5) (hn : fullB P k p = false) (hq : inC k p q = true) : ordAt (inP P k p) q = ordAt P q := by
  simp only [ordAt, ok_part hk (show 0 < 5 by omega) hn hq, ok_part hk (show 1 < 5 by omega) hn hq, ok_part hk (show 2 < 5 by omega) hn hq, ok_part hk (show 3 < 5 by omega) hn hq]
theorem from_none {P : Nat → Bool} : ∀ (n q : Nat), 3072 - q ≤ n → (∀ x, q ≤ x → x < 3072 → P x = false) → cellsFrom P q = []
  | 0, q, h, _ => from_end (by omega)
  | n + 1, q, h, hP => by
    by_cases hlt : q < 3072
    · rw [from_no hlt (hP q (Nat.le_refl _) hlt)]
      exact from_none n (q + 1) (by omega) fun x h1 h2 => hP x (by omega) h2
    · exact from_end (by omega)
theorem from_skip {P : Nat → Bool} {s : Nat} (hs : s ≤ 3072) : ∀ (n q : Nat), s - q ≤ n → q ≤ s → (∀ x, x < s → P x = false) → cellsFrom P q = cellsFrom P s
  | 0, q, h, h2, _ => by rw [show q = s by omega]
  | n + 1, q, h, h2, hP => by
    by_cases hlt : q < s
    · rw [from_no (by omega) (hP q hlt)]
      exact from_skip hs n (q + 1) (by omega) (by omega) hP
    · rw [show q = s by omega]
theorem in_range {k p q : Nat} : inC k p q = true ↔ p * wN k ≤ q ∧ q < p * wN k + wN k := by simp [inC]
/-- The cell at a pixel of another cell ends within that, where that is not whole. -/
theorem part_step {P : Nat → Bool} {k p q : Nat} (hk : k < 5) (hn : fullB P k p = false) (hq : inC k p q = true) (hP : P q = true) : q + wN (ordAt P q) ≤ p * wN k + wN k := by
  have hok := okAt_ord hP
  have hb := ord_begin hP
  have hw := wN_pos (ordAt P q)
  simp only [okAt, Bool.and_eq_true, decide_eq_true_eq] at hok
  rcases cell_nest (ord_le P q) hk (rfl : q / wN (ordAt P q) = q / wN (ordAt P q)) (in_div.1 hq) with hl | hr
  · have : fullB P k p = true := full_iff.2 fun y hy => full_iff.1 hok.2 y (in_div.2 (hl y (in_div.1 hy)))
    rw [hn] at this; exact absurd this (by decide)
  · have h1 : inC (ordAt P q) (q / wN (ordAt P q)) (q + wN (ordAt P q) - 1) = true := in_range.2 (by rw [hb]; omega)
    have h2 := in_range.1 (in_div.2 (hr _ (in_div.1 h1)))
    omega
theorem part_len {P : Nat → Bool} {k p : Nat} (hk : k < 5) (hp : p < pxN k) (hn : fullB P k p = false) : ∀ (n q : Nat), p * wN k + wN k - q ≤ n → p * wN k ≤ q → q ≤ p * wN k + wN k → (cellsFrom (inP P k p) q).length ≤ (cellsFrom P q).length := by
  have hend := cell_end hk hp
  have hnil : ∀ q, p * wN k + wN k ≤ q → cellsFrom (inP P k p) q = [] := fun q h => from_none 3072 q (by omega) fun x h1 h2 => by
    have : inC k p x = false := by
      cases hx : inC k p x with
      | false => rfl
      | true => have := in_range.1 hx; omega
    rw [inP, this, Bool.and_false]
  intro n
  induction n with
  | zero => intro q h h1 h2; rw [hnil q (by omega)]; simp
  | succ n ih =>
    intro q h h1 h2
    by_cases hlt : q < p * wN k + wN k
    · have hq : inC k p q = true := in_range.2 ⟨h1, hlt⟩
      cases hP : P q with
      | true =>
        have hR : inP P k p q = true := by rw [inP, hP, hq]; rfl
        have hs := part_step hk hn hq hP
        have hw := wN_pos (ordAt P q)
        rw [from_yes (by omega) hP, from_yes (by omega) hR, ord_part hk hn hq]
        have := ih (q + wN (ordAt P q)) (by omega) (by omega) hs
        simpa using this
      | false =>
        have hR : inP P k p q = false := by rw [inP, hP]; rfl
        rw [from_no (by omega) hP, from_no (by omega) hR]
        exact ih (q + 1) (by omega) (by omega) (by omega)
    · rw [hnil q (by omega)]; simp
theorem reach_len {P : Nat → Bool} {k p : Nat} (hk : k < 5) (hp : p < pxN k) (hn : fullB P k p = false) : ∀ (n q : Nat), p * wN k - q ≤ n → q ≤ p * wN k → (cellsFrom P (p * wN k)).length ≤ (cellsFrom P q).length := by
  have hend := cell_end hk hp
  have hwk := wN_pos k
  intro n
  induction n with
  | zero => intro q h h2; rw [show q = p * wN k by omega]; exact Nat.le_refl _
  | succ n ih =>
    intro q h h2
    by_cases hlt : q < p * wN k
    · cases hP : P q with
      | true =>
        have hw := wN_pos (ordAt P q)
        have hok := okAt_ord hP
        have hb := ord_begin hP
        simp only [okAt, Bool.and_eq_true, decide_eq_true_eq] at hok
        have hstep : q + wN (ordAt P q) ≤ p * wN k := by
          rcases Nat.lt_or_ge (p * wN k) (q + wN (ordAt P q)) with hbad | hgood
          · have hs1 : inC (ordAt P q) (q / wN (ordAt P q)) (p * wN k) = true := in_range.2 (by rw [hb]; omega)
            have hs2 : inC k p (p * wN k) = true := in_range.2 (by omega)
            rcases cell_nest (ord_le P q) hk (in_div.1 hs1) (in_div.1 hs2) with hl | hr
            · have : fullB P k p = true := full_iff.2 fun y hy => full_iff.1 hok.2 y (in_div.2 (hl y (in_div.1 hy)))
              rw [hn] at this; exact absurd this (by decide)
            · have h3 := in_range.1 (in_div.2 (hr q rfl)); omega
          · exact hgood
        rw [from_yes (by omega) hP]
        have := ih (q + wN (ordAt P q)) (by omega) hstep
        simp only [List.length_cons]; omega
      | false =>
        rw [from_no (by omega) hP]
        exact ih (q + 1) (by omega) (by omega)
    · rw [show q = p * wN k by omega]; exact Nat.le_refl _
theorem ord_least {P : Nat → Bool} {q k : Nat} (hk : k < 5) (h : okAt P q k = true) : ordAt P q ≤ k := by
  obtain rfl | rfl | rfl | rfl | rfl : k = 0 ∨ k = 1 ∨ k = 2 ∨ k = 3 ∨ k = 4 := by omega
  all_goals
    unfold ordAt
    repeat' split
    all_goals simp_all
theorem wN_anti {o k : Nat} (h : o ≤ k) : wN k ≤ wN o := Nat.pow_le_pow_right (by omega) (by omega)
theorem part_fits {l : List (Int × Int)} {k p : Nat} (hl : vaB l = true) (hk : k < 5) (hp : p < pxN k) : stE (inP (inL l) k p) = 0 := by
  obtain ⟨v1, _, v3⟩ := va_parts hl
  have hend := cell_end hk hp
  have hwk := wN_pos k
  have hskip : cellsP (inP (inL l) k p) = cellsFrom (inP (inL l) k p) (p * wN k) := from_skip (by omega) 3072 0 (by omega) (by omega) fun x hx => by
    have : inC k p x = false := by
      cases h : inC k p x with
      | false => rfl
      | true => have := in_range.1 h; omega
    rw [inP, this, Bool.and_false]
  have hlen : (cellsP (inP (inL l) k p)).length ≤ 400 := by
    cases hn : fullB (inL l) k p with
    | false =>
      rw [hskip]
      have h1 := part_len hk hp hn _ _ (Nat.le_refl _) (Nat.le_refl (p * wN k)) (by omega)
      have h2 := reach_len hk hp hn _ 0 (Nat.le_refl _) (by omega)
      have h3 : (cellsFrom (inL l) 0).length = l.length := by rw [show cellsFrom (inL l) 0 = l from v3]
      omega
    | true =>
      rw [hskip]
      have hs : inC k p (p * wN k) = true := in_range.2 (by omega)
      have hR : ∀ x, inC k p x = true → inP (inL l) k p x = true := fun x hx => by rw [inP, full_iff.1 hn x hx, hx]; rfl
      have hok : okAt (inP (inL l) k p) (p * wN k) k = true := by
        simp only [okAt, Bool.and_eq_true, decide_eq_true_eq]
        exact ⟨Nat.mul_mod_left _ _, full_iff.2 fun x hx => hR x (by rwa [Nat.mul_div_cancel _ hwk] at hx)⟩
      have hw := wN_anti (ord_least hk hok)
      rw [from_yes (by omega) (hR _ hs), from_none 3072 _ (by omega) fun x h1 h2 => by
        have : inC k p x = false := by
          cases h : inC k p x with
          | false => rfl
          | true => have := in_range.1 h; omega
        rw [inP, this, Bool.and_false]]
      simp
  rw [stE, if_pos hlen]
end Go.Proofs.Ytnnfnphmieikmaa
