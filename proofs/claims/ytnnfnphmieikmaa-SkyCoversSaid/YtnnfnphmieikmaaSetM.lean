/-
  Plain: words of bits, cells and the list of largest cells; nothing of the program.
-/
import Derived.Test.YtnnfnphmieikmaaSkyM
import Derived.Test.YtnnfnphmieikmaaPlain
import Derived.Laws.BitsAllLaws
namespace Go.Proofs.Ytnnfnphmieikmaa
open Go

def wordF (P : Nat → Bool) (n : Nat) : Nat → Nat
  | 0 => 0
  | b + 1 => wordF P n b ||| (if P (64 * n + b) then 2 ^ b else 0)
/-- The 64 pixels from 64 n on, as the bits of a word. -/
def wordAt (P : Nat → Bool) (n : Nat) : Nat := wordF P n 64
theorem wordF_bit (P : Nat → Bool) (n b : Nat) : ∀ k, (wordF P n k).testBit b = (decide (b < k) && P (64 * n + b))
  | 0 => by simp [wordF]
  | k + 1 => by
    rw [wordF, Nat.testBit_or, wordF_bit P n b k]
    by_cases h : P (64 * n + k) = true
    · rw [if_pos h, Nat.testBit_two_pow]
      by_cases e : k = b
      · subst e; simp [h]
      · by_cases hb : b < k
        · simp [hb, e, show b < k + 1 by omega]
        · simp [hb, e, show ¬ b < k + 1 by omega]
    · rw [if_neg h, Nat.zero_testBit]
      by_cases e : k = b
      · subst e; simp at h; simp [h]
      · by_cases hb : b < k
        · simp [hb, show b < k + 1 by omega]
        · simp [hb, show ¬ b < k + 1 by omega]
theorem word_bit (P : Nat → Bool) (n b : Nat) : (wordAt P n).testBit b = (decide (b < 64) && P (64 * n + b)) := wordF_bit P n b 64
theorem word_lt (P : Nat → Bool) (n : Nat) : wordAt P n < 2 ^ 64 :=
  Nat.lt_pow_two_of_testBit _ fun i hi => by rw [word_bit]; simp; omega
theorem word_ext {P : Nat → Bool} {n v : Nat} (h : ∀ b, v.testBit b = (decide (b < 64) && P (64 * n + b))) : v = wordAt P n :=
  Nat.eq_of_testBit_eq fun i => by rw [h, word_bit]
theorem word_congr {P R : Nat → Bool} {n : Nat} (h : ∀ b, b < 64 → P (64 * n + b) = R (64 * n + b)) : wordAt P n = wordAt R n :=
  word_ext fun b => by
    rw [word_bit]
    by_cases hb : b < 64
    · rw [h b hb]
    · simp [hb]
theorem word_none (n : Nat) : wordAt (fun _ => false) n = 0 := (word_ext fun b => by simp).symm
theorem word_test (P : Nat → Bool) (q : Nat) : wordAt P (q / 64) / 2 ^ (q % 64) % 2 = if P q then 1 else 0 := by
  have h := word_bit P (q / 64) (q % 64)
  rw [Nat.testBit_eq_decide_div_mod_eq, show 64 * (q / 64) + q % 64 = q by omega] at h
  have hb : q % 64 < 64 := Nat.mod_lt _ (by omega)
  have h2 : wordAt P (q / 64) / 2 ^ (q % 64) % 2 < 2 := Nat.mod_lt _ (by omega)
  rw [decide_eq_true hb, Bool.true_and] at h
  cases hp : P q with
  | true => rw [hp] at h; simpa using h
  | false => rw [hp] at h; simp at h; simp; omega
theorem word_put (P : Nat → Bool) (q n : Nat) : wordAt (fun r => P r || decide (r = q)) n = if n = q / 64 then wordAt P n ||| 2 ^ (q % 64) else wordAt P n := by
  refine (word_ext fun b => ?_).symm
  have hb : q % 64 < 64 := Nat.mod_lt _ (by omega)
  by_cases hn : n = q / 64
  · rw [if_pos hn, Nat.testBit_or, word_bit, Nat.testBit_two_pow]
    by_cases e : q % 64 = b
    · simp [show 64 * n + b = q by omega, e ▸ hb, e]
    · rw [decide_eq_false e]
      simp [show ¬ 64 * n + b = q by omega]
  · rw [if_neg hn, word_bit]
    by_cases h : b < 64
    · rw [show decide (64 * n + b = q) = false from decide_eq_false (by omega), Bool.or_false]
    · simp [h]
theorem word_or (P R : Nat → Bool) (n : Nat) : wordAt P n ||| wordAt R n = wordAt (fun q => P q || R q) n :=
  word_ext fun b => by rw [Nat.testBit_or, word_bit, word_bit]; cases decide (b < 64) <;> simp
theorem word_and (P R : Nat → Bool) (n : Nat) : wordAt P n &&& wordAt R n = wordAt (fun q => P q && R q) n :=
  word_ext fun b => by rw [Nat.testBit_and, word_bit, word_bit]; cases decide (b < 64) <;> simp
theorem word_not (P : Nat → Bool) (n : Nat) : 18446744073709551615 - wordAt P n = wordAt (fun q => !P q) n := by
  refine word_ext fun b => ?_
  have h := Nat.testBit_two_pow_sub_succ (word_lt P n) b
  rw [show 18446744073709551615 - wordAt P n = 2 ^ 64 - (wordAt P n + 1) by have := word_lt P n; omega, h, word_bit]
  cases decide (b < 64) <;> simp
theorem word_less (P R : Nat → Bool) (n : Nat) : wordAt P n &&& (18446744073709551615 - wordAt R n) = wordAt (fun q => P q && !R q) n := by
  rw [word_not, word_and]

/-- How many pixels a cell of an order has. -/
def wN (o : Nat) : Nat := 2 ^ (2 * (4 - o))
theorem wN_pos (o : Nat) : 0 < wN o := Nat.pow_pos (by omega)
theorem wN_le (o : Nat) : wN o ≤ 256 := by
  have := Nat.pow_le_pow_right (n := 2) (by omega) (show 2 * (4 - o) ≤ 8 by omega)
  unfold wN; omega
theorem wN_four : wN 4 = 1 := rfl
/-- Whether a cell has a pixel. -/
def inC (o p q : Nat) : Bool := decide (p * wN o ≤ q) && decide (q < p * wN o + wN o)
def cellN (c : Int × Int) : Nat × Nat := (c.1.toNat, c.2.toNat)
def inL (l : List (Int × Int)) (q : Nat) : Bool := l.any fun c => inC c.1.toNat c.2.toNat q
theorem px_w {o : Nat} (ho : o < 5) : pxN o * wN o = 3072 := by
  obtain rfl | rfl | rfl | rfl | rfl : o = 0 ∨ o = 1 ∨ o = 2 ∨ o = 3 ∨ o = 4 := by omega
  all_goals decide
theorem px_top : pxN 4 = 3072 := by decide
theorem cell_end {o p : Nat} (ho : o < 5) (hp : p < pxN o) : p * wN o + wN o ≤ 3072 := by
  have h : (p + 1) * wN o ≤ pxN o * wN o := Nat.mul_le_mul_right _ hp
  rw [px_w ho, Nat.add_mul] at h; omega
/-- Whether all pixels of a cell are there. -/
def fullB (P : Nat → Bool) (o p : Nat) : Bool := (List.range (wN o)).all fun n => P (p * wN o + n)
theorem full_iff {P : Nat → Bool} {o p : Nat} : fullB P o p = true ↔ ∀ q, inC o p q = true → P q = true := by
  simp only [fullB, List.all_eq_true, List.mem_range, inC, Bool.and_eq_true, decide_eq_true_eq]
  constructor
  · intro h q hq
    have := h (q - p * wN o) (by omega)
    rwa [show p * wN o + (q - p * wN o) = q by omega] at this
  · intro h n hn; exact h _ ⟨by omega, by omega⟩
/-- The first k pixels of a cell. -/
def fullTo (P : Nat → Bool) (o p k : Nat) : Bool := (List.range k).all fun n => P (p * wN o + n)
theorem fullTo_snoc (P : Nat → Bool) (o p k : Nat) : fullTo P o p (k + 1) = (fullTo P o p k && P (p * wN o + k)) := by
  simp [fullTo, List.range_succ]
theorem full_not {P : Nat → Bool} {o p k : Nat} (hk : k < wN o) (h : P (p * wN o + k) = false) : fullB P o p = false := by
  rw [fullB, List.all_eq_false]; exact ⟨k, List.mem_range.2 hk, by simp [h]⟩

/-- Whether a cell of an order begins with a pixel and is whole. -/
def okAt (P : Nat → Bool) (q o : Nat) : Bool := decide (q % wN o = 0) && fullB P o (q / wN o)
def ordAt (P : Nat → Bool) (q : Nat) : Nat := if okAt P q 0 then 0 else if okAt P q 1 then 1 else if okAt P q 2 then 2 else if okAt P q 3 then 3 else 4
theorem ord_le (P : Nat → Bool) (q : Nat) : ordAt P q < 5 := by unfold ordAt; split <;> (try omega); split <;> (try omega); split <;> (try omega); split <;> omega
theorem ord_eq {P : Nat → Bool} {q k : Nat} (hk : k < 5) (h : ∀ o, o < k → okAt P q o = false) (h2 : okAt P q k = true) : ordAt P q = k := by
  obtain rfl | rfl | rfl | rfl | rfl : k = 0 ∨ k = 1 ∨ k = 2 ∨ k = 3 ∨ k = 4 := by omega
  · simp [ordAt, h2]
  · simp [ordAt, h2, h 0 (by omega)]
  · simp [ordAt, h2, h 0 (by omega), h 1 (by omega)]
  · simp [ordAt, h2, h 0 (by omega), h 1 (by omega), h 2 (by omega)]
  · simp [ordAt, h 0 (by omega), h 1 (by omega), h 2 (by omega), h 3 (by omega)]
theorem okAt_four (P : Nat → Bool) (q : Nat) : okAt P q 4 = P q := by
  simp [okAt, fullB, wN_four, List.range_succ, Nat.mod_one]
theorem okAt_has {P : Nat → Bool} {q o : Nat} (h : okAt P q o = true) : P q = true := by
  simp only [okAt, Bool.and_eq_true, decide_eq_true_eq] at h
  have hw := wN_pos o
  refine full_iff.1 h.2 q ?_
  have e : q / wN o * wN o = q := Nat.div_mul_cancel (Nat.dvd_of_mod_eq_zero h.1)
  simp [inC, e]; omega
theorem okAt_ord {P : Nat → Bool} {q : Nat} (h : P q = true) : okAt P q (ordAt P q) = true := by
  unfold ordAt
  split
  · assumption
  · split
    · assumption
    · split
      · assumption
      · split
        · assumption
        · rw [okAt_four]; exact h
theorem ord_begin {P : Nat → Bool} {q : Nat} (h : P q = true) : q / wN (ordAt P q) * wN (ordAt P q) = q := by
  have := okAt_ord h
  simp only [okAt, Bool.and_eq_true, decide_eq_true_eq] at this
  exact Nat.div_mul_cancel (Nat.dvd_of_mod_eq_zero this.1)
theorem ord_pix {P : Nat → Bool} {q : Nat} (hq : q < 3072) : q / wN (ordAt P q) < pxN (ordAt P q) := by
  have e := px_w (ord_le P q)
  exact Nat.div_lt_of_lt_mul (by rw [Nat.mul_comm, e]; exact hq)
theorem ord_end {P : Nat → Bool} {q : Nat} (hq : q < 3072) (h : P q = true) : q + wN (ordAt P q) ≤ 3072 := by
  have := cell_end (ord_le P q) (ord_pix (P := P) hq)
  rwa [ord_begin h] at this

/-- The largest cells of what is there, from a pixel on. -/
def cellsF (P : Nat → Bool) : Nat → Nat → List (Int × Int)
  | 0, _ => []
  | f + 1, q => if 3072 ≤ q then [] else if P q then ((ordAt P q : Nat), (q / wN (ordAt P q) : Nat)) :: cellsF P f (q + wN (ordAt P q)) else cellsF P f (q + 1)
theorem cellsF_past {P : Nat → Bool} {f q : Nat} (h : 3072 ≤ q) : cellsF P f q = [] := by
  cases f with
  | zero => rfl
  | succ f => rw [cellsF, if_pos h]
theorem cellsF_more {P : Nat → Bool} : ∀ (f g q : Nat), 3072 ≤ q + f → f ≤ g → cellsF P g q = cellsF P f q
  | 0, g, q, h, _ => by rw [cellsF_past (by omega)]; rfl
  | f + 1, 0, q, _, hg => by omega
  | f + 1, g + 1, q, h, hg => by
    rw [cellsF, cellsF]
    have hw := wN_pos (ordAt P q)
    split
    · rfl
    · split
      · rw [cellsF_more f g _ (by omega) (by omega)]
      · exact cellsF_more f g _ (by omega) (by omega)
def cellsFrom (P : Nat → Bool) (q : Nat) : List (Int × Int) := cellsF P (3072 - q) q
def cellsP (P : Nat → Bool) : List (Int × Int) := cellsFrom P 0
theorem from_end {P : Nat → Bool} {q : Nat} (h : 3072 ≤ q) : cellsFrom P q = [] := cellsF_past h
theorem from_yes {P : Nat → Bool} {q : Nat} (h : q < 3072) (hp : P q = true) : cellsFrom P q = (((ordAt P q : Nat) : Int), ((q / wN (ordAt P q) : Nat) : Int)) :: cellsFrom P (q + wN (ordAt P q)) := by
  obtain ⟨f, hf⟩ : ∃ f, 3072 - q = f + 1 := ⟨3072 - q - 1, by omega⟩
  have hw := wN_pos (ordAt P q)
  rw [cellsFrom, hf, cellsF, if_neg (by omega), if_pos hp, cellsFrom, cellsF_more (3072 - (q + wN (ordAt P q))) f _ (by omega) (by omega)]
theorem from_no {P : Nat → Bool} {q : Nat} (h : q < 3072) (hp : P q = false) : cellsFrom P q = cellsFrom P (q + 1) := by
  obtain ⟨f, hf⟩ : ∃ f, 3072 - q = f + 1 := ⟨3072 - q - 1, by omega⟩
  rw [cellsFrom, hf, cellsF, if_neg (by omega), if_neg (by simp [hp]), cellsFrom, cellsF_more (3072 - (q + 1)) f _ (by omega) (by omega)]

/-- What holds of the cells one by one. -/
def cellB (c : Int × Int) : Bool := decide (0 ≤ c.1 ∧ c.1 ≤ 4) && decide (0 ≤ c.2 ∧ c.2 < (pxN c.1.toNat : Nat))
theorem cellB_mk {o p : Nat} (ho : o < 5) (hp : p < pxN o) : cellB (o, p) = true := by
  simp [cellB]; omega
theorem cellB_of {c : Int × Int} (h : cellB c = true) : ∃ o p : Nat, c = ((o : Int), (p : Int)) ∧ o < 5 ∧ p < pxN o := by
  obtain ⟨a, b⟩ := c
  simp only [cellB, Bool.and_eq_true, decide_eq_true_eq] at h
  exact ⟨a.toNat, b.toNat, by ext <;> simp <;> omega, by omega, by omega⟩
def vaB (l : List (Int × Int)) : Bool := decide (l.length ≤ 400) && l.all cellB && decide (cellsP (inL l) = l)
end Go.Proofs.Ytnnfnphmieikmaa
