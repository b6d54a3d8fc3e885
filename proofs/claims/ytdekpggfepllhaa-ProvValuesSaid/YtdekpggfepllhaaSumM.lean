/-
  Sums in plain words: tokens, products, sums, their values and costs. Nothing of the program but its order of texts.
-/
import Derived.Test.YtdekpggfepllhaaPlain
import Derived.Laws.Strings
set_option linter.unusedVariables false
set_option linter.unusedSimpArgs false
namespace Go.Proofs.Ytdekpggfepllhaa
open Go Go.RowKit

abbrev Pr := ByteArray × Int
abbrev Sm := List Pr
def prZ : Pr := (⟨#[]⟩, 0)
/-- The byte at a place, as a number. -/
def bN (q : ByteArray) (k : Nat) : Nat := (q.data.toList.getD k 0).toNat
theorem bN_at {q : ByteArray} {k : Nat} (h : k < q.size) : q[k].toNat = bN q k := by
  unfold bN
  rw [List.getD_eq_getElem?_getD, List.getElem?_eq_getElem (by simpa using h)]; rfl
def okK (q : ByteArray) (k : Nat) : Bool := decide (97 ≤ bN q k ∧ bN q k ≤ 104 ∧ (0 < k → bN q (k - 1) ≤ bN q k))
def ascB (q : ByteArray) : Bool := (List.range q.size).all (okK q)
def tokB (q : ByteArray) : Bool := decide (q.size ≤ 12) && ascB q
theorem range_snoc {p : Nat → Bool} (k : Nat) : (List.range (k + 1)).all p = ((List.range k).all p && p k) := by simp [List.range_succ]
theorem asc_not {q : ByteArray} {k : Nat} (h : k < q.size) (ho : okK q k = false) : ascB q = false := by
  rw [ascB, List.all_eq_false]; exact ⟨k, List.mem_range.2 h, by simp [ho]⟩
theorem asc_at {q : ByteArray} (h : ascB q = true) {k : Nat} (hk : k < q.size) : okK q k = true := List.all_eq_true.1 h k (List.mem_range.2 hk)
theorem tok_bd {q : ByteArray} (h : tokB q = true) {k : Nat} (hk : k < q.size) : 97 ≤ bN q k ∧ bN q k ≤ 104 := by
  simp only [tokB, Bool.and_eq_true] at h
  have := asc_at h.2 hk
  simp [okK] at this; omega
theorem tok_size {q : ByteArray} (h : tokB q = true) : q.size ≤ 12 := by
  simp only [tokB, Bool.and_eq_true, decide_eq_true_eq] at h; exact h.1
theorem ok_no1 {q : ByteArray} {k : Nat} (h : bN q k < (if k = 0 then 97 else bN q (k - 1))) : okK q k = false := by
  rw [okK, decide_eq_false_iff_not]; rintro ⟨h1, _, h3⟩
  by_cases hk : k = 0
  · rw [if_pos hk] at h; omega
  · rw [if_neg hk] at h; have := h3 (by omega); omega
theorem ok_no2 {q : ByteArray} {k : Nat} (h : 104 < bN q k) : okK q k = false := by
  rw [okK, decide_eq_false_iff_not]; rintro ⟨_, h1, _⟩; omega
theorem ok_no3 {q : ByteArray} {k : Nat} (h : bN q k < 97) : okK q k = false := by
  rw [okK, decide_eq_false_iff_not]; rintro ⟨h1, _, _⟩; omega
theorem ok_yes {q : ByteArray} {k : Nat} (h1 : (if k = 0 then 97 else bN q (k - 1)) ≤ bN q k) (h2 : bN q k ≤ 104) (h3 : 97 ≤ (if k = 0 then 97 else bN q (k - 1))) : okK q k = true := by
  rw [okK, decide_eq_true_eq]
  refine ⟨by omega, h2, fun hk => ?_⟩
  rw [if_neg (by omega)] at h1; exact h1

def prB (p : Pr) : Bool := tokB p.1 && decide (1 ≤ p.2 ∧ p.2 ≤ 100000)
def tl (s : Sm) (k : Nat) : List UInt8 := (s.getD k prZ).1.data.toList
def tmI (s : Sm) (k : Nat) : Int := (s.getD k prZ).2
/-- The product at k is one, and its tokens come behind those of the one in front of it. -/
def vaK (s : Sm) (k : Nat) : Bool := prB (s.getD k prZ) && (decide (k = 0) || Op.bytesLess (tl s (k - 1)) (tl s k))
def vsB (s : Sm) : Bool := decide (s.length ≤ 40) && (List.range s.length).all (vaK s)
theorem getP_of_lt {s : Sm} {k : Nat} (h : k < s.length) : ∃ q t, s[k]? = some (q, t) := ⟨_, _, List.getElem?_eq_getElem h⟩
theorem getP_parts {s : Sm} {k : Nat} {q : ByteArray} {t : Int} (h : s[k]? = some (q, t)) : s.getD k prZ = (q, t) := by rw [List.getD_eq_getElem?_getD, h]; rfl
theorem vs_at {s : Sm} (h : vsB s = true) {k : Nat} (hk : k < s.length) : vaK s k = true := by
  simp only [vsB, Bool.and_eq_true] at h; exact List.all_eq_true.1 h.2 k (List.mem_range.2 hk)
theorem vs_len {s : Sm} (h : vsB s = true) : s.length ≤ 40 := by
  simp only [vsB, Bool.and_eq_true, decide_eq_true_eq] at h; exact h.1
theorem vs_pr {s : Sm} (h : vsB s = true) {k : Nat} {q : ByteArray} {t : Int} (hx : s[k]? = some (q, t)) : tokB q = true ∧ 1 ≤ t ∧ t ≤ 100000 := by
  have := vs_at h (List.getElem?_eq_some_iff.1 hx).1
  simp only [vaK, Bool.and_eq_true] at this
  have h1 := this.1
  rw [getP_parts hx, prB, Bool.and_eq_true, decide_eq_true_eq] at h1
  exact ⟨h1.1, h1.2⟩
theorem vs_not {s : Sm} {k : Nat} (hk : k < s.length) (h : vaK s k = false) : vsB s = false := by
  rw [vsB, Bool.and_eq_false_iff]; right
  rw [List.all_eq_false]; exact ⟨k, List.mem_range.2 hk, by simp [h]⟩
theorem vs_not_len {s : Sm} (h : 40 < s.length) : vsB s = false := by
  rw [vsB, decide_eq_false (by omega)]; rfl
theorem vs_yes {s : Sm} (h : s.length ≤ 40) (ha : (List.range s.length).all (vaK s) = true) : vsB s = true := by
  rw [vsB, decide_eq_true h, ha]; rfl

/-! ### the order of texts -/
theorem bl_irr : ∀ a : List UInt8, Op.bytesLess a a = false
  | [] => rfl
  | x :: t => by simp [Op.bytesLess, bl_irr t]
theorem bl_tri : ∀ a b : List UInt8, Op.bytesLess a b = true ∨ a = b ∨ Op.bytesLess b a = true
  | [], [] => .inr (.inl rfl)
  | [], _ :: _ => .inl rfl
  | _ :: _, [] => .inr (.inr rfl)
  | x :: t, y :: u => by
    rcases Nat.lt_trichotomy x.toNat y.toNat with h | h | h
    · left; simp [Op.bytesLess, UInt8.lt_iff_toNat_lt, h]
    · have e : x = y := UInt8.toNat_inj.1 h
      subst e
      rcases bl_tri t u with h1 | h1 | h1
      · left; simp [Op.bytesLess, h1]
      · right; left; rw [h1]
      · right; right; simp [Op.bytesLess, h1]
    · right; right; simp [Op.bytesLess, UInt8.lt_iff_toNat_lt, h]
theorem bl_asym : ∀ a b : List UInt8, Op.bytesLess a b = true → Op.bytesLess b a = false
  | [], [], h => by simp [Op.bytesLess] at h
  | [], _ :: _, _ => rfl
  | _ :: _, [], h => by simp [Op.bytesLess] at h
  | x :: t, y :: u, h => by
    simp only [Op.bytesLess, Bool.or_eq_true, decide_eq_true_eq, Bool.and_eq_true, beq_iff_eq, UInt8.lt_iff_toNat_lt] at h
    rcases h with h | ⟨h, h2⟩
    · have : ¬ y.toNat < x.toNat := by omega
      have hne : y ≠ x := fun e => by subst e; omega
      simp [Op.bytesLess, UInt8.lt_iff_toNat_lt, this, hne]
    · subst h
      simp [Op.bytesLess, bl_asym t u h2]
theorem bl_leq (a b : List UInt8) : (Op.bytesLess b a || b == a) = !Op.bytesLess a b := by
  rcases bl_tri a b with h | h | h
  · rw [h, bl_asym a b h]
    have : (b == a) = false := by
      rw [beq_eq_false_iff_ne]; rintro rfl; rw [bl_irr] at h; cases h
    rw [this]; rfl
  · subst h; rw [bl_irr]; simp
  · rw [h, bl_asym b a h]; rfl

/-! ### values and costs -/
def nm (l : List Int) (q : ByteArray) (k : Nat) : Int := l.getD (bN q k - 97) 0
/-- Times a number, with the numbers of the first k tokens. -/
def mulK (l : List Int) (q : ByteArray) (t : Int) : Nat → Int
  | 0 => t
  | k + 1 => mulK l q t k * nm l q k
def sumK (l : List Int) (q : ByteArray) : Nat → Int
  | 0 => 0
  | k + 1 => sumK l q k + nm l q k
def prV (l : List Int) (p : Pr) : Int := mulK l p.1 p.2 p.1.size
def prC (l : List Int) (p : Pr) : Int := sumK l p.1 p.1.size
def vlI (l : List Int) (s : Sm) : Int := (s.map (prV l)).sum
def mnI : List Int → Int
  | [] => 0
  | [x] => x
  | x :: y :: t => min x (mnI (y :: t))
def csI (l : List Int) (s : Sm) : Int := mnI (s.map (prC l))
def nuB (l : List Int) (m : Int) : Bool := decide (l.length = 8) && l.all (fun x => decide (0 ≤ x ∧ x ≤ m))
theorem nu_at {l : List Int} {m : Int} (h : nuB l m = true) {j : Nat} (hj : j < 8) : ∃ x, l[j]? = some x ∧ 0 ≤ x ∧ x ≤ m := by
  simp only [nuB, Bool.and_eq_true, decide_eq_true_eq, List.all_eq_true] at h
  have hl : j < l.length := by omega
  have := h.2 l[j] (List.getElem_mem hl)
  exact ⟨_, List.getElem?_eq_getElem hl, this⟩
theorem nu_len {l : List Int} {m : Int} (h : nuB l m = true) : l.length = 8 := by
  simp only [nuB, Bool.and_eq_true, decide_eq_true_eq] at h; exact h.1
theorem nm_of {l : List Int} {q : ByteArray} {k : Nat} {x : Int} (h : l[bN q k - 97]? = some x) : nm l q k = x := by rw [nm, List.getD_eq_getElem?_getD, h]; rfl
theorem nm_bd {l : List Int} {m : Int} (hn : nuB l m = true) {q : ByteArray} (hq : tokB q = true) {k : Nat} (hk : k < q.size) : 0 ≤ nm l q k ∧ nm l q k ≤ m := by
  have hb := tok_bd hq hk
  obtain ⟨x, h1, h2⟩ := nu_at hn (j := bN q k - 97) (by omega)
  rw [nm_of h1]; exact h2
theorem mul_bd {l : List Int} (hn : nuB l 10 = true) {q : ByteArray} (hq : tokB q = true) {t : Int} (h0 : 0 ≤ t) (h1 : t ≤ 100000) : ∀ k, k ≤ q.size → 0 ≤ mulK l q t k ∧ mulK l q t k ≤ 100000 * 10 ^ k
  | 0, _ => by simp [mulK]; omega
  | k + 1, h => by
    have ih := mul_bd hn hq h0 h1 k (by omega)
    have hb := nm_bd hn hq (show k < q.size by omega)
    rw [mulK]
    refine ⟨Int.mul_nonneg ih.1 hb.1, ?_⟩
    have h2 : mulK l q t k * nm l q k ≤ (100000 * 10 ^ k) * 10 := Int.mul_le_mul ih.2 hb.2 hb.1 (by have : (0:Int) ≤ 10 ^ k := Int.pow_nonneg (by decide); omega)
    rw [Int.pow_succ, ← Int.mul_assoc]; exact h2
theorem pow_le12 : ∀ k : Nat, k ≤ 12 → (10 : Int) ^ k ≤ 1000000000000 := by decide
theorem mul_bd12 {l : List Int} (hn : nuB l 10 = true) {q : ByteArray} (hq : tokB q = true) {t : Int} (h0 : 0 ≤ t) (h1 : t ≤ 100000) {k : Nat} (hk : k ≤ q.size) : 0 ≤ mulK l q t k ∧ mulK l q t k ≤ 100000000000000000 := by
  have h := mul_bd hn hq h0 h1 k hk
  have hp := pow_le12 k (by have := tok_size hq; omega)
  omega
theorem sum_bd12 {l : List Int} (hn : nuB l 1000 = true) {q : ByteArray} (hq : tokB q = true) : ∀ k, k ≤ q.size → 0 ≤ sumK l q k ∧ sumK l q k ≤ 1000 * k
  | 0, _ => by simp [sumK]
  | k + 1, h => by
    have ih := sum_bd12 hn hq k (by omega)
    have hb := nm_bd hn hq (show k < q.size by omega)
    rw [sumK]; omega
theorem sum_snoc {f : Pr → Int} {s : Sm} {k : Nat} {p : Pr} (h : s[k]? = some p) : ((s.take (k + 1)).map f).sum = ((s.take k).map f).sum + f p := by rw [take_snoc h]; simp
theorem vl_bd {l : List Int} (hn : nuB l 10 = true) {s : Sm} (hs : vsB s = true) : ∀ k, k ≤ s.length → 0 ≤ ((s.take k).map (prV l)).sum ∧ ((s.take k).map (prV l)).sum ≤ 100000000000000000 * k
  | 0, _ => by simp
  | k + 1, h => by
    have ih := vl_bd hn hs k (by omega)
    obtain ⟨q, t, hx⟩ := getP_of_lt (s := s) (k := k) (by omega)
    obtain ⟨h1, h2, h3⟩ := vs_pr hs hx
    have hb := mul_bd12 hn h1 (by omega) h3 (Nat.le_refl q.size)
    rw [sum_snoc hx, prV]
    simp only at hb ⊢
    omega
theorem mn_snoc {xs : List Int} (h : 0 < xs.length) (x : Int) : mnI (xs ++ [x]) = min (mnI xs) x := by
  match xs, h with
  | [a], _ => rfl
  | a :: b :: t, _ =>
    have ih := mn_snoc (xs := b :: t) (by simp) x
    show min a (mnI (b :: t ++ [x])) = min (min a (mnI (b :: t))) x
    rw [ih, Int.min_assoc]
end Go.Proofs.Ytdekpggfepllhaa
