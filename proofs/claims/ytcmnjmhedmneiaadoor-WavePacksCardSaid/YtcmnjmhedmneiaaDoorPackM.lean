/-
  Plain words for the bytes of a text; nothing of the program.
-/
import Derived.Test.YtcmnjmhedmneiaaDoorRdM
namespace Go.Proofs.YtcmnjmhedmneiaaDoor
open Go.RowKit

def btI (l : List UInt8) (i : Nat) : Int := if l[i]? = some 49 then 1 else 0
def byteI (l : List UInt8) (k : Nat) : Int :=
  btI l (8 * k) * 128 + btI l (8 * k + 1) * 64 + btI l (8 * k + 2) * 32 + btI l (8 * k + 3) * 16 + btI l (8 * k + 4) * 8 + btI l (8 * k + 5) * 4 + btI l (8 * k + 6) * 2 + btI l (8 * k + 7)
/-- The bytes of a text, behind the two that tell its length. -/
def pbI (l : List UInt8) : List Int := (List.range ((l.length + 7) / 8)).map (byteI l)
def pkI (l : List UInt8) : List Int := ((l.length / 256 : Nat) : Int) :: ((l.length % 256 : Nat) : Int) :: pbI l
theorem bt_bd (l : List UInt8) (i : Nat) : 0 ≤ btI l i ∧ btI l i ≤ 1 := by unfold btI; split <;> omega
theorem byte_bd (l : List UInt8) (k : Nat) : 0 ≤ byteI l k ∧ byteI l k ≤ 255 := by
  have h0 := bt_bd l (8 * k); have h1 := bt_bd l (8 * k + 1); have h2 := bt_bd l (8 * k + 2); have h3 := bt_bd l (8 * k + 3)
  have h4 := bt_bd l (8 * k + 4); have h5 := bt_bd l (8 * k + 5); have h6 := bt_bd l (8 * k + 6); have h7 := bt_bd l (8 * k + 7)
  unfold byteI; omega
theorem pb_len (l : List UInt8) : (pbI l).length = (l.length + 7) / 8 := by simp [pbI]
theorem pk_len (l : List UInt8) : (pkI l).length = 2 + (l.length + 7) / 8 := by simp [pkI, pb_len]; omega
theorem bt_take (l : List UInt8) (m i : Nat) : btI (l.take m) i = if i < m then btI l i else 0 := by
  unfold btI
  rw [List.getElem?_take]
  by_cases h : i < m
  · rw [if_pos h, if_pos h]
  · rw [if_neg h, if_neg h]; rfl
/-- The byte in work behind one bit more; it was free below that bit. -/
theorem byte_step {l : List UInt8} {m q r : Nat} (hm : m = 8 * q + r) (hr : r < 8) :
    byteI (l.take (m + 1)) q = byteI (l.take m) q + btI l m * 2 ^ (7 - r) ∧ byteI (l.take m) q % 2 ^ (8 - r) = 0 := by
  subst hm
  unfold byteI
  simp only [bt_take]
  rcases (show r = 0 ∨ r = 1 ∨ r = 2 ∨ r = 3 ∨ r = 4 ∨ r = 5 ∨ r = 6 ∨ r = 7 by omega) with rfl | rfl | rfl | rfl | rfl | rfl | rfl | rfl
  all_goals
    constructor
    · simp (disch := omega) only [if_pos, if_neg, Nat.reduceSub, Int.reducePow, Int.zero_mul, Int.add_zero, Int.zero_add]
      try (first | rfl | omega)
    · simp (disch := omega) only [if_neg, Nat.reduceSub, Int.reducePow, Int.zero_mul, Int.add_zero, if_pos]
      try omega
theorem byte_old {l : List UInt8} {m k : Nat} (h : 8 * k + 8 ≤ m) : byteI (l.take m) k = byteI l k := by
  unfold byteI
  simp only [bt_take]
  simp (disch := omega) only [if_pos]
theorem byte_free {l : List UInt8} {q : Nat} : byteI (l.take (8 * q)) q = 0 := by
  unfold byteI
  simp only [bt_take]
  simp (disch := omega) only [if_neg]
  simp
theorem pb_take_get {l : List UInt8} {m k : Nat} (hm : m ≤ l.length) (h : k < (m + 7) / 8) : (pbI (l.take m))[k]? = some (byteI (l.take m) k) := by
  rw [pbI, List.getElem?_map, List.getElem?_range (by rw [List.length_take]; omega)]; rfl
/-- A byte is begun. -/
theorem pb_new {l : List UInt8} {m q : Nat} (hl : m < l.length) (hm : m = 8 * q) :
    pbI (l.take (m + 1)) = pbI (l.take m) ++ [btI l m * 128] := by
  have h1 : (l.take (m + 1)).length = m + 1 := by rw [List.length_take]; omega
  have h2 : (l.take m).length = m := by rw [List.length_take]; omega
  apply List.ext_getElem?
  intro k
  rcases Nat.lt_trichotomy k q with h | h | h
  · rw [pb_take_get (by omega) (by omega), List.getElem?_append_left (by rw [pb_len, h2]; omega), pb_take_get (by omega) (by omega), byte_old (by omega), byte_old (by omega)]
  · subst h
    rw [pb_take_get (by omega) (by omega), List.getElem?_append_right (by rw [pb_len, h2]; omega), pb_len, h2, show k - (m + 7) / 8 = 0 by omega, (byte_step (q := k) (r := 0) (by omega) (by omega)).1, hm, byte_free]
    simp
  · rw [List.getElem?_eq_none (by rw [pb_len, h1]; omega), List.getElem?_eq_none (by rw [List.length_append, pb_len, h2, List.length_singleton]; omega)]
/-- A byte is gone on with. -/
theorem pb_more {l : List UInt8} {m q r : Nat} (hl : m < l.length) (hm : m = 8 * q + r) (hr : r < 8) (h0 : 0 < r) :
    pbI (l.take (m + 1)) = (pbI (l.take m)).set q (byteI (l.take m) q + btI l m * 2 ^ (7 - r)) := by
  have h1 : (l.take (m + 1)).length = m + 1 := by rw [List.length_take]; omega
  have h2 : (l.take m).length = m := by rw [List.length_take]; omega
  apply List.ext_getElem?
  intro k
  rw [List.getElem?_set]
  rcases Nat.lt_trichotomy k q with h | h | h
  · rw [if_neg (by omega), pb_take_get (by omega) (by omega), pb_take_get (by omega) (by omega), byte_old (by omega), byte_old (by omega)]
  · subst h
    rw [if_pos rfl, if_pos (by rw [pb_len, h2]; omega), pb_take_get (by omega) (by omega), (byte_step hm hr).1]
  · rw [if_neg (by omega), List.getElem?_eq_none (by rw [pb_len, h1]; omega), List.getElem?_eq_none (by rw [pb_len, h2]; omega)]

/-! ### there and back -/
def unL (b : List Int) (n : Nat) : List UInt8 := (List.range n).map fun i => bitU (b.getD (2 + i / 8) 0) (7 - i % 8)
def cntI (b : List Int) : Int := b.getD 0 0 * 256 + b.getD 1 0
theorem un_len (b : List Int) (n : Nat) : (unL b n).length = n := by simp [unL]
theorem un_snoc (b : List Int) (n : Nat) : unL b (n + 1) = unL b n ++ [bitU (b.getD (2 + n / 8) 0) (7 - n % 8)] := by simp [unL, List.range_succ]
theorem un_bits (b : List Int) (n : Nat) : (unL b n).all bitB = true := by
  rw [List.all_eq_true]
  intro x hx
  obtain ⟨i, _, rfl⟩ := List.mem_map.1 hx
  unfold bitU; split <;> rfl
def bI (b : Bool) : Int := if b then 1 else 0
theorem byte_back : ∀ a b c d e f g h : Bool, ∀ x, x = bI a * 128 + bI b * 64 + bI c * 32 + bI d * 16 + bI e * 8 + bI f * 4 + bI g * 2 + bI h →
    x / 2 ^ 7 % 2 = bI a ∧ x / 2 ^ 6 % 2 = bI b ∧ x / 2 ^ 5 % 2 = bI c ∧ x / 2 ^ 4 % 2 = bI d ∧ x / 2 ^ 3 % 2 = bI e ∧ x / 2 ^ 2 % 2 = bI f ∧ x / 2 ^ 1 % 2 = bI g ∧ x / 2 ^ 0 % 2 = bI h := by
  intro a b c d e f g h x hx
  have h7 : ∀ b : Bool, 0 ≤ bI b ∧ bI b ≤ 1 := by decide
  have := h7 a; have := h7 b; have := h7 c; have := h7 d; have := h7 e; have := h7 f; have := h7 g; have := h7 h
  refine ⟨?_, ?_, ?_, ?_, ?_, ?_, ?_, ?_⟩ <;> omega
def isB (l : List UInt8) (i : Nat) : Bool := decide (l[i]? = some 49)
theorem bt_is (l : List UInt8) (i : Nat) : btI l i = bI (isB l i) := by
  unfold btI isB bI
  by_cases h : l[i]? = some 49
  · rw [if_pos h, decide_eq_true h]; rfl
  · rw [if_neg h, decide_eq_false h]; rfl
theorem byte_bit (l : List UInt8) (k j : Nat) (hj : j < 8) : byteI l k / 2 ^ (7 - j) % 2 = btI l (8 * k + j) := by
  have h := byte_back (isB l (8 * k)) (isB l (8 * k + 1)) (isB l (8 * k + 2)) (isB l (8 * k + 3)) (isB l (8 * k + 4)) (isB l (8 * k + 5)) (isB l (8 * k + 6)) (isB l (8 * k + 7)) (byteI l k) (by simp only [byteI, bt_is])
  simp only [← bt_is] at h
  rcases (show j = 0 ∨ j = 1 ∨ j = 2 ∨ j = 3 ∨ j = 4 ∨ j = 5 ∨ j = 6 ∨ j = 7 by omega) with rfl | rfl | rfl | rfl | rfl | rfl | rfl | rfl
  · exact h.1
  · exact h.2.1
  · exact h.2.2.1
  · exact h.2.2.2.1
  · exact h.2.2.2.2.1
  · exact h.2.2.2.2.2.1
  · exact h.2.2.2.2.2.2.1
  · exact h.2.2.2.2.2.2.2
theorem pk_back {l : List UInt8} (_hl : l.length ≤ 1000) (hb : l.all bitB = true) : cntI (pkI l) = l.length ∧ unL (pkI l) l.length = l := by
  refine ⟨by simp [cntI, pkI]; omega, ?_⟩
  apply List.ext_getElem?
  intro i
  rcases Nat.lt_or_ge i l.length with h | h
  · rw [unL, List.getElem?_map, List.getElem?_range h]
    obtain ⟨x, hx⟩ := getElem?_of_lt h
    rw [hx]
    have e1 : (pkI l).getD (2 + i / 8) 0 = byteI l (i / 8) := by
      rw [List.getD_eq_getElem?_getD, pkI, show 2 + i / 8 = (i / 8 + 1) + 1 by omega, List.getElem?_cons_succ, List.getElem?_cons_succ, pbI, List.getElem?_map, List.getElem?_range (by omega)]; rfl
    have e2 := byte_bit l (i / 8) (i % 8) (by omega)
    rw [show 8 * (i / 8) + i % 8 = i by omega] at e2
    show some (bitU ((pkI l).getD (2 + i / 8) 0) (7 - i % 8)) = some x
    rw [e1, bitU, e2, btI, hx]
    rw [List.all_eq_true] at hb
    have h3 := hb x (List.mem_of_getElem? hx)
    simp only [bitB, Bool.or_eq_true, beq_iff_eq] at h3
    rcases h3 with rfl | rfl <;> rfl
  · rw [List.getElem?_eq_none h, List.getElem?_eq_none (by rw [un_len]; exact h)]
/-- What Unpack answers. -/
def unB (b : List Int) : Bool := decide (2 ≤ b.length) && (decide (cntI b ≤ 1000) && decide (pkI (unL b (cntI b).toNat) = b))
def unE (b : List Int) : Int := if unB b then 0 else 3
def unT (b : List Int) : List UInt8 := if unB b then unL b (cntI b).toNat else []
theorem un_ok {b : List Int} (h1 : 2 ≤ b.length) (h2 : cntI b ≤ 1000) (h3 : pkI (unL b (cntI b).toNat) = b) : unE b = 0 ∧ unT b = unL b (cntI b).toNat := by
  have : unB b = true := by rw [unB, decide_eq_true h1, decide_eq_true h2, decide_eq_true h3]; rfl
  rw [unE, unT, if_pos this, if_pos this]; exact ⟨rfl, rfl⟩
theorem un_no {b : List Int} (h : unB b = false) : unE b = 3 ∧ unT b = [] := by rw [unE, unT, h]; exact ⟨rfl, rfl⟩
theorem un_few {b : List Int} (h : ¬ 2 ≤ b.length) : unE b = 3 ∧ unT b = [] := un_no (by rw [unB, decide_eq_false h]; rfl)
theorem un_many {b : List Int} (h : ¬ cntI b ≤ 1000) : unE b = 3 ∧ unT b = [] := un_no (by rw [unB, decide_eq_false h, Bool.false_and, Bool.and_false])
theorem un_other {b : List Int} (h : pkI (unL b (cntI b).toNat) ≠ b) : unE b = 3 ∧ unT b = [] := un_no (by rw [unB, decide_eq_false h, Bool.and_false, Bool.and_false])
theorem un_size {b : List Int} (h2 : b.length ≠ 2 + ((cntI b).toNat + 7) / 8) : unE b = 3 ∧ unT b = [] :=
  un_other (by intro he; have := congrArg List.length he; rw [pk_len, un_len] at this; omega)
def pcE (t : ByteArray) : Int := if vbB t then 0 else 31
def pcL (t : ByteArray) : List Int := if vbB t then pkI t.data.toList else []
theorem un_pack {l : List UInt8} (hl : l.length ≤ 1000) (hb : l.all bitB = true) : unE (pkI l) = 0 ∧ unT (pkI l) = l := by
  obtain ⟨h1, h2⟩ := pk_back hl hb
  have e : (cntI (pkI l)).toNat = l.length := by rw [h1]; rfl
  obtain ⟨a, b⟩ := un_ok (b := pkI l) (by rw [pk_len]; omega) (by rw [h1]; omega) (by rw [e, h2])
  exact ⟨a, by rw [b, e, h2]⟩
theorem un_again {b : List Int} (h : unE b = 0) : vbB ⟨(unT b).toArray⟩ = true ∧ pkI (unT b) = b := by
  cases hu : unB b with
  | false => rw [(un_no hu).1] at h; cases h
  | true =>
    have e : unT b = unL b (cntI b).toNat := by rw [unT, if_pos hu]
    simp only [unB, Bool.and_eq_true, decide_eq_true_eq] at hu
    rw [e]
    exact ⟨bits_of (by rw [un_len]; omega) (un_bits _ _), hu.2.2⟩
end Go.Proofs.YtcmnjmhedmneiaaDoor
