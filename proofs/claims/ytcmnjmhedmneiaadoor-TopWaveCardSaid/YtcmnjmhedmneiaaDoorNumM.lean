/-
  Plain words for the word of a number and the number of a word; nothing of the program.
-/
import Derived.Test.YtcmnjmhedmneiaaDoorSteps
namespace Go.Proofs.YtcmnjmhedmneiaaDoor
open Go.RowKit

def bitN (b : UInt8) : Int := if b = 49 then 1 else 0
/-- The number of bits that all count up. -/
def upA (l : List UInt8) : Int := l.foldl (fun n b => 2 * n + bitN b) 0
def headB (l : List UInt8) : Bool := l.head? == some 49
def numL (l : List UInt8) : Int := if headB l = true then upA l - 2 ^ l.length else upA l
theorem up_snoc (l : List UInt8) (b : UInt8) : upA (l ++ [b]) = 2 * upA l + bitN b := by simp [upA]
theorem bitN_bd (b : UInt8) : 0 ≤ bitN b ∧ bitN b ≤ 1 := by unfold bitN; split <;> omega
theorem up_bd (l : List UInt8) : ∀ n, l.length ≤ n → 0 ≤ upA l ∧ upA l ≤ 2 ^ n - 1 := by
  intro n h
  have : ∀ (k : Nat) (l : List UInt8), l.length = k → 0 ≤ upA l ∧ upA l ≤ 2 ^ k - 1 := by
    intro k
    induction k with
    | zero => intro l h; obtain rfl := List.eq_nil_of_length_eq_zero h; simp [upA]
    | succ k ih =>
      intro l h
      have hne : l ≠ [] := by rintro rfl; simp at h
      have e := List.dropLast_concat_getLast hne
      have h2 := ih l.dropLast (by simp; omega)
      have h3 := bitN_bd (l.getLast hne)
      rw [← e, up_snoc, Int.pow_succ]
      omega
  have h1 := this l.length l rfl
  have h2 : (2 : Int) ^ l.length ≤ 2 ^ n := by
    have := Nat.pow_le_pow_right (show 0 < 2 by omega) h
    exact_mod_cast this
  omega
theorem up_small {l : List UInt8} (h : l.length ≤ 11) : 0 ≤ upA l ∧ upA l ≤ 2047 := up_bd l 11 h
theorem up_next {l : List UInt8} {k : Nat} {b : UInt8} (h : l[k]? = some b) : upA (l.take (k + 1)) = 2 * upA (l.take k) + bitN b := by
  rw [take_snoc h, up_snoc]
theorem bit_sub {b : UInt8} (h : bitB b = true) : ((b.toNat : Int) - 48) = bitN b := by
  simp only [bitB, Bool.or_eq_true, beq_iff_eq] at h
  rcases h with rfl | rfl <;> rfl
/-! ### there and back -/
/-- All texts of some bits. -/
def allB : Nat → List (List UInt8)
  | 0 => [[]]
  | n + 1 => (allB n).map (48 :: ·) ++ (allB n).map (49 :: ·)
theorem all_has : ∀ (l : List UInt8), l.all bitB = true → l ∈ allB l.length
  | [], _ => by simp [allB]
  | b :: t, h => by
    simp only [List.all_cons, Bool.and_eq_true] at h
    have h2 := all_has t h.2
    have hb := h.1
    simp only [bitB, Bool.or_eq_true, beq_iff_eq] at hb
    rw [List.length_cons, allB, List.mem_append, List.mem_map, List.mem_map]
    rcases hb with rfl | rfl
    · exact .inl ⟨t, h2, rfl⟩
    · exact .inr ⟨t, h2, rfl⟩
def backB (w : Nat) : Bool := (allB w).all fun l => inwB w (numL l) && decide (wordL w (numL l) = l)
theorem back_all : ∀ k, k < 5 → backB (wdN k) = true := by decide +kernel
def thereB (w : Nat) : Bool := (List.range (2 ^ w)).all fun m => decide (numL (wordL w ((m : Int) - halfN w)) = (m : Int) - halfN w)
theorem there_all : ∀ k, k < 5 → thereB (wdN k) = true := by decide +kernel
theorem num_back {k : Nat} (hk : k < 5) {l : List UInt8} (hl : l.length = wdN k) (h : l.all bitB = true) : inwB (wdN k) (numL l) = true ∧ wordL (wdN k) (numL l) = l := by
  have h1 := back_all k hk
  have h2 := all_has l h
  rw [hl] at h2
  rw [backB, List.all_eq_true] at h1
  have h3 := h1 l h2
  simpa using h3
theorem num_there {k : Nat} (hk : k < 5) {n : Int} (h : inwB (wdN k) n = true) : numL (wordL (wdN k) n) = n := by
  have h1 := there_all k hk
  rw [thereB, List.all_eq_true] at h1
  have hp : (2 : Int) ^ wdN k = 2 * halfN (wdN k) := by
    rcases (show k = 0 ∨ k = 1 ∨ k = 2 ∨ k = 3 ∨ k = 4 by omega) with rfl | rfl | rfl | rfl | rfl <;> rfl
  simp only [inwB, decide_eq_true_eq] at h
  have h2 := h1 (n + halfN (wdN k)).toNat (List.mem_range.2 (by
    have e : ((2 ^ wdN k : Nat) : Int) = (2 : Int) ^ wdN k := by push_cast; rfl
    omega))
  rw [decide_eq_true_eq, show (((n + halfN (wdN k)).toNat : Nat) : Int) - halfN (wdN k) = n by omega] at h2
  exact h2
theorem word_bits (w : Nat) (n : Int) : (wordL w n).all bitB = true := by
  rw [List.all_eq_true]
  intro b hb
  obtain ⟨i, _, rfl⟩ := List.mem_map.1 hb
  unfold bitU; split <;> rfl
/-! ### what the calls answer -/
def wwE (wi n : Int) : Int := match ksF wi with
  | some k => if inwB (wdN k) n then 0 else 2
  | none => 2
def wwL (wi n : Int) : List UInt8 := match ksF wi with
  | some k => if inwB (wdN k) n then wordL (wdN k) n else []
  | none => []
def nnE (l : List UInt8) : Int := match ksF l.length with
  | some _ => if l.all bitB then 0 else 3
  | none => 3
def nnL (l : List UInt8) : Int := match ksF l.length with
  | some _ => if l.all bitB then numL l else 0
  | none => 0
theorem ww_none {wi n : Int} (h : ksF wi = none) : wwE wi n = 2 ∧ wwL wi n = [] := by simp [wwE, wwL, h]
theorem ww_out {wi n : Int} {k : Nat} (h : ksF wi = some k) (h2 : inwB (wdN k) n = false) : wwE wi n = 2 ∧ wwL wi n = [] := by simp [wwE, wwL, h, h2]
theorem ww_ok {wi n : Int} {k : Nat} (h : ksF wi = some k) (h2 : inwB (wdN k) n = true) : wwE wi n = 0 ∧ wwL wi n = wordL (wdN k) n := by simp [wwE, wwL, h, h2]
theorem nn_none {l : List UInt8} (h : ksF l.length = none) : nnE l = 3 ∧ nnL l = 0 := by simp [nnE, nnL, h]
theorem nn_out {l : List UInt8} {k : Nat} (h : ksF l.length = some k) (h2 : l.all bitB = false) : nnE l = 3 ∧ nnL l = 0 := by simp only [nnE, nnL, h, h2]; simp
theorem nn_ok {l : List UInt8} {k : Nat} (h : ksF l.length = some k) (h2 : l.all bitB = true) : nnE l = 0 ∧ nnL l = numL l := by simp only [nnE, nnL, h, h2]; simp
theorem ks_wd {k : Nat} (h : k < 5) : ksF (wdN k) = some k := by
  rcases (show k = 0 ∨ k = 1 ∨ k = 2 ∨ k = 3 ∨ k = 4 by omega) with rfl | rfl | rfl | rfl | rfl <;> rfl
end Go.Proofs.YtcmnjmhedmneiaaDoor
