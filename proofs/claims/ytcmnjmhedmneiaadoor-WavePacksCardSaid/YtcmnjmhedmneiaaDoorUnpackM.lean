/-
  Plain words for the bits out of bytes; nothing of the program.
-/
import Derived.Test.YtcmnjmhedmneiaaDoorPack2
import Derived.Test.YtcmnjmhedmneiaaDoorSteps
namespace Go.Proofs.YtcmnjmhedmneiaaDoor
open Go.RowKit Go.Shelf

def Bys (b : List Int) : Prop := ∀ z ∈ b, 0 ≤ z ∧ z ≤ 255
/-- The first of so many bytes are written. -/
def genK (f : Nat → UInt8) (n i : Nat) : List UInt8 := (List.range n).map fun j => if j < i then f j else 0
theorem genK_len (f : Nat → UInt8) (n i : Nat) : (genK f n i).length = n := by simp [genK]
theorem genK_end (f : Nat → UInt8) (n : Nat) : genK f n n = (List.range n).map f := by
  unfold genK
  apply List.map_congr_left
  intro j hj
  rw [if_pos (List.mem_range.1 hj)]
theorem genK_next {f : Nat → UInt8} {n i : Nat} (h : i < n) : (Lib.byteCells (genK f n i)).set i (.int .u8 (f i).toNat) = Lib.byteCells (genK f n (i + 1)) := by
  unfold Lib.byteCells
  rw [← List.map_set]
  congr 1
  apply List.ext_getElem?
  intro j
  by_cases hj : j < n
  · by_cases he : j = i
    · subst he
      rw [List.getElem?_set_self (by rw [genK_len]; exact h)]
      simp [genK, h]
    · rw [List.getElem?_set_ne (by omega)]
      simp only [genK, List.getElem?_map, List.getElem?_range hj, Option.map_some]
      congr 1
      by_cases h2 : j < i
      · rw [if_pos h2, if_pos (by omega)]
      · rw [if_neg h2, if_neg (by omega)]
  · rw [List.getElem?_eq_none (by rw [List.length_set, genK_len]; omega), List.getElem?_eq_none (by rw [genK_len]; omega)]
theorem made_gen (f : Nat → UInt8) (n : Nat) : (madeCells (Value.int .u8 0).cells (n * 1)).toList = Lib.byteCells (genK f n 0) := by
  have e : genK f n 0 = List.replicate n 0 := by
    rw [List.eq_replicate_iff]; simp [genK]
  rw [e, Lib.byteCells, List.map_replicate, List.eq_replicate_iff]
  simp [madeCells, Value.cells, Nat.mod_one]
def ubF (b : List Int) (i : Nat) : UInt8 := bitU (b.getD (2 + i / 8) 0) (7 - i % 8)
theorem ub_end (b : List Int) (n : Nat) : genK (ubF b) n n = unL b n := genK_end _ _
theorem andB_all : ∀ y, y < 256 → bits .and .u8 ((y : Nat) : Int) 1 = ((y % 2 : Nat) : Int) := by decide +kernel
theorem bit_valB {x : Int} (hx : 0 ≤ x ∧ x ≤ 255) (j : Nat) : (48 + bits .and .u8 (x / 2 ^ j) 1) % 256 = ((bitU x j).toNat : Int) := by
  have h0 : 0 ≤ x / 2 ^ j := Int.ediv_nonneg hx.1 (by have : (0 : Int) < 2 ^ j := Int.pow_pos (by omega); omega)
  have h1 : x / 2 ^ j ≤ x := Int.ediv_le_self _ hx.1
  obtain ⟨y, hy⟩ : ∃ y : Nat, x / 2 ^ j = (y : Int) := ⟨(x / 2 ^ j).toNat, by omega⟩
  rw [bitU, hy, andB_all y (by omega)]
  have h := Nat.mod_two_eq_zero_or_one y
  rcases h with h | h
  · rw [h, if_neg (by omega)]; rfl
  · rw [h, if_pos (by omega)]; rfl
theorem or_cnt_all : ∀ x, x < 256 → ∀ y, y < 256 → (256 * x ||| y) = 256 * x + y := by decide +kernel
theorem or_cnt {x y : Int} (hx : 0 ≤ x ∧ x ≤ 255) (hy : 0 ≤ y ∧ y ≤ 255) : bits .or .i64 (x * 256) y = x * 256 + y := by
  obtain ⟨a, rfl⟩ : ∃ a : Nat, x = (a : Int) := ⟨x.toNat, by omega⟩
  obtain ⟨b, rfl⟩ : ∃ b : Nat, y = (b : Int) := ⟨y.toNat, by omega⟩
  have h := or_cnt_all a (by omega) b (by omega)
  show IntKind.i64.wrap ((BitVec.ofInt 64 ((a : Int) * 256) ||| BitVec.ofInt 64 (b : Int)).toNat : Int) = _
  rw [show (a : Int) * 256 = ((256 * a : Nat) : Int) by omega, BitVec.toNat_or, BitVec.ofInt_natCast, BitVec.ofInt_natCast, BitVec.toNat_ofNat, BitVec.toNat_ofNat, Nat.mod_eq_of_lt (by omega), Nat.mod_eq_of_lt (by omega), h, IntKind.wrap_i64]
  omega
theorem by_at {b : List Int} (h : Bys b) (k : Nat) : 0 ≤ b.getD k 0 ∧ b.getD k 0 ≤ 255 := by
  rw [List.getD_eq_getElem?_getD]
  cases hk : b[k]? with
  | none => exact ⟨Int.le_refl 0, by decide⟩
  | some z => exact h z (List.mem_of_getElem? hk)
theorem getD_at {b : List Int} {k : Nat} (h : k < b.length) : b[k]? = some (b.getD k 0) := by
  rw [List.getD_eq_getElem?_getD, List.getElem?_eq_getElem h]; rfl

end Go.Proofs.YtcmnjmhedmneiaaDoor
