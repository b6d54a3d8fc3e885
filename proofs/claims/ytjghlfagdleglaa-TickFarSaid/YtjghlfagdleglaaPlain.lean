/-
  Plain lemmas on lists and numbers; nothing of the program.
-/
import Derived.IntWalk
namespace Go.Proofs.Ytjghlfagdleglaa
open Go Go.RowKit

theorem take_snoc {α : Type} {zs : List α} {k : Nat} {z : α} (h : zs[k]? = some z) : zs.take (k + 1) = zs.take k ++ [z] := by
  rw [List.take_add_one, h]; rfl
theorem all_snoc {α : Type} {p : α → Bool} {zs : List α} {k : Nat} {z : α} (h : zs[k]? = some z) : (zs.take (k + 1)).all p = ((zs.take k).all p && p z) := by
  rw [take_snoc h]; simp
theorem all_full {α : Type} {p : α → Bool} {zs : List α} {k : Nat} (hk : zs.length ≤ k) : (zs.take k).all p = zs.all p := by
  rw [List.take_of_length_le hk]
theorem all_not {α : Type} {p : α → Bool} {zs : List α} {k : Nat} {z : α} (h : zs[k]? = some z) (hp : p z = false) : zs.all p = false := by
  rw [List.all_eq_false]
  exact ⟨z, List.mem_of_getElem? h, by simp [hp]⟩
theorem pow_bounds {b : Int} (h1 : 4 ≤ b) (h2 : b ≤ 32) : 16 ≤ (2 : Int) ^ b.toNat ∧ (2 : Int) ^ b.toNat ≤ 4294967296 := by
  obtain ⟨n, rfl⟩ := Int.eq_ofNat_of_zero_le (show 0 ≤ b by omega)
  rw [Int.toNat_natCast]
  have a1 : (2 : Nat) ^ 4 ≤ 2 ^ n := Nat.pow_le_pow_right (by omega) (by omega)
  have a2 : (2 : Nat) ^ n ≤ 2 ^ 32 := Nat.pow_le_pow_right (by omega) (by omega)
  have e : ((2 : Int) ^ n) = ((2 ^ n : Nat) : Int) := by simp
  rw [e]
  constructor
  · have : (16 : Nat) ≤ 2 ^ n := a1
    omega
  · have : 2 ^ n ≤ (4294967296 : Nat) := a2
    omega
theorem pow_wrap {b : Int} (h1 : 4 ≤ b) (h2 : b ≤ 32) : wrap64 ((2 : Int) ^ b.toNat) = 2 ^ b.toNat := by
  have := pow_bounds h1 h2
  exact IntWalk.wrap64_in _ (by omega)
end Go.Proofs.Ytjghlfagdleglaa
