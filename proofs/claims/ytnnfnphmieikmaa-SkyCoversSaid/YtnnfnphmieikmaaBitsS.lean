/-
  Arithmetic of single bits, as the walks show it; nothing of the program.
-/
import Derived.Test.YtnnfnphmieikmaaBitsI
import Derived.Laws.BitsAllLaws
namespace Go.Proofs.Ytnnfnphmieikmaa
open Go Go.RowKit
theorem bit_lt (x b : Nat) : x / 2 ^ b % 2 < 2 := Nat.mod_lt _ (by omega)
theorem bit_i64 (x b : Nat) (hx : x < 2 ^ 63) : bits .and .i64 ((x : Int) / 2 ^ b) 1 = ((x / 2 ^ b % 2 : Nat) : Int) := by
  have e : (x : Int) / 2 ^ b = ((x / 2 ^ b : Nat) : Int) := by simp
  rw [e, and_one_i64 _ (Nat.lt_of_le_of_lt (Nat.div_le_self _ _) hx)]
theorem bit_pow (x b c : Nat) (hx : x < 2 ^ 63) (hc : c < 62) : wrap64 (bits .and .i64 ((x : Int) / 2 ^ b) 1 * 2 ^ c) = ((x / 2 ^ b % 2 * 2 ^ c : Nat) : Int) := by
  rw [bit_i64 x b hx]
  have h := bit_lt x b
  have h2 : x / 2 ^ b % 2 * 2 ^ c ≤ 1 * 2 ^ c := Nat.mul_le_mul_right _ (by omega)
  have h3 : 2 ^ c < 2 ^ 62 := Nat.pow_lt_pow_right (by omega) hc
  have e : ((x / 2 ^ b % 2 : Nat) : Int) * 2 ^ c = ((x / 2 ^ b % 2 * 2 ^ c : Nat) : Int) := by simp
  rw [e]
  generalize x / 2 ^ b % 2 * 2 ^ c = z at *
  exact IntWalk.wrap64_in _ (by omega)
theorem bI_lt (x y : Nat) : ∀ b, bI b x y < 2 ^ (2 * b)
  | 0 => by simp [bI]
  | b + 1 => by
    have ih := bI_lt x y b
    have h1 := bit_lt x b
    have h2 := bit_lt y b
    have e : 2 ^ (2 * (b + 1)) = 4 * 2 ^ (2 * b) := by rw [show 2 * (b + 1) = 2 * b + 2 by omega, Nat.pow_add]; omega
    have e2 : 2 ^ (2 * b + 1) = 2 * 2 ^ (2 * b) := by rw [Nat.pow_add]; omega
    simp only [bI]
    rw [e, e2]
    have a1 : x / 2 ^ b % 2 * 2 ^ (2 * b) ≤ 1 * 2 ^ (2 * b) := Nat.mul_le_mul_right _ (by omega)
    have a2 : y / 2 ^ b % 2 * (2 * 2 ^ (2 * b)) ≤ 1 * (2 * 2 ^ (2 * b)) := Nat.mul_le_mul_right _ (by omega)
    omega
theorem pow_small {b : Nat} (h : b ≤ 4) : 2 ^ (2 * b) ≤ 256 := by
  have := Nat.pow_le_pow_right (n := 2) (by omega) (show 2 * b ≤ 8 by omega)
  omega
theorem bI_bd {b : Nat} (x y : Nat) (h : b ≤ 4) : bI b x y < 256 := Nat.lt_of_lt_of_le (bI_lt x y b) (pow_small h)
theorem bits_step (b x y : Nat) (hb : b < 4) (hx : x < 2 ^ 63) (hy : y < 2 ^ 63) :
    wrap64 (wrap64 (((bI b x y : Nat) : Int) + wrap64 (bits BinOp.and IntKind.i64 ((x : Int) / 2 ^ b) 1 * 2 ^ (2 * b))) + wrap64 (bits BinOp.and IntKind.i64 ((y : Int) / 2 ^ b) 1 * 2 ^ (2 * b + 1))) = ((bI (b + 1) x y : Nat) : Int) := by
  have h := bI_bd x y (show b + 1 ≤ 4 by omega)
  rw [bit_pow x b _ hx (by omega), bit_pow y b _ hy (by omega)]
  simp only [bI] at h ⊢
  generalize x / 2 ^ b % 2 * 2 ^ (2 * b) = u at *
  generalize y / 2 ^ b % 2 * 2 ^ (2 * b + 1) = v at *
  rw [IntWalk.wrap64_in (((bI b x y : Nat) : Int) + u) (by omega), IntWalk.wrap64_in _ (by omega)]
  omega
theorem xB_lt (p : Nat) : ∀ b, xB b p < 2 ^ b
  | 0 => by simp [xB]
  | b + 1 => by
    have ih := xB_lt p b
    have h1 := bit_lt p (2 * b)
    have a1 : p / 2 ^ (2 * b) % 2 * 2 ^ b ≤ 1 * 2 ^ b := Nat.mul_le_mul_right _ (by omega)
    have e : 2 ^ (b + 1) = 2 ^ b * 2 := Nat.pow_succ ..
    simp only [xB]; rw [e]; omega
theorem yB_lt (p : Nat) : ∀ b, yB b p < 2 ^ b
  | 0 => by simp [yB]
  | b + 1 => by
    have ih := yB_lt p b
    have h1 := bit_lt p (2 * b + 1)
    have a1 : p / 2 ^ (2 * b + 1) % 2 * 2 ^ b ≤ 1 * 2 ^ b := Nat.mul_le_mul_right _ (by omega)
    have e : 2 ^ (b + 1) = 2 ^ b * 2 := Nat.pow_succ ..
    simp only [yB]; rw [e]; omega
theorem or_bit (a t b : Nat) (h : a < 2 ^ b) : a ||| t * 2 ^ b = a + t * 2 ^ b := by
  rw [Nat.or_comm, nat_join b _ _ (by simp) h]; omega
theorem or_step (a p c b : Nat) (h : a < 2 ^ b) (hb : b < 4) (hp : p < 2 ^ 63) :
    bits BinOp.or IntKind.i64 (a : Int) (wrap64 (bits BinOp.and IntKind.i64 ((p : Int) / 2 ^ c) 1 * 2 ^ b)) = ((a + p / 2 ^ c % 2 * 2 ^ b : Nat) : Int) := by
  have h3 : 2 ^ b < 2 ^ 4 := Nat.pow_lt_pow_right (by omega) hb
  have h4 := bit_lt p c
  have h5 : p / 2 ^ c % 2 * 2 ^ b ≤ 1 * 2 ^ b := Nat.mul_le_mul_right _ (by omega)
  rw [bit_pow p c b hp (by omega), or_i64 a _ (by omega) (by omega), or_bit _ _ _ h]
theorem xB_step (b p : Nat) (hb : b < 4) (hp : p < 2 ^ 63) :
    bits BinOp.or IntKind.i64 ((xB b p : Nat) : Int) (wrap64 (bits BinOp.and IntKind.i64 ((p : Int) / 2 ^ (2 * b)) 1 * 2 ^ b)) = ((xB (b + 1) p : Nat) : Int) := or_step _ _ _ _ (xB_lt p b) hb hp
theorem yB_step (b p : Nat) (hb : b < 4) (hp : p < 2 ^ 63) :
    bits BinOp.or IntKind.i64 ((yB b p : Nat) : Int) (wrap64 (bits BinOp.and IntKind.i64 ((p : Int) / 2 ^ (2 * b + 1)) 1 * 2 ^ b)) = ((yB (b + 1) p : Nat) : Int) := or_step _ _ _ _ (yB_lt p b) hb hp

/-- The nested number with the first b pairs of bits laid. -/
def nB (k f b x y : Nat) : Nat := f * 2 ^ (2 * k) + bI b x y
theorem or_at (F k b L t : Nat) (hb : b < k) (hL : L < 2 ^ (2 * b)) (ht : t < 4) : F * 2 ^ (2 * k) + L ||| t * 2 ^ (2 * b) = F * 2 ^ (2 * k) + L + t * 2 ^ (2 * b) := by
  have e : F * 2 ^ (2 * k) = (F * 2 ^ (2 * (k - b) - 2) * 4) * 2 ^ (2 * b) := by
    rw [show 2 * k = (2 * (k - b) - 2) + 2 + 2 * b by omega, Nat.pow_add, Nat.pow_add]
    simp [Nat.mul_assoc]
  rw [e]
  generalize F * 2 ^ (2 * (k - b) - 2) = G
  have e1 : G * 4 * 2 ^ (2 * b) + L = G * 4 * 2 ^ (2 * b) ||| L := (nat_join (2 * b) _ _ (by simp) hL).symm
  have e2 : G * 4 ||| t = G * 4 + t := nat_join 2 _ _ (by simp) (by omega)
  rw [e1, Nat.or_assoc, Nat.or_comm L, ← Nat.or_assoc]
  have e3 : G * 4 * 2 ^ (2 * b) ||| t * 2 ^ (2 * b) = (G * 4 + t) * 2 ^ (2 * b) := by
    rw [← e2, ← Nat.shiftLeft_eq, ← Nat.shiftLeft_eq, ← Nat.shiftLeft_or_distrib, Nat.shiftLeft_eq]
  rw [e3, nat_join (2 * b) _ _ (by simp) hL, ← e1, Nat.add_mul]; omega
theorem pow_k {k : Nat} (h : k < 5) : 2 ^ (2 * k) ≤ 256 := pow_small (by omega)
theorem nB_lt {k f b x y : Nat} (hk : k < 5) (hf : f < 12) (hb : b ≤ k) : nB k f b x y < 3072 := by
  have h1 := bI_lt x y b
  have h2 : 2 ^ (2 * b) ≤ 2 ^ (2 * k) := Nat.pow_le_pow_right (by omega) (by omega)
  have h3 := pow_k hk
  have h4 : f * 2 ^ (2 * k) ≤ 11 * 2 ^ (2 * k) := Nat.mul_le_mul_right _ (by omega)
  unfold nB; omega
theorem nB_step (k f b x y : Nat) (hk : k < 5) (hf : f < 12) (hb : b < k) (hx : x < 2 ^ 63) (hy : y < 2 ^ 63) :
    bits BinOp.or IntKind.i64 (bits BinOp.or IntKind.i64 ((nB k f b x y : Nat) : Int) (wrap64 (bits BinOp.and IntKind.i64 ((x : Int) / 2 ^ b) 1 * 2 ^ (2 * b)))) (wrap64 (bits BinOp.and IntKind.i64 ((y : Int) / 2 ^ b) 1 * 2 ^ (2 * b + 1))) = ((nB k f (b + 1) x y : Nat) : Int) := by
  have h0 := bI_lt x y b
  have h1 := bit_lt x b
  have h2 := bit_lt y b
  have hs : nB k f b x y < 3072 := nB_lt hk hf (by omega)
  have hp : 2 ^ (2 * b) ≤ 256 := pow_small (by omega)
  have e1 : 2 ^ (2 * b + 1) = 2 * 2 ^ (2 * b) := by rw [Nat.pow_add]; omega
  have hA : nB k f b x y ||| x / 2 ^ b % 2 * 2 ^ (2 * b) = nB k f b x y + x / 2 ^ b % 2 * 2 ^ (2 * b) := or_at f k b _ _ hb h0 (by omega)
  have u1 : x / 2 ^ b % 2 * 2 ^ (2 * b) ≤ 1 * 2 ^ (2 * b) := Nat.mul_le_mul_right _ (by omega)
  have u2 : y / 2 ^ b % 2 * (2 * 2 ^ (2 * b)) ≤ 1 * (2 * 2 ^ (2 * b)) := Nat.mul_le_mul_right _ (by omega)
  rw [bit_pow x b _ hx (by omega), bit_pow y b _ hy (by omega), or_i64 _ _ (by omega) (by omega), hA, e1, or_i64 _ _ (by omega) (by omega)]
  have hB : nB k f b x y + x / 2 ^ b % 2 * 2 ^ (2 * b) ||| y / 2 ^ b % 2 * (2 * 2 ^ (2 * b)) = nB k f b x y + x / 2 ^ b % 2 * 2 ^ (2 * b) + y / 2 ^ b % 2 * (2 * 2 ^ (2 * b)) := by
    have c1 : nB k f b x y + x / 2 ^ b % 2 * 2 ^ (2 * b) = nB k f b x y ||| x / 2 ^ b % 2 * 2 ^ (2 * b) := hA.symm
    have c2 : x / 2 ^ b % 2 * 2 ^ (2 * b) ||| y / 2 ^ b % 2 * (2 * 2 ^ (2 * b)) = (x / 2 ^ b % 2 + y / 2 ^ b % 2 * 2) * 2 ^ (2 * b) := by
      rw [show y / 2 ^ b % 2 * (2 * 2 ^ (2 * b)) = (y / 2 ^ b % 2 * 2) * 2 ^ (2 * b) by rw [Nat.mul_assoc], ← Nat.shiftLeft_eq, ← Nat.shiftLeft_eq, ← Nat.shiftLeft_or_distrib, Nat.shiftLeft_eq]
      congr 1
      generalize x / 2 ^ b % 2 = s at *
      generalize y / 2 ^ b % 2 = t at *
      obtain rfl | rfl : s = 0 ∨ s = 1 := by omega
      all_goals obtain rfl | rfl : t = 0 ∨ t = 1 := by omega
      all_goals rfl
    rw [c1, Nat.or_assoc, c2]
    have := or_at f k b (bI b x y) (x / 2 ^ b % 2 + y / 2 ^ b % 2 * 2) hb h0 (by omega)
    show nB k f b x y ||| _ = _
    unfold nB at *
    rw [this, Nat.add_mul, Nat.mul_assoc]; rw [show f * 2 ^ (2 * k) + bI b x y ||| x / 2 ^ b % 2 * 2 ^ (2 * b) = f * 2 ^ (2 * k) + bI b x y + x / 2 ^ b % 2 * 2 ^ (2 * b) from hA]; omega
  rw [hB]
  simp only [nB, bI, e1]; omega
end Go.Proofs.Ytnnfnphmieikmaa
