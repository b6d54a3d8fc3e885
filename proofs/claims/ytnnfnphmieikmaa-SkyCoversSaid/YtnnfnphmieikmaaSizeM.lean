/-
  Plain: the sizes of the cells of a set add up to the count of its pixels; nothing of the program.
-/
import Derived.Test.YtnnfnphmieikmaaSetM
namespace Go.Proofs.Ytnnfnphmieikmaa
open Go
def cntP (P : Nat → Bool) (k : Nat) : Nat := ((List.range k).filter P).length
theorem cnt_snoc (P : Nat → Bool) (k : Nat) : cntP P (k + 1) = cntP P k + if P k then 1 else 0 := by
  rw [cntP, List.range_succ, List.filter_append]; cases h : P k <;> simp [cntP, h]
theorem cnt_le (P : Nat → Bool) (k : Nat) : cntP P k ≤ k := Nat.le_trans (List.length_filter_le _ _) (by simp)
theorem cnt_run {P : Nat → Bool} {q : Nat} : ∀ w, (∀ i, q ≤ i → i < q + w → P i = true) → cntP P (q + w) = cntP P q + w
  | 0, _ => rfl
  | w + 1, h => by
    rw [← Nat.add_assoc, cnt_snoc, cnt_run w fun i h1 h2 => h i h1 (by omega), h (q + w) (by omega) (by omega)]; simp; omega
def sumW (l : List (Int × Int)) : Nat := (l.map fun c => wN c.1.toNat).sum
theorem sumW_snoc {l : List (Int × Int)} {k : Nat} {c : Int × Int} (h : l[k]? = some c) : sumW (l.take (k + 1)) = sumW (l.take k) + wN c.1.toNat := by
  rw [sumW, take_snoc h]; simp [sumW]
theorem sumW_le (l : List (Int × Int)) : sumW l ≤ 256 * l.length := by
  induction l with
  | nil => simp [sumW]
  | cons c t ih => have := wN_le c.1.toNat; simp only [sumW, List.map_cons, List.sum_cons, List.length_cons] at *; omega
theorem sumW_from (P : Nat → Bool) : ∀ (n q : Nat), 3072 - q ≤ n → q ≤ 3072 → sumW (cellsFrom P q) + cntP P q = cntP P 3072
  | 0, q, h, hq => by
    obtain rfl : q = 3072 := by omega
    rw [from_end (Nat.le_refl _)]; simp [sumW]
  | n + 1, q, h, hq => by
    by_cases hlt : q < 3072
    · cases hP : P q with
      | true =>
        have hw := wN_pos (ordAt P q)
        have he := ord_end hlt hP
        have ih := sumW_from P n (q + wN (ordAt P q)) (by omega) he
        have hk := okAt_ord hP
        simp only [okAt, Bool.and_eq_true, decide_eq_true_eq] at hk
        have hb := ord_begin hP
        have hrun := cnt_run (P := P) (q := q) (wN (ordAt P q)) (fun i h1 h2 => full_iff.1 hk.2 i (by simp only [inC, hb]; simp; omega))
        rw [from_yes hlt hP]
        simp only [sumW, List.map_cons, List.sum_cons, Int.toNat_natCast] at *
        omega
      | false =>
        have ih := sumW_from P n (q + 1) (by omega) (by omega)
        rw [cnt_snoc, hP] at ih
        rw [from_no hlt hP]; simpa using ih
    · obtain rfl : q = 3072 := by omega
      rw [from_end (Nat.le_refl _)]; simp [sumW]
theorem sumW_cells (P : Nat → Bool) : sumW (cellsP P) = cntP P 3072 := by
  have := sumW_from P 3072 0 (by omega) (by omega)
  simpa [cntP, cellsP] using this
end Go.Proofs.Ytnnfnphmieikmaa
