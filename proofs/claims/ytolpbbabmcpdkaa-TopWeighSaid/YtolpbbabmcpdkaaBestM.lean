/-
  Plain facts on the best cut: it keeps the bound, and no cut that does keeps more signal. Nothing of the program.
-/
import Derived.Test.YtolpbbabmcpdkaaRefBest
set_option linter.unusedVariables false
set_option linter.unusedSimpArgs false
namespace Go.Proofs.Ytolpbbabmcpdkaa
open Go Go.RowKit

theorem bs_ok {ns ss : List Int} {p q : Int} (h : 0 ≤ p * ns.sum) : ∀ k, keptL ns (bsK ns ss p q k) * q ≤ p * ns.sum
  | 0 => by show keptL ns [] * q ≤ _; simp [keptL]; exact h
  | k + 1 => by
    rw [bs_succ, bsS]
    split
    · split
      · assumption
      · exact bs_ok h k
    · exact bs_ok h k
theorem bs_up (ns ss : List Int) (p q : Int) (k : Nat) : keptL ss (bsK ns ss p q k) ≤ keptL ss (bsK ns ss p q (k + 1)) := by
  rw [bs_succ, bsS]
  split
  · split
    · rename_i h
      rcases bt_iff.1 h with h | ⟨h, _⟩ <;> omega
    · exact Int.le_refl _
  · exact Int.le_refl _
theorem bs_mono (ns ss : List Int) (p q : Int) {k : Nat} : ∀ m, k ≤ m → keptL ss (bsK ns ss p q k) ≤ keptL ss (bsK ns ss p q m)
  | 0, h => by rw [show k = 0 by omega]; exact Int.le_refl _
  | m + 1, h => by
    by_cases e : k = m + 1
    · rw [e]; exact Int.le_refl _
    · exact Int.le_trans (bs_mono ns ss p q m (by omega)) (bs_up ns ss p q m)
theorem bs_take {ns ss : List Int} {p q : Int} {s : Nat} (h : keptL ns (ofS ns.length s) * q ≤ p * ns.sum) : keptL ss (ofS ns.length s) ≤ keptL ss (bsK ns ss p q (s + 1)) := by
  rw [bs_succ, bsS, if_pos h]
  split
  · exact Int.le_refl _
  · rename_i hb
    refine Int.not_lt.1 fun hlt => hb (bt_iff.2 (Or.inl hlt))
/-- A set of bits for a cut. -/
def mkS (f : Nat → Bool) : Nat → Nat
  | 0 => 0
  | n + 1 => mkS f n + (if f n then 2 ^ n else 0)
theorem mk_lt (f : Nat → Bool) : ∀ n, mkS f n < 2 ^ n
  | 0 => by simp [mkS]
  | n + 1 => by
    have := mk_lt f n
    rw [mkS, Nat.pow_succ]
    split <;> omega
theorem mk_bit (f : Nat → Bool) : ∀ n i, i < n → (mkS f n).testBit i = f i
  | 0, i, h => absurd h (by omega)
  | n + 1, i, h => by
    have hl := mk_lt f n
    rw [mkS]
    by_cases e : i = n
    · subst e
      cases hf : f i with
      | true => rw [if_pos rfl, Nat.add_comm, Nat.testBit_two_pow_add_eq, Nat.testBit_lt_two_pow hl]; rfl
      | false => simp [Nat.testBit_lt_two_pow hl]
    · cases hf : f n with
      | true => rw [if_pos rfl, Nat.add_comm, Nat.testBit_two_pow_add_gt (by omega)]; exact mk_bit f n i (by omega)
      | false => simp only [Bool.false_eq_true, if_false, Nat.add_zero]; exact mk_bit f n i (by omega)
theorem ofM_ext {n : Nat} {f g : Nat → Bool} (h : ∀ i, i < n → f i = g i) : ofM n f = ofM n g := by
  unfold ofM
  congr 1
  exact List.filter_congr fun i hi => h i (List.mem_range.1 hi)
theorem cut_set {n : Nat} {cs : List Int} (h : cutB n cs = true) : ∃ s, s < 2 ^ n ∧ cs = ofS n s :=
  ⟨mkS (fun i => cs.contains (i : Int)) n, mk_lt _ _, by
    rw [ofS, ofM_ext (fun i hi => mk_bit _ n i hi)]
    exact cut_of h⟩
theorem bs_max {ns ss : List Int} {p q : Int} {cs : List Int} (hc : cutB ns.length cs = true) (h : keptL ns cs * q ≤ p * ns.sum) : keptL ss cs ≤ keptL ss (bsL ns ss p q) := by
  obtain ⟨s, hs, rfl⟩ := cut_set hc
  exact Int.le_trans (bs_take h) (bs_mono ns ss p q _ (by omega))
end Go.Proofs.Ytolpbbabmcpdkaa
