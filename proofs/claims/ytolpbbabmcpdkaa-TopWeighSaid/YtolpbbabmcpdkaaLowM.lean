/-
  Plain facts on ratios in lowest terms, and on prices that prove a cut. Nothing of the program.
-/
import Derived.Test.YtolpbbabmcpdkaaBestG
import Derived.Test.YtolpbbabmcpdkaaKeptLaw
set_option linter.unusedVariables false
set_option linter.unusedSimpArgs false
namespace Go.Proofs.Ytolpbbabmcpdkaa
open Go.RowKit Go.Shelf

/-! the arithmetic -/
theorem lowD_le {k s : Int} (hs : 0 < s) : lowD k s ≤ s := Int.ediv_le_self _ (by omega)
theorem lowN_le {k s : Int} (hk : 0 ≤ k) : lowN k s ≤ k := Int.ediv_le_self _ hk
theorem low_eq {k s : Int} (hs : 0 < s) : lowN k s * s = k * lowD k s := by
  obtain ⟨h1, h2⟩ := low_mul (k := k) hs
  generalize lowN k s = n at *
  generalize lowD k s = d at *
  generalize (Int.gcd k s : Int) = g at *
  rw [← h1, ← h2, ← Int.mul_assoc, Int.mul_right_comm]
theorem tg_split (ns ss : List Int) (p q : Int) (cs : List Int) : tgV ns ss p q cs = keptL ss cs * (q * ns.sum) - keptL ns cs * (p * ss.sum) := by
  unfold tgV keptL
  induction cs with
  | nil => simp
  | cons a t ih =>
    simp only [List.map_cons, List.sum_cons]
    rw [ih]
    simp only [gnV]
    rw [Int.add_mul, Int.add_mul, Int.mul_assoc (ss.getD a.toNat 0), Int.mul_assoc (ns.getD a.toNat 0)]
    omega
theorem tg_most {ns ss : List Int} {p q : Int} {cs : List Int} (h : cutB ns.length cs = true) : tgV ns ss p q cs ≤ tgV ns ss p q (deL ns ss p q) := by
  rw [cut_of h, deL, tg_mS, tg_mS]
  refine sum_mono _ _ _ fun i _ => ?_
  by_cases hg : 0 < gnV ns ss p q i
  · rw [decide_eq_true hg]; simp only [if_true]; split <;> omega
  · rw [decide_eq_false hg]; simp only [Bool.false_eq_true, if_false]; split <;> omega
theorem not_lt_low {a b s : Int} (hs : 0 < s) (h : b ≤ a) : decide (lowN a s * lowD b s < lowN b s * lowD a s) = false := by
  refine decide_eq_false fun hl => ?_
  have h2 := (low_cross hs hs).1 hl
  have := Int.mul_le_mul_of_nonneg_right h (show 0 ≤ s by omega)
  omega
theorem le_of_low {a b s : Int} (hs : 0 < s) (h : decide (lowN a s * lowD b s < lowN b s * lowD a s) = false) : b ≤ a := by
  refine Int.not_lt.1 fun hl => ?_
  have h2 := (low_cross hs hs).2 (show a * s < b * s from Int.mul_lt_mul_of_pos_right hl hs)
  rw [decide_eq_true h2] at h
  cases h
theorem low_pos_d {a b : Int} (hb : 0 < b) : 0 < lowD a b := by
  have h := (low_mul (k := a) hb).2
  rcases Int.lt_trichotomy 0 (lowD a b) with h0 | h0 | h0
  · exact h0
  · rw [← h0, Int.zero_mul] at h; omega
  · have := Int.mul_nonpos_of_nonpos_of_nonneg (Int.le_of_lt h0) (Int.natCast_nonneg (Int.gcd a b))
    omega
/-- The price of the cut of k proves it. -/
theorem price_ok {ns ss : List Int} (ho : Od ns ss) {n : Nat} (h1 : 1 ≤ n) (h2 : n ≤ ns.length) (hz : ns.getD (laN ns ss n) 0 ≠ 0) :
    okP (lowN (ss.getD (laN ns ss n) 0 * ns.sum) (ss.sum * ns.getD (laN ns ss n) 0)) (lowD (ss.getD (laN ns ss n) 0 * ns.sum) (ss.sum * ns.getD (laN ns ss n) 0)) = true ∧
    tgV ns ss (lowN (ss.getD (laN ns ss n) 0 * ns.sum) (ss.sum * ns.getD (laN ns ss n) 0)) (lowD (ss.getD (laN ns ss n) 0 * ns.sum) (ss.sum * ns.getD (laN ns ss n) 0)) (ctL ns ss n) = tgV ns ss (lowN (ss.getD (laN ns ss n) 0 * ns.sum) (ss.sum * ns.getD (laN ns ss n) 0)) (lowD (ss.getD (laN ns ss n) 0 * ns.sum) (ss.sum * ns.getD (laN ns ss n) 0)) (deL ns ss (lowN (ss.getD (laN ns ss n) 0 * ns.sum) (ss.sum * ns.getD (laN ns ss n) 0)) (lowD (ss.getD (laN ns ss n) 0 * ns.sum) (ss.sum * ns.getD (laN ns ss n) 0))) := by
  have gx := getD_bd (by omega) ho.nb (laN ns ss n)
  have gs := getD_bd (by omega) ho.sb (laN ns ss n)
  have hx0 : 0 < ns.getD (laN ns ss n) 0 := by omega
  have u0 := ho.np
  have u1 := ho.nm
  have u2 := ho.sp
  have u3 := ho.sm
  have hu : 0 < ss.sum * ns.getD (laN ns ss n) 0 := Int.mul_pos u2 hx0
  obtain ⟨mu0, mu1⟩ := mul_bd (a := ss.sum) (b := ns.getD (laN ns ss n) 0) (A := 10000) (B := 1000) (by omega) u3 gx.1 gx.2
  obtain ⟨mv0, mv1⟩ := mul_bd (a := ss.getD (laN ns ss n) 0) (b := ns.sum) (A := 1000) (B := 10000) gs.1 gs.2 (by omega) u1
  have e1' := low_eq (k := ss.getD (laN ns ss n) 0 * ns.sum) hu
  have e2' := lowD_le (k := ss.getD (laN ns ss n) 0 * ns.sum) hu
  have e3' := lowN_le (s := ss.sum * ns.getD (laN ns ss n) 0) mv0
  have e4' := low_pos mv0 hu
  have e5' := low_pos_d (a := ss.getD (laN ns ss n) 0 * ns.sum) hu
  refine ⟨?_, ct_proves ho h1 h2 hx0 e5' e1'⟩
  unfold okP
  simp only [Bool.and_eq_true, decide_eq_true_eq]
  omega
/-- No cut with as little noise as one that is proved has more signal. -/
theorem proved_sig {ns ss : List Int} (ho : Od ns ss) {P Q : Int} (hp : okP P Q = true) {own os : List Int} (hc : cutB ns.length os = true) (h : tgV ns ss P Q own = tgV ns ss P Q (deL ns ss P Q)) (hn : keptL ns os ≤ keptL ns own) : keptL ss os ≤ keptL ss own := by
  obtain ⟨p1, p2, p3, p4⟩ := okP_of hp
  have u0 := ho.np
  have u2 := ho.sp
  have hm := tg_most (ns := ns) (ss := ss) (p := P) (q := Q) hc
  rw [← h, tg_split, tg_split] at hm
  have h3 := Int.mul_le_mul_of_nonneg_right hn (Int.mul_nonneg p3 (Int.le_of_lt u2))
  have h4 : keptL ss os * (Q * ns.sum) ≤ keptL ss own * (Q * ns.sum) := by omega
  exact Int.le_of_mul_le_mul_right h4 (Int.mul_pos (by omega) u0)
end Go.Proofs.Ytolpbbabmcpdkaa
