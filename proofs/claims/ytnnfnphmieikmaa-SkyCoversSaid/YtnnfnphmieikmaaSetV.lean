/-
  Plain: a cell by itself is a valid set; what the coarse cells of a set have; nothing of the program.
-/
import Derived.Test.YtnnfnphmieikmaaSetU
import Derived.Test.YtnnfnphmieikmaaLawRules
namespace Go.Proofs.Ytnnfnphmieikmaa
open Go

theorem inL_one (k a q : Nat) : inL [((k : Int), (a : Int))] q = inC k a q := by simp [inL]
theorem wN_lt {o k : Nat} (h : o < k) (hk : k < 5) : wN k < wN o := Nat.pow_lt_pow_right (by omega) (by omega)
theorem va_one {k a : Nat} (hk : k < 5) (ha : a < pxN k) : vaB [((k : Int), (a : Int))] = true := by
  have hend := cell_end hk ha
  have hwk := wN_pos k
  have hR : ∀ x, inL [((k : Int), (a : Int))] x = inC k a x := inL_one k a
  have hs : inC k a (a * wN k) = true := in_range.2 (by omega)
  have hno : ∀ x, ¬ (a * wN k ≤ x ∧ x < a * wN k + wN k) → inL [((k : Int), (a : Int))] x = false := fun x hx => by
    rw [hR]
    cases h : inC k a x with
    | false => rfl
    | true => exact absurd (in_range.1 h) hx
  have hok : okAt (inL [((k : Int), (a : Int))]) (a * wN k) k = true := by
    simp only [okAt, Bool.and_eq_true, decide_eq_true_eq]
    exact ⟨Nat.mul_mod_left _ _, full_iff.2 fun x hx => by rw [hR]; rwa [Nat.mul_div_cancel _ hwk] at hx⟩
  have hsR : inL [((k : Int), (a : Int))] (a * wN k) = true := (hR _).trans hs
  have hord : ordAt (inL [((k : Int), (a : Int))]) (a * wN k) = k := by
    have h1 := ord_least hk hok
    rcases Nat.lt_or_ge (ordAt (inL [((k : Int), (a : Int))]) (a * wN k)) k with hlt | hge
    · have h2 := okAt_ord hsR
      have h3 := ord_begin hsR
      simp only [okAt, Bool.and_eq_true, decide_eq_true_eq] at h2
      have h4 := wN_lt hlt hk
      have h5 : inC (ordAt (inL [((k : Int), (a : Int))]) (a * wN k)) (a * wN k / wN (ordAt (inL [((k : Int), (a : Int))]) (a * wN k))) (a * wN k + wN k) = true := in_range.2 (by rw [h3]; omega)
      have h6 := full_iff.1 h2.2 _ h5
      rw [hR] at h6
      have := in_range.1 h6
      omega
    · omega
  have hc : cellsP (inL [((k : Int), (a : Int))]) = [((k : Int), (a : Int))] := by
    rw [show cellsP (inL [((k : Int), (a : Int))]) = cellsFrom (inL [((k : Int), (a : Int))]) (a * wN k) from from_skip (by omega) 3072 0 (by omega) (by omega) fun x hx => hno x (by omega)]
    rw [from_yes (by omega) hsR, hord, Nat.mul_div_cancel _ hwk, from_none 3072 _ (by omega) fun x h1 h2 => hno x (by omega)]
  have hcell := cellB_mk hk ha
  simp only [vaB, Bool.and_eq_true, decide_eq_true_eq]
  exact ⟨⟨by simp, by simp [hcell]⟩, hc⟩
theorem cov_own {l : List (Int × Int)} {o p : Nat} (hm : ((o : Int), (p : Int)) ∈ l) : fullB (inL l) o p = true :=
  full_iff.2 fun q hq => List.any_eq_true.2 ⟨_, hm, by simpa using hq⟩
theorem co_has {l : List (Int × Int)} {k q i : Nat} (hi : i < 3072) (h : inL l i = true) (e : i / wN k = q / wN k) : coP l k q = true := by
  rw [coP, coTo, List.any_eq_true]
  exact ⟨i, List.mem_range.2 hi, by rw [h, e]; simp⟩
theorem co_of {l : List (Int × Int)} {k q : Nat} (h : coP l k q = true) : ∃ i, i < 3072 ∧ inL l i = true ∧ i / wN k = q / wN k := by
  rw [coP, coTo, List.any_eq_true] at h
  obtain ⟨i, hi, h⟩ := h
  rw [Bool.and_eq_true, decide_eq_true_eq] at h
  exact ⟨i, List.mem_range.1 hi, h.1, h.2⟩
theorem cov_coarse {l : List (Int × Int)} {k o p : Nat} (h0 : stE (coP l k) = 0) (ho : o < 5) (hp : p < pxN o) (hm : ((o : Int), (p : Int)) ∈ l) : fullB (inL (stL (coP l k))) o p = true :=
  full_iff.2 fun q hq => by
    have hend := cell_end ho hp
    have hq3 : q < 3072 := by have := in_range.1 hq; omega
    rw [st_in h0 hq3]
    exact co_has hq3 (full_iff.1 (cov_own hm) q hq) rfl
theorem cov_whole {l : List (Int × Int)} {k a : Nat} (hl : vaB l = true) (h0 : stE (coP l k) = 0) (hk : k < 5) (ha : a < pxN k) :
    fullB (inL (stL (coP l k))) k a = decide (0 < (stL (inP (inL l) k a)).length) := by
  have hend := cell_end hk ha
  have hwk := wN_pos k
  have hfit := part_fits hl hk ha
  by_cases h : ∃ q, q < 3072 ∧ inP (inL l) k a q = true
  · obtain ⟨q, hq, hS⟩ := h
    have h1 : inL (stL (inP (inL l) k a)) q = true := (st_in hfit hq).trans hS
    have h2 : 0 < (stL (inP (inL l) k a)).length := by
      cases e : stL (inP (inL l) k a) with
      | nil => rw [e] at h1; simp [inL] at h1
      | cons => simp
    simp only [inP, Bool.and_eq_true] at hS
    rw [decide_eq_true h2]
    exact full_iff.2 fun x hx => by
      have hx3 : x < 3072 := by have := in_range.1 hx; omega
      rw [st_in h0 hx3]
      exact co_has hq hS.1 ((in_div.1 hS.2).trans (in_div.1 hx).symm)
  · have hnone : ∀ q, q < 3072 → inP (inL l) k a q = false := fun q hq => by
      cases e : inP (inL l) k a q with
      | false => rfl
      | true => exact absurd ⟨q, hq, e⟩ h
    have h2 : stL (inP (inL l) k a) = [] := by
      have : cellsP (inP (inL l) k a) = [] := from_none 3072 0 (by omega) fun x _ hx => hnone x hx
      rw [stL, this]; simp
    rw [h2]
    cases e : fullB (inL (stL (coP l k))) k a with
    | false => rfl
    | true =>
      have hs : inC k a (a * wN k) = true := in_range.2 (by omega)
      have h3 := full_iff.1 e _ hs
      rw [st_in h0 (by omega)] at h3
      obtain ⟨i, hi, hi2, hi3⟩ := co_of h3
      have h4 := hnone i hi
      rw [inP, hi2, in_div.2 (hi3.trans (in_div.1 hs))] at h4
      exact absurd h4 (by decide)
/-- Where the cell isn't there as a whole, nothing of it is. -/
theorem cov_part {l : List (Int × Int)} {k a : Nat} (h0 : stE (coP l k) = 0) (hk : k < 5) (ha : a < pxN k) (hw : fullB (inL (stL (coP l k))) k a = false) :
    stL (mxP andB (stL (coP l k)) [((k : Int), (a : Int))]) = [] ∧ stE (mxP andB (stL (coP l k)) [((k : Int), (a : Int))]) = 0 := by
  have hend := cell_end hk ha
  have hnone : ∀ q, q < 3072 → mxP andB (stL (coP l k)) [((k : Int), (a : Int))] q = false := fun q hq => by
    rw [mxP, inL_one, st_in h0 hq]
    cases e : coP l k q with
    | false => rfl
    | true =>
      cases e2 : inC k a q with
      | false => rfl
      | true =>
        obtain ⟨i, hi, hi2, hi3⟩ := co_of e
        have : fullB (inL (stL (coP l k))) k a = true := full_iff.2 fun x hx => by
          have hx3 : x < 3072 := by have := in_range.1 hx; omega
          rw [st_in h0 hx3]
          exact co_has hi hi2 (hi3.trans ((in_div.1 e2).trans (in_div.1 hx).symm))
        rw [hw] at this; exact absurd this (by decide)
  have : cellsP (mxP andB (stL (coP l k)) [((k : Int), (a : Int))]) = [] := from_none 3072 0 (by omega) fun x _ hx => hnone x hx
  rw [stL, stE, this]; simp
end Go.Proofs.Ytnnfnphmieikmaa
