/-
  Plain words: no right plan works in more minutes than the urgent one; nothing of the program.
-/
import Derived.Test.YthanmiifcpajhaaEdfM
set_option linter.unusedVariables false
set_option linter.unusedSimpArgs false
namespace Go.Proofs.Ythanmiifcpajhaa
open Go Go.RowKit

def updP (q : Nat → Int) (k : Nat) (x : Int) (m : Nat) : Int := if m = k then x else q m
theorem cn_below {q : Nat → Int} {k : Nat} {x : Int} (i : Nat) {L : Nat} (h : L ≤ k) : cn (updP q k x) i L = cn q i L :=
  cn_same i L fun m hm => by rw [updP, if_neg (by omega)]
theorem cn_upd (q : Nat → Int) (k : Nat) (x : Int) (i : Nat) : ∀ L, k < L → cn (updP q k x) i L = cn q i L - (if q k = (i : Int) then 1 else 0) + (if x = (i : Int) then 1 else 0)
  | 0, h => by omega
  | L + 1, h => by
    show cn (updP q k x) i L + (if updP q k x L = (i : Int) then 1 else 0) = cn q i L + (if q L = (i : Int) then 1 else 0) - _ + _
    by_cases e : L = k
    · subst e
      rw [cn_below i (Nat.le_refl _), show updP q L x L = x from if_pos rfl]
      omega
    · rw [cn_upd q k x i L (by omega), show updP q k x L = q L from if_neg e]
      omega
def totP (n : Nat) (p : Nat → Int) : Int := sm (fun i => cn p i 100) n
theorem tot_nb (n : Nat) (p : Nat → Int) : totP n p = nb (fun m => decide (0 ≤ p m) && decide (p m < n)) 100 := by
  have := sm_cn p n (fun _ => true) 100
  simp only [if_true, Bool.and_true] at this
  exact this
theorem nb_mono {Q R : Nat → Bool} : ∀ k, (∀ m, m < k → Q m = true → R m = true) → nb Q k ≤ nb R k
  | 0, _ => Int.le_refl _
  | k + 1, h => by
    have ih := nb_mono k (fun m hm => h m (by omega))
    show nb Q k + (if Q k = true then 1 else 0) ≤ nb R k + (if R k = true then 1 else 0)
    by_cases hq : Q k = true
    · rw [if_pos hq, if_pos (h k (by omega) hq)]; omega
    · rw [if_neg hq]; split <;> omega
theorem exch_step {ts : List (Int × Int × Int)} (hv : vaB ts = true) {q : Nat → Int} {k : Nat} (hk : k < 100) (hr : Rt ts q) (ha : ∀ m, m < k → q m = urF ts m) :
    ∃ q', Rt ts q' ∧ (∀ m, m < k + 1 → q' m = urF ts m) ∧ totP ts.length q ≤ totP ts.length q' := by
  by_cases e : q k = urF ts k
  · exact ⟨q, hr, fun m hm => by
      by_cases h : m = k
      · subst h; exact e
      · exact ha m (by omega), Int.le_refl _⟩
  have hpre : ∀ i, cn q i k = cn (urF ts) i k := fun i => cn_same i k ha
  -- what q works on at k could be worked on by the urgent plan
  have hcand : 0 ≤ q k → ∃ v : Nat, q k = v ∧ v < ts.length ∧ opB ts v k = true ∧ cn (urF ts) v k < wkI ts v := by
    intro h0
    have hb := hr.bd k hk
    refine ⟨(q k).toNat, by omega, by omega, hr.op k hk h0, ?_⟩
    have h1 := hr.le (q k).toNat (by omega)
    have h2 := cn_mono q (q k).toNat (show k + 1 ≤ 100 by omega)
    have h3 : cn q (q k).toNat (k + 1) = cn q (q k).toNat k + 1 := by
      show cn q _ k + (if q k = _ then 1 else 0) = _
      rw [if_pos (by omega)]
    rw [hpre] at h3
    omega
  have hub := ur_bd ts k
  by_cases hu : urF ts k < 0
  · exfalso
    have hb := hr.bd k hk
    obtain ⟨v, hv1, hv2, hv3, hv4⟩ := hcand (by omega)
    have := (ur_least ts k hv2 hv3 hv4).1
    omega
  obtain ⟨j, hj⟩ : ∃ j : Nat, urF ts k = j := ⟨(urF ts k).toNat, by omega⟩
  have hjn : j < ts.length := by omega
  have hcd := ur_cd ts k (by omega)
  rw [hj, Int.toNat_natCast] at hcd
  by_cases hex : ∃ m1, k < m1 ∧ m1 < 100 ∧ q m1 = (j : Int)
  · obtain ⟨m1, hm1, hm2, hm3⟩ := hex
    have hcn : ∀ i, cn (updP (updP q k j) m1 (q k)) i 100 = cn q i 100 := by
      intro i
      rw [cn_upd _ m1 _ i 100 hm2, cn_upd q k j i 100 hk, show updP q k (j : Int) m1 = (j : Int) from by rw [updP, if_neg (by omega), hm3]]
      omega
    have hval : ∀ m, updP (updP q k j) m1 (q k) m = if m = m1 then q k else if m = k then (j : Int) else q m := fun m => rfl
    refine ⟨updP (updP q k j) m1 (q k), ⟨fun m hm => ?_, fun m hm h0 => ?_, fun i hi => by rw [hcn]; exact hr.le i hi⟩, fun m hm => ?_, ?_⟩
    · rw [hval]
      split
      · exact hr.bd k hk
      · split
        · omega
        · exact hr.bd m hm
    · rw [hval] at h0 ⊢
      by_cases c1 : m = m1
      · rw [if_pos c1] at h0 ⊢
        subst c1
        obtain ⟨v, hv1, hv2, hv3, hv4⟩ := hcand h0
        have hl := (ur_least ts k hv2 hv3 hv4).2.1
        rw [hj, Int.toNat_natCast] at hl
        have h2 := hr.op m hm (by omega)
        rw [hm3, Int.toNat_natCast] at h2
        rw [hv1, Int.toNat_natCast]
        have := op_iff.1 hv3
        have := op_iff.1 h2
        exact op_iff.2 ⟨by omega, by omega⟩
      · rw [if_neg c1] at h0 ⊢
        by_cases c2 : m = k
        · rw [if_pos c2]; subst c2; rw [Int.toNat_natCast]; exact hcd.1
        · rw [if_neg c2] at h0 ⊢; exact hr.op m hm h0
    · rw [hval, if_neg (by omega)]
      by_cases c2 : m = k
      · rw [if_pos c2, c2, hj]
      · rw [if_neg c2]; exact ha m (by omega)
    · have : totP ts.length (updP (updP q k j) m1 (q k)) = totP ts.length q := sm_cong _ fun i _ => hcn i
      omega
  · have hval : ∀ m, updP q k (j : Int) m = if m = k then (j : Int) else q m := fun m => rfl
    have hnone : ∀ L, k < L → L ≤ 100 → cn (updP q k j) j L = cn (urF ts) j k + 1 := by
      intro L
      induction L with
      | zero => intro h; omega
      | succ L ih =>
        intro h1 h2
        show cn (updP q k j) j L + (if updP q k j L = (j : Int) then 1 else 0) = _
        by_cases c : L = k
        · subst c
          rw [cn_below j (Nat.le_refl _), hpre, hval, if_pos rfl, if_pos rfl]
        · rw [ih (by omega) (by omega), hval, if_neg c, if_neg (fun h => hex ⟨L, by omega, by omega, h⟩)]
          omega
    refine ⟨updP q k j, ⟨fun m hm => ?_, fun m hm h0 => ?_, fun i hi => ?_⟩, fun m hm => ?_, ?_⟩
    · rw [hval]
      split
      · omega
      · exact hr.bd m hm
    · rw [hval] at h0 ⊢
      by_cases c2 : m = k
      · rw [if_pos c2]; subst c2; rw [Int.toNat_natCast]; exact hcd.1
      · rw [if_neg c2] at h0 ⊢; exact hr.op m hm h0
    · by_cases c : i = j
      · subst c; rw [hnone 100 hk (Nat.le_refl _)]; omega
      · rw [cn_upd q k j i 100 hk]
        have := hr.le i hi
        rw [if_neg (show ¬ (j : Int) = (i : Int) by omega)]
        split <;> omega
    · rw [hval]
      by_cases c2 : m = k
      · rw [if_pos c2, c2, hj]
      · rw [if_neg c2]; exact ha m (by omega)
    · rw [tot_nb, tot_nb]
      refine nb_mono 100 fun m hm h => ?_
      simp only [Bool.and_eq_true, decide_eq_true_eq] at h ⊢
      rw [hval]
      split
      · omega
      · exact h
theorem exch {ts : List (Int × Int × Int)} (hv : vaB ts = true) {p : Nat → Int} (hr : Rt ts p) : ∀ k, k ≤ 100 → ∃ q, Rt ts q ∧ (∀ m, m < k → q m = urF ts m) ∧ totP ts.length p ≤ totP ts.length q
  | 0, _ => ⟨p, hr, fun m hm => by omega, Int.le_refl _⟩
  | k + 1, h => by
    obtain ⟨q, h1, h2, h3⟩ := exch hv hr k (by omega)
    obtain ⟨q', g1, g2, g3⟩ := exch_step hv (by omega) h1 h2
    exact ⟨q', g1, g2, Int.le_trans h3 g3⟩
theorem tot_le {ts : List (Int × Int × Int)} (hv : vaB ts = true) {p : Nat → Int} (hr : Rt ts p) : totP ts.length p ≤ totP ts.length (urF ts) := by
  obtain ⟨q, h1, h2, h3⟩ := exch hv hr 100 (Nat.le_refl _)
  have : totP ts.length q = totP ts.length (urF ts) := sm_cong _ fun i _ => cn_same i 100 h2
  omega
theorem nb_not {Q R : Nat → Bool} : ∀ k, (∀ m, m < k → (Q m = true ↔ ¬ R m = true)) → nb Q k + nb R k = k
  | 0, _ => rfl
  | k + 1, h => by
    have ih := nb_not k (fun m hm => h m (by omega))
    have := h k (by omega)
    show nb Q k + (if Q k = true then 1 else 0) + (nb R k + (if R k = true then 1 else 0)) = _
    by_cases hq : Q k = true
    · rw [if_pos hq, if_neg (this.1 hq)]; omega
    · rw [if_neg hq, if_pos (by by_cases hr : R k = true; exact hr; exact absurd (this.2 hr) hq)]; omega
/-- No right plan has fewer free minutes than the urgent one. -/
theorem free_least {ts : List (Int × Int × Int)} (hv : vaB ts = true) {p : Nat → Int} (hr : Rt ts p) : nb (fun m => decide (urF ts m = -1)) 100 ≤ nb (fun m => decide (p m = -1)) 100 := by
  have h := tot_le hv hr
  rw [tot_nb, tot_nb] at h
  have h1 := nb_not (Q := fun m => decide (p m = -1)) (R := fun m => decide (0 ≤ p m) && decide (p m < ts.length)) 100 (fun m hm => by
    have := hr.bd m hm
    simp only [decide_eq_true_eq, Bool.and_eq_true]; omega)
  have h2 := nb_not (Q := fun m => decide (urF ts m = -1)) (R := fun m => decide (0 ≤ urF ts m) && decide (urF ts m < ts.length)) 100 (fun m _ => by
    have := ur_bd ts m
    simp only [decide_eq_true_eq, Bool.and_eq_true]; omega)
  omega
end Go.Proofs.Ythanmiifcpajhaa
