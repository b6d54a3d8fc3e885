/-
  Why the weights that are told prove the cost of the line that is told: rotation of a best line does not pay.
-/
import Derived.Test.YtoilbgngefleiaaJoined
namespace Go.Proofs.Ytoilbgngefleiaa

/-- A sum over a list. -/
def sm {α : Type} (f : α → Int) (l : List α) : Int := (l.map f).sum
section
variable {α : Type} {f g : α → Int} {l : List α}
theorem sm_nil : sm f [] = 0 := rfl
theorem sm_cons {x : α} : sm f (x :: l) = f x + sm f l := by simp [sm]
theorem sm_append {k : List α} : sm f (l ++ k) = sm f l + sm f k := by simp [sm]
theorem sm_add (f g : α → Int) (l : List α) : sm (fun x => f x + g x) l = sm f l + sm g l := by
  induction l with
  | nil => rfl
  | cons x t ih => rw [sm_cons, sm_cons, sm_cons, ih]; omega
theorem sm_sub (f g : α → Int) (l : List α) : sm (fun x => f x - g x) l = sm f l - sm g l := by
  induction l with
  | nil => rfl
  | cons x t ih => rw [sm_cons, sm_cons, sm_cons, ih]; omega
theorem sm_mul (c : Int) (f : α → Int) (l : List α) : sm (fun x => c * f x) l = c * sm f l := by
  induction l with
  | nil => simp [sm]
  | cons x t ih => rw [sm_cons, sm_cons, ih, Int.mul_add]
theorem sm_congr (h : ∀ x ∈ l, f x = g x) : sm f l = sm g l := by
  induction l with
  | nil => rfl
  | cons x t ih => rw [sm_cons, sm_cons, h x (by simp), ih fun y hy => h y (by simp [hy])]
theorem sm_le (h : ∀ x ∈ l, f x ≤ g x) : sm f l ≤ sm g l := by
  induction l with
  | nil => exact Int.le_refl _
  | cons x t ih =>
    have := h x (by simp)
    have := ih fun y hy => h y (by simp [hy])
    rw [sm_cons, sm_cons]; omega
theorem sm_zero (l : List α) : sm (fun _ => 0) l = 0 := by
  induction l with
  | nil => rfl
  | cons x t ih => rw [sm_cons, ih]; rfl
theorem sm_nonneg (h : ∀ x ∈ l, 0 ≤ f x) : 0 ≤ sm f l := by
  have := sm_le (f := fun _ => 0) h
  rwa [sm_zero] at this
theorem sm_pos (h : 0 < sm f l) : ∃ x ∈ l, 0 < f x := by
  apply Classical.byContradiction
  intro hn
  have : sm f l ≤ sm (fun _ => 0) l := sm_le fun x hx => by
    apply Classical.byContradiction
    intro h2
    exact hn ⟨x, hx, by omega⟩
  rw [sm_zero] at this
  omega
theorem sm_perm {k : List α} (h : l.Perm k) : sm f l = sm f k := by
  induction h with
  | nil => rfl
  | cons x _ ih => rw [sm_cons, sm_cons, ih]
  | swap x y t => simp only [sm_cons]; omega
  | trans _ _ h1 h2 => rw [h1, h2]
theorem sm_one (n : Nat) : sm (fun _ => (1 : Int)) (List.range n) = n := by
  induction n with
  | zero => rfl
  | succ n ih => rw [List.range_succ, sm_append, ih, sm_cons, sm_nil]; omega
/-- Of elements with a positive g one has the least f / g. -/
theorem least_quo {l : List α} (hg : ∀ x ∈ l, 0 < g x) (hl : l ≠ []) : ∃ x ∈ l, ∀ y ∈ l, f x * g y ≤ f y * g x := by
  induction l with
  | nil => exact absurd rfl hl
  | cons a t ih =>
    by_cases ht : t = []
    · subst ht
      exact ⟨a, by simp, fun y hy => by simp at hy; subst hy; exact Int.le_refl _⟩
    · obtain ⟨x, hx, hm⟩ := ih (fun y hy => hg y (by simp [hy])) ht
      have ga := hg a (by simp)
      have gx := hg x (by simp [hx])
      by_cases hc : f a * g x ≤ f x * g a
      · refine ⟨a, by simp, fun y hy => ?_⟩
        rcases List.mem_cons.1 hy with rfl | hy
        · exact Int.le_refl _
        · have gy := hg y (by simp [hy])
          have h1 := hm y hy
          have h2 : (f a * g x) * g y ≤ (f x * g a) * g y := Int.mul_le_mul_of_nonneg_right hc (Int.le_of_lt gy)
          have h3 : (f x * g y) * g a ≤ (f y * g x) * g a := Int.mul_le_mul_of_nonneg_right h1 (Int.le_of_lt ga)
          have h4 : g x * (f a * g y) ≤ g x * (f y * g a) := by grind
          exact Int.le_of_mul_le_mul_left h4 gx
      · refine ⟨x, by simp [hx], fun y hy => ?_⟩
        rcases List.mem_cons.1 hy with rfl | hy
        · omega
        · exact hm y hy
end
theorem abs_nonneg (x : Int) : 0 ≤ absI x := by unfold absI; omega
theorem abs_of {x : Int} (h : 0 ≤ x) : absI x = x := by unfold absI; omega
theorem abs_neg' {x : Int} (h : x ≤ 0) : absI x = -x := by unfold absI; omega
theorem abs_mul (x y : Int) : absI (x * y) = absI x * absI y := by
  rcases Int.le_total 0 x with hx | hx <;> rcases Int.le_total 0 y with hy | hy
  · rw [abs_of hx, abs_of hy, abs_of (Int.mul_nonneg hx hy)]
  · rw [abs_of hx, abs_neg' hy, abs_neg' (Int.mul_nonpos_of_nonneg_of_nonpos hx hy), Int.mul_neg]
  · rw [abs_neg' hx, abs_of hy, abs_neg' (Int.mul_nonpos_of_nonpos_of_nonneg hx hy), Int.neg_mul]
  · rw [abs_neg' hx, abs_neg' hy, abs_of (Int.mul_nonneg_of_nonpos_of_nonpos hx hy), Int.neg_mul_neg]
theorem sgn_mul (x : Int) : cmpV x 0 * x = absI x := by unfold cmpV absI; (repeat' split) <;> omega
theorem sgn_cases (x : Int) : (x < 0 ∧ cmpV x 0 = -1) ∨ (x = 0 ∧ cmpV x 0 = 0) ∨ (0 < x ∧ cmpV x 0 = 1) := by unfold cmpV; (repeat' split) <;> omega
/-- Two lines through the same two points are multiples of each other. -/
theorem lines_same {p q : Int × Int} {A B D a b d : Int} (hne : p.1 ≠ q.1) (h1 : rsI A B D p = 0) (h2 : rsI A B D q = 0) (h3 : rsI a b d p = 0) (h4 : rsI a b d q = 0) (r : Int × Int) :
    rsI A B D r * d = D * rsI a b d r := by
  unfold rsI at *
  have e0 : q.1 - p.1 ≠ 0 := by omega
  have e1 : (q.1 - p.1) * (A * d - a * D) = 0 := by grind
  have e2 : A * d = a * D := by
    rcases Int.mul_eq_zero.1 e1 with h | h
    · exact absurd h e0
    · omega
  have e3 : B * d = b * D := by grind
  grind
/-- Rotation of a best line about a point on it does not pay. -/
theorem key {ms : List (Int × Int)} {a b d : Int} (hd : 0 < d) {th : Int × Int → Int × Int → Int × Int × Int} {P : Int × Int} (_ : P ∈ ms) (hP : rsI a b d P = 0)
    (hth : ∀ q ∈ ms, P.1 ≠ q.1 → 0 < (th P q).2.2 ∧ rsI (th P q).1 (th P q).2.1 (th P q).2.2 P = 0 ∧ rsI (th P q).1 (th P q).2.1 (th P q).2.2 q = 0)
    (hmin : ∀ q ∈ ms, P.1 ≠ q.1 → sm (fun r => absI (rsI a b d r)) ms * (th P q).2.2 ≤ sm (fun r => absI (rsI (th P q).1 (th P q).2.1 (th P q).2.2 r)) ms * d)
    {σ : Int} (hσ : σ = 1 ∨ σ = -1) : 0 ≤ sm (fun q => if rsI a b d q = 0 then absI (q.1 - P.1) else - (σ * (cmpV (rsI a b d q) 0 * (q.1 - P.1)))) ms := by
  apply Classical.byContradiction
  intro hneg
  have hs2 : σ * σ = 1 := by rcases hσ with rfl | rfl <;> rfl
  obtain ⟨e, he⟩ : ∃ e : Int × Int → Int, e = fun q => if rsI a b d q = 0 then - absI (q.1 - P.1) else σ * (cmpV (rsI a b d q) 0 * (q.1 - P.1)) := ⟨_, rfl⟩
  have hE : 0 < sm e ms := by
    have : sm e ms = sm (fun q => (-1) * (if rsI a b d q = 0 then absI (q.1 - P.1) else - (σ * (cmpV (rsI a b d q) 0 * (q.1 - P.1))))) ms := sm_congr fun q _ => by
      rw [he]; dsimp only; split <;> omega
    rw [this, sm_mul]; omega
  obtain ⟨q0, hq0, hq1⟩ := sm_pos hE
  have hL : ms.filter (fun q => decide (0 < e q)) ≠ [] := fun h => by
    have : q0 ∈ ms.filter (fun q => decide (0 < e q)) := List.mem_filter.2 ⟨hq0, by simpa using hq1⟩
    rw [h] at this; cases this
  have hoff : ∀ q, 0 < e q → rsI a b d q ≠ 0 ∧ e q = σ * (cmpV (rsI a b d q) 0 * (q.1 - P.1)) := fun q h => by
    rw [he] at h ⊢
    dsimp only at h ⊢
    split at h
    · have := abs_nonneg (q.1 - P.1); omega
    · rename_i h0
      exact ⟨h0, by rw [if_neg h0]⟩
  have habs : ∀ q, 0 < e q → e q = absI (q.1 - P.1) ∧ 0 < absI (q.1 - P.1) ∧ P.1 ≠ q.1 := fun q h => by
    obtain ⟨h0, h1⟩ := hoff q h
    have hc := sgn_cases (rsI a b d q)
    have : e q = absI (q.1 - P.1) := by
      rw [h1] at h ⊢
      unfold absI
      rcases hσ with rfl | rfl <;> rcases hc with ⟨_, k⟩ | ⟨k, _⟩ | ⟨_, k⟩ <;> first | (exact absurd k h0) | (rw [k] at h ⊢; omega)
    refine ⟨this, by omega, fun hx => ?_⟩
    rw [this] at h
    unfold absI at h
    omega
  obtain ⟨Q, hQ, hQm⟩ := least_quo (f := fun q => absI (rsI a b d q)) (g := fun q => absI (q.1 - P.1)) (fun q hq => (habs q (by simpa using (List.mem_filter.1 hq).2)).2.1) hL
  have hQ1 := (List.mem_filter.1 hQ).1
  have hQe : 0 < e Q := by simpa using (List.mem_filter.1 hQ).2
  obtain ⟨hQ0, hQf⟩ := hoff Q hQe
  obtain ⟨hQa, hQp, hQn⟩ := habs Q hQe
  obtain ⟨Δ, hΔ⟩ : ∃ x, absI (Q.1 - P.1) = x := ⟨_, rfl⟩
  obtain ⟨ρ, hρ⟩ : ∃ x, absI (rsI a b d Q) = x := ⟨_, rfl⟩
  have hρ0 : 0 < ρ := by rw [← hρ]; unfold absI; omega
  rw [hΔ] at hQa hQp
  rw [hΔ, hρ] at hQm
  obtain ⟨hD, z1, z2⟩ := hth Q hQ1 hQn
  have hm := hmin Q hQ1 hQn
  obtain ⟨A, hA⟩ : ∃ x, (th P Q).1 = x := ⟨_, rfl⟩
  obtain ⟨B, hB⟩ : ∃ x, (th P Q).2.1 = x := ⟨_, rfl⟩
  obtain ⟨D, hDD⟩ : ∃ x, (th P Q).2.2 = x := ⟨_, rfl⟩
  rw [hA, hB, hDD] at z1 z2 hm
  rw [hDD] at hD
  -- the turned line
  have hR : ∀ q : Int × Int, rsI (a * Δ + ρ * σ) (b * Δ - ρ * σ * P.1) (d * Δ) q = Δ * rsI a b d q - ρ * (σ * (q.1 - P.1)) := fun q => by unfold rsI; grind
  have hRP : rsI (a * Δ + ρ * σ) (b * Δ - ρ * σ * P.1) (d * Δ) P = 0 := by rw [hR, hP]; grind
  have hsg : σ * (Q.1 - P.1) = cmpV (rsI a b d Q) 0 * Δ := by
    rw [hQf] at hQa
    rcases sgn_cases (rsI a b d Q) with ⟨_, k⟩ | ⟨k, _⟩ | ⟨_, k⟩
    · rw [k] at hQa ⊢; grind
    · exact absurd k hQ0
    · rw [k] at hQa ⊢; grind
  have hRQ : rsI (a * Δ + ρ * σ) (b * Δ - ρ * σ * P.1) (d * Δ) Q = 0 := by
    rw [hR, hsg]
    have := sgn_mul (rsI a b d Q)
    rw [hρ] at this
    have h2 : cmpV (rsI a b d Q) 0 * ρ = rsI a b d Q := by
      rw [← this]
      rcases sgn_cases (rsI a b d Q) with ⟨_, k⟩ | ⟨k, _⟩ | ⟨_, k⟩
      · rw [k]; omega
      · exact absurd k hQ0
      · rw [k]; omega
    have h3 : ρ * (cmpV (rsI a b d Q) 0 * Δ) = Δ * (cmpV (rsI a b d Q) 0 * ρ) := by grind
    rw [h3, h2]; omega
  have hsame := lines_same hQn z1 z2 hRP hRQ
  -- its cost
  have habsR : ∀ q ∈ ms, absI (rsI (a * Δ + ρ * σ) (b * Δ - ρ * σ * P.1) (d * Δ) q) = Δ * absI (rsI a b d q) - ρ * e q := fun q hq => by
    rw [hR]
    by_cases h0 : rsI a b d q = 0
    · have : e q = - absI (q.1 - P.1) := by rw [he]; dsimp only; rw [if_pos h0]
      rw [this, h0, Int.mul_zero, Int.zero_sub, show absI 0 = 0 from rfl]
      have h1 : -(ρ * (σ * (q.1 - P.1))) = (-ρ * σ) * (q.1 - P.1) := by grind
      rw [h1, abs_mul, abs_mul]
      have h2 : absI σ = 1 := by rcases hσ with rfl | rfl <;> rfl
      have h3 : absI (-ρ) = ρ := by unfold absI; omega
      rw [h2, h3]; grind
    · have h1 : e q = σ * (cmpV (rsI a b d q) 0 * (q.1 - P.1)) := by rw [he]; dsimp only; rw [if_neg h0]
      have hge : 0 ≤ Δ * absI (rsI a b d q) - ρ * e q := by
        by_cases hp : 0 < e q
        · have := hQm q (List.mem_filter.2 ⟨hq, by simpa using hp⟩)
          rw [← (habs q hp).1, Int.mul_comm (absI _) Δ] at this
          omega
        · have h5 : ρ * e q ≤ 0 := Int.mul_nonpos_of_nonneg_of_nonpos (Int.le_of_lt hρ0) (by omega)
          have h6 := Int.mul_nonneg (Int.le_of_lt hQp) (abs_nonneg (rsI a b d q))
          omega
      have hs : (Δ * rsI a b d q - ρ * (σ * (q.1 - P.1))) * cmpV (rsI a b d q) 0 = Δ * absI (rsI a b d q) - ρ * e q := by
        rw [h1, ← sgn_mul]; grind
      have : absI ((Δ * rsI a b d q - ρ * (σ * (q.1 - P.1))) * cmpV (rsI a b d q) 0) = absI (Δ * rsI a b d q - ρ * (σ * (q.1 - P.1))) := by
        rw [abs_mul]
        rcases sgn_cases (rsI a b d q) with ⟨_, k⟩ | ⟨k, _⟩ | ⟨_, k⟩
        · rw [k, show absI (-1) = 1 from rfl, Int.mul_one]
        · exact absurd k h0
        · rw [k, show absI 1 = 1 from rfl, Int.mul_one]
      rw [← this, hs, abs_of hge]
  have hdΔ : 0 < d * Δ := Int.mul_pos hd hQp
  have hc1 : sm (fun r => absI (rsI A B D r)) ms * (d * Δ) = D * (Δ * sm (fun r => absI (rsI a b d r)) ms - ρ * sm e ms) := by
    rw [← sm_mul, ← sm_mul, ← sm_sub, ← sm_mul, Int.mul_comm, ← sm_mul]
    refine sm_congr fun q hq => ?_
    rw [← habsR q hq]
    have h1 := hsame q
    have h2 := congrArg absI h1
    rw [abs_mul _ (d * Δ), abs_mul D, abs_of (Int.le_of_lt hdΔ), abs_of (Int.le_of_lt hD)] at h2
    rw [← h2, Int.mul_comm]
  have h7 : 0 < D * (ρ * sm e ms) := Int.mul_pos hD (Int.mul_pos hρ0 hE)
  have h8 : Δ * (sm (fun r => absI (rsI a b d r)) ms * D) ≤ Δ * (sm (fun r => absI (rsI A B D r)) ms * d) := Int.mul_le_mul_of_nonneg_left hm (Int.le_of_lt hQp)
  generalize sm (fun r => absI (rsI A B D r)) ms = u at *
  generalize sm (fun r => absI (rsI a b d r)) ms = v at *
  generalize sm e ms = t at *
  grind
/-- The weights that lean to the right: their j-th one. -/
def lnA (n : Nat) (s : Int) (j : Nat) : Int := if (j : Int) < ((n : Int) - s) / 2 then -1 else if (n : Int) - 1 - j < ((n : Int) + s) / 2 then 1 else 0
theorem cnt_lt (p : Int) (hp : 0 ≤ p) (n : Nat) : sm (fun j : Nat => if (j : Int) < p then (1 : Int) else 0) (List.range n) = min p n := by
  induction n with
  | zero => rw [List.range_zero, sm_nil]; omega
  | succ n ih => rw [List.range_succ, sm_append, ih, sm_cons, sm_nil]; split <;> omega
theorem cnt_ge (n : Nat) (q : Int) (_ : 0 ≤ q) (hqn : q ≤ n) (m : Nat) : sm (fun j : Nat => if (n : Int) - 1 - j < q then (1 : Int) else 0) (List.range m) = max 0 (m - (n - q)) := by
  induction m with
  | zero => rw [List.range_zero, sm_nil]; omega
  | succ m ih => rw [List.range_succ, sm_append, ih, sm_cons, sm_nil]; split <;> omega
theorem ln_sum {n : Nat} {s : Int} (h0 : -(n : Int) ≤ s) (h1 : s ≤ n) : sm (lnA n s) (List.range n) = s := by
  have e : sm (lnA n s) (List.range n) = sm (fun j : Nat => (if (n : Int) - 1 - j < ((n : Int) + s) / 2 then (1 : Int) else 0) - (if (j : Int) < ((n : Int) - s) / 2 then (1 : Int) else 0)) (List.range n) := sm_congr fun j _ => by
    unfold lnA
    (repeat' split) <;> omega
  rw [e, sm_sub, cnt_ge n _ (by omega) (by omega), cnt_lt _ (by omega)]
  omega
theorem ln_bd (n : Nat) (s : Int) (j : Nat) : -1 ≤ lnA n s j ∧ lnA n s j ≤ 1 := by unfold lnA; (repeat' split) <;> omega
theorem ln_turn {n : Nat} {s : Int} (hn : 0 < n) (_ : -(n : Int) ≤ s) (h1 : s ≤ n) {x : Nat → Int} (hx : ∀ i j, i ≤ j → j < n → x i ≤ x j) :
    ∃ t, t < n ∧ ∀ j, j < n → absI (x j - x t) = lnA n s j * (x j - x t) := by
  obtain ⟨p, hp⟩ : ∃ p, ((n : Int) - s) / 2 = p := ⟨_, rfl⟩
  obtain ⟨q, hq⟩ : ∃ q, ((n : Int) + s) / 2 = q := ⟨_, rfl⟩
  refine ⟨min p.toNat (n - 1), by omega, fun j hj => ?_⟩
  unfold lnA
  rw [hp, hq]
  by_cases c1 : (j : Int) < p
  · rw [if_pos c1]
    have := hx j (min p.toNat (n - 1)) (by omega) (by omega)
    unfold absI; omega
  · rw [if_neg c1]
    by_cases c2 : (n : Int) - 1 - j < q
    · rw [if_pos c2]
      have := hx (min p.toNat (n - 1)) j (by omega) hj
      unfold absI; omega
    · rw [if_neg c2]
      have : min p.toNat (n - 1) = j := by omega
      rw [this]; unfold absI; omega
theorem sm_rev (f : Nat → Int) (n : Nat) : sm (fun j => f (n - 1 - j)) (List.range n) = sm f (List.range n) := by
  induction n generalizing f with
  | zero => rfl
  | succ n ih =>
    rw [List.range_succ_eq_map, sm_cons]
    have e1 : sm (fun j => f (n + 1 - 1 - j)) (List.map Nat.succ (List.range n)) = sm (fun j => f (n - 1 - j)) (List.range n) := by
      unfold sm; rw [List.map_map]; congr 1; exact List.map_congr_left fun j _ => by simp [Function.comp]; congr 1; omega
    rw [e1, ih]
    rw [← List.range_succ_eq_map, List.range_succ, sm_append, sm_cons, sm_nil]
    simp only [Nat.add_sub_cancel, Nat.sub_zero]; omega
/-- What rotations that do not pay say of sides and abscissae. -/
theorem cert_abs {n : Nat} {x : Nat → Int} (hx : ∀ i j, i ≤ j → j < n → x i ≤ x j) {i0 j0 : Nat} (hi0 : i0 < n) (hj0 : j0 < n) (hne : x i0 ≠ x j0) {T U : Int}
    (H : ∀ t, t < n → ∀ σ : Int, (σ = 1 ∨ σ = -1) → 0 ≤ sm (fun j => absI (x j - x t)) (List.range n) - σ * (U - x t * T)) :
    (-(n : Int) ≤ -T ∧ -T ≤ n) ∧ 0 ≤ sm (fun j => lnA n (-T) j * x j) (List.range n) + U ∧ 0 ≤ -U - sm (fun j => lnA n (-T) (n - 1 - j) * x j) (List.range n) := by
  have hn : 0 < n := by omega
  have hlt : x 0 < x (n - 1) := by
    have a1 := hx 0 i0 (by omega) hi0
    have a2 := hx 0 j0 (by omega) hj0
    have a3 := hx i0 (n - 1) (by omega) (by omega)
    have a4 := hx j0 (n - 1) (by omega) (by omega)
    omega
  have hsum : sm (fun j => absI (x j - x 0)) (List.range n) + sm (fun j => absI (x j - x (n - 1))) (List.range n) = n * (x (n - 1) - x 0) := by
    rw [← sm_add]
    have e : sm (fun j => absI (x j - x 0) + absI (x j - x (n - 1))) (List.range n) = sm (fun _ => (x (n - 1) - x 0) * 1) (List.range n) := sm_congr fun j hj => by
      have hj := List.mem_range.1 hj
      have a1 := hx 0 j (by omega) hj
      have a2 := hx j (n - 1) (by omega) (by omega)
      unfold absI; omega
    rw [e, sm_mul, sm_one, Int.mul_comm]
  have p0 := H 0 hn 1 (.inl rfl)
  have p1 := H 0 hn (-1) (.inr rfl)
  have p2 := H (n - 1) (by omega) 1 (.inl rfl)
  have p3 := H (n - 1) (by omega) (-1) (.inr rfl)
  have hT : -(n : Int) ≤ -T ∧ -T ≤ n := by
    constructor
    · apply Classical.byContradiction
      intro hc
      have : 0 < (T - n) * (x (n - 1) - x 0) := Int.mul_pos (by omega) (by omega)
      grind
    · apply Classical.byContradiction
      intro hc
      have : 0 < (-T - n) * (x (n - 1) - x 0) := Int.mul_pos (by omega) (by omega)
      grind
  refine ⟨hT, ?_, ?_⟩
  · obtain ⟨t, ht, hte⟩ := ln_turn hn hT.1 hT.2 hx
    have h2 := H t ht (-1) (.inr rfl)
    have e : sm (fun j => absI (x j - x t)) (List.range n) = sm (fun j => lnA n (-T) j * x j) (List.range n) - x t * sm (lnA n (-T)) (List.range n) := by
      rw [← sm_mul, ← sm_sub]
      exact sm_congr fun j hj => by rw [hte j (List.mem_range.1 hj)]; grind
    rw [e, ln_sum hT.1 hT.2] at h2
    grind
  · obtain ⟨t, ht, hte⟩ := ln_turn (x := fun j => - x (n - 1 - j)) hn hT.1 hT.2 (fun i j hij hj => by have := hx (n - 1 - j) (n - 1 - i) (by omega) (by omega); omega)
    have h2 := H (n - 1 - t) (by omega) 1 (.inl rfl)
    have e : sm (fun j => absI (x j - x (n - 1 - t))) (List.range n) = x (n - 1 - t) * sm (fun j => lnA n (-T) (n - 1 - j)) (List.range n) - sm (fun j => lnA n (-T) (n - 1 - j) * x j) (List.range n) := by
      rw [← sm_mul, ← sm_sub]
      refine sm_congr fun j hj => ?_
      have hj := List.mem_range.1 hj
      have := hte (n - 1 - j) (by omega)
      rw [show n - 1 - (n - 1 - j) = j by omega] at this
      have h3 : absI (x j - x (n - 1 - t)) = absI (-x j - -x (n - 1 - t)) := by unfold absI; omega
      rw [h3, this]; grind
    rw [e, sm_rev (lnA n (-T)) n, ln_sum hT.1 hT.2] at h2
    grind
/-- Some elements of a list set to other values. -/
def stW (W : List Int) (ps : List (Int × Int)) : List Int := ps.foldl (fun W p => W.set p.1.toNat p.2) W
theorem stW_len (W : List Int) (ps : List (Int × Int)) : (stW W ps).length = W.length := by
  unfold stW
  induction ps generalizing W with
  | nil => rfl
  | cons p t ih => rw [List.foldl_cons, ih, List.length_set]
theorem stW_snoc (W : List Int) (ps : List (Int × Int)) (p : Int × Int) : stW W (ps ++ [p]) = (stW W ps).set p.1.toNat p.2 := by simp [stW]
theorem set_sum {W : List Int} {k : Nat} {v : Int} (hk : k < W.length) (g : Nat → Int) :
    sm (fun i => (W.set k v).getD i 0 * g i) (List.range W.length) = sm (fun i => W.getD i 0 * g i) (List.range W.length) + (v - W.getD k 0) * g k := by
  have e : ∀ m, sm (fun i => (W.set k v).getD i 0 * g i) (List.range m) = sm (fun i => W.getD i 0 * g i) (List.range m) + if k < m then (v - W.getD k 0) * g k else 0 := fun m => by
    induction m with
    | zero => simp [sm]
    | succ m ih =>
      rw [List.range_succ, sm_append, sm_append, ih, sm_cons, sm_nil, sm_cons, sm_nil]
      by_cases hm : m = k
      · subst hm
        have : (W.set m v).getD m 0 = v := by rw [List.getD_eq_getElem?_getD, List.getElem?_set_self hk]; rfl
        rw [this, if_neg (by omega), if_pos (by omega)]; grind
      · have : (W.set k v).getD m 0 = W.getD m 0 := by rw [List.getD_eq_getElem?_getD, List.getElem?_set_ne (by omega), ← List.getD_eq_getElem?_getD]
        rw [this]
        by_cases h2 : k < m
        · rw [if_pos h2, if_pos (by omega)]; omega
        · rw [if_neg h2, if_neg (by omega)]; omega
  rw [e, if_pos hk]
theorem stW_sum (ps : List (Int × Int)) (g : Nat → Int) : ∀ (W : List Int), (ps.map fun p => p.1.toNat).Nodup → (∀ p ∈ ps, p.1.toNat < W.length ∧ W.getD p.1.toNat 0 = 0) →
    sm (fun i => (stW W ps).getD i 0 * g i) (List.range W.length) = sm (fun i => W.getD i 0 * g i) (List.range W.length) + sm (fun p : Int × Int => p.2 * g p.1.toNat) ps := by
  induction ps with
  | nil => intro W _ _; simp [stW, sm]
  | cons p t ih =>
    intro W hnd hp
    rw [List.map_cons, List.nodup_cons] at hnd
    obtain ⟨h1, h2⟩ := hp p (by simp)
    have := ih (W.set p.1.toNat p.2) hnd.2 (fun q hq => by
      obtain ⟨q1, q2⟩ := hp q (by simp [hq])
      refine ⟨by rw [List.length_set]; exact q1, ?_⟩
      have hne : p.1.toNat ≠ q.1.toNat := fun h => hnd.1 (by rw [h]; exact List.mem_map.2 ⟨q, hq, rfl⟩)
      rw [List.getD_eq_getElem?_getD, List.getElem?_set_ne hne, ← List.getD_eq_getElem?_getD, q2])
    rw [List.length_set] at this
    rw [show stW W (p :: t) = stW (W.set p.1.toNat p.2) t from rfl, this, set_sum h1, h2, sm_cons]
    grind
theorem stW_mem {ps : List (Int × Int)} {w : Int} : ∀ {W : List Int}, w ∈ stW W ps → w ∈ W ∨ ∃ p ∈ ps, p.2 = w := by
  induction ps with
  | nil => intro W h; exact .inl h
  | cons p t ih =>
    intro W h
    rcases ih (W := W.set p.1.toNat p.2) h with h | ⟨q, hq, he⟩
    · rcases List.mem_or_eq_of_mem_set h with h | h
      · exact .inl h
      · exact .inr ⟨p, by simp, h.symm⟩
    · exact .inr ⟨q, by simp [hq], he⟩
theorem sm_getD {α : Type} (f : α → Int) (l : List α) (z : α) : sm f l = sm (fun i => f (l.getD i z)) (List.range l.length) := by
  have : l = (List.range l.length).map fun i => l.getD i z := by
    apply List.ext_getElem?
    intro i
    rw [List.getElem?_map]
    by_cases h : i < l.length
    · rw [List.getElem?_range h, List.getElem?_eq_getElem h, Option.map_some, List.getD_eq_getElem?_getD, List.getElem?_eq_getElem h]; rfl
    · rw [List.getElem?_eq_none (by omega), List.getElem?_eq_none (by simp; omega)]; rfl
  conv => lhs; rw [this]
  unfold sm; rw [List.map_map]; rfl
theorem sm_filter {α : Type} (f : α → Int) (p : α → Bool) (l : List α) : sm f (l.filter p) = sm (fun x => if p x then f x else 0) l := by
  induction l with
  | nil => rfl
  | cons x t ih =>
    rw [List.filter_cons, sm_cons]
    split
    · rename_i h; rw [sm_cons, ih]
    · rename_i h; rw [ih]; omega
/-- The sums of weights, and of weights times X and times Y. -/
def turL (ms : List (Int × Int)) (ws : List Int) : Int := sm (fun i => ws.getD i 0 * (ms.getD i (0, 0)).1) (List.range ws.length)
def upL (ms : List (Int × Int)) (ws : List Int) : Int := sm (fun i => ws.getD i 0 * (ms.getD i (0, 0)).2) (List.range ws.length)
def ptK (ms : List (Int × Int)) (z : Int) : Int × Int := ms.getD z.toNat (0, 0)
/-- What proves that a line is a best one. -/
structure Cert (ms : List (Int × Int)) (ws : List Int) (m a b d : Int) : Prop where
  len : ws.length = ms.length
  one : 1 ≤ m ∧ m ≤ 10000
  bd : ∀ w ∈ ws, -m ≤ w ∧ w ≤ m
  sum : ws.sum = 0
  tur : turL ms ws = 0
  up : upL ms ws * d = m * sumA (ms.map (rsI a b d))
def OnL (ms : List (Int × Int)) (a b d : Int) (fs : List Int) : Prop := fs.Perm (zeroL (ms.map (rsI a b d)) ms.length) ∧ ∀ i j, i ≤ j → j < fs.length → (ptK ms (fs.getD i 0)).1 ≤ (ptK ms (fs.getD j 0)).1
theorem zero_mem {zs : List Int} {k : Nat} {z : Int} (h : z ∈ zeroL zs k) : ∃ j : Nat, z = j ∧ j < k ∧ zs.getD j 0 = 0 := by
  unfold zeroL at h
  obtain ⟨j, hj, rfl⟩ := List.mem_map.1 h
  obtain ⟨h1, h2⟩ := List.mem_filter.1 hj
  exact ⟨j, rfl, List.mem_range.1 h1, by simpa using h2⟩
theorem rs_at (ms : List (Int × Int)) (a b d : Int) {j : Nat} (h : j < ms.length) : (ms.map (rsI a b d)).getD j 0 = rsI a b d (ms.getD j (0, 0)) := by
  rw [List.getD_eq_getElem?_getD, List.getElem?_map, List.getElem?_eq_getElem h, List.getD_eq_getElem?_getD, List.getElem?_eq_getElem h]; rfl
theorem on_mem {ms : List (Int × Int)} {a b d : Int} {fs : List Int} (h : OnL ms a b d fs) {z : Int} (hz : z ∈ fs) : ∃ j : Nat, z = j ∧ j < ms.length ∧ rsI a b d (ms.getD j (0, 0)) = 0 := by
  obtain ⟨j, e, hj, h0⟩ := zero_mem (h.1.mem_iff.1 hz)
  exact ⟨j, e, hj, by rw [← rs_at ms a b d hj]; exact h0⟩
theorem on_sum {ms : List (Int × Int)} {a b d : Int} {fs : List Int} (h : OnL ms a b d fs) (g : Int × Int → Int) :
    sm (fun q => if rsI a b d q = 0 then g q else 0) ms = sm (fun j => g (ptK ms (fs.getD j 0))) (List.range fs.length) := by
  rw [← sm_getD (fun z => g (ptK ms z)) fs 0, sm_perm h.1, sm_getD _ ms (0, 0)]
  unfold zeroL
  have e : sm (fun z => g (ptK ms z)) (List.map Int.ofNat (List.filter (fun j => decide ((List.map (rsI a b d) ms).getD j 0 = 0)) (List.range ms.length))) = sm (fun j : Nat => g (ms.getD j (0, 0))) (List.filter (fun j => decide ((List.map (rsI a b d) ms).getD j 0 = 0)) (List.range ms.length)) := by
    unfold sm; rw [List.map_map]; rfl
  rw [e, sm_filter]
  refine sm_congr fun j hj => ?_
  rw [rs_at ms a b d (List.mem_range.1 hj)]
  simp
theorem getD_mem' {α : Type} {l : List α} {k : Nat} (z : α) (h : k < l.length) : l.getD k z ∈ l := by
  rw [List.getD_eq_getElem?_getD, List.getElem?_eq_getElem h]; exact List.getElem_mem h
def siT (ms : List (Int × Int)) (a b d : Int) : Int := sm (fun q => cmpV (rsI a b d q) 0) ms
def siU (ms : List (Int × Int)) (a b d : Int) : Int := sm (fun q => cmpV (rsI a b d q) 0 * q.1) ms
def xK (ms : List (Int × Int)) (fs : List Int) (j : Nat) : Int := (ptK ms (fs.getD j 0)).1
/-- The line is among all lines through two of the points one with the least cost. -/
def BestTh (ms : List (Int × Int)) (th : Int × Int → Int × Int → Int × Int × Int) (a b d : Int) : Prop :=
  ∀ p ∈ ms, ∀ q ∈ ms, p.1 ≠ q.1 → (0 < (th p q).2.2 ∧ rsI (th p q).1 (th p q).2.1 (th p q).2.2 p = 0 ∧ rsI (th p q).1 (th p q).2.1 (th p q).2.2 q = 0) ∧
    sm (fun r => absI (rsI a b d r)) ms * (th p q).2.2 ≤ sm (fun r => absI (rsI (th p q).1 (th p q).2.1 (th p q).2.2 r)) ms * d
theorem best_cert {ms : List (Int × Int)} {a b d : Int} (hd : 0 < d) {th : Int × Int → Int × Int → Int × Int × Int} (hb : BestTh ms th a b d) {fs : List Int} (hF : OnL ms a b d fs)
    (h2 : ∃ p ∈ ms, ∃ q ∈ ms, p.1 ≠ q.1 ∧ rsI a b d p = 0 ∧ rsI a b d q = 0) :
    (-(fs.length : Int) ≤ -siT ms a b d ∧ -siT ms a b d ≤ fs.length) ∧ 0 ≤ sm (fun j => lnA fs.length (-siT ms a b d) j * xK ms fs j) (List.range fs.length) + siU ms a b d ∧
      0 ≤ -siU ms a b d - sm (fun j => lnA fs.length (-siT ms a b d) (fs.length - 1 - j) * xK ms fs j) (List.range fs.length) := by
  have hin : ∀ p ∈ ms, rsI a b d p = 0 → ∃ j, j < fs.length ∧ ptK ms (fs.getD j 0) = p := fun p hp h0 => by
    obtain ⟨j, hj, e⟩ := List.getElem_of_mem hp
    have hz : (j : Int) ∈ fs := by
      refine hF.1.mem_iff.2 ?_
      unfold zeroL
      refine List.mem_map.2 ⟨j, List.mem_filter.2 ⟨List.mem_range.2 hj, ?_⟩, rfl⟩
      rw [rs_at ms a b d hj, List.getD_eq_getElem?_getD, List.getElem?_eq_getElem hj]
      simpa [e] using h0
    obtain ⟨i, hi, e2⟩ := List.getElem_of_mem hz
    refine ⟨i, hi, ?_⟩
    rw [List.getD_eq_getElem?_getD, List.getElem?_eq_getElem hi, Option.getD_some, e2]
    unfold ptK
    rw [Int.toNat_natCast, List.getD_eq_getElem?_getD, List.getElem?_eq_getElem hj, Option.getD_some, e]
  obtain ⟨p, hp, q, hq, hne, p0, q0⟩ := h2
  obtain ⟨i0, hi0, ei⟩ := hin p hp p0
  obtain ⟨j0, hj0, ej⟩ := hin q hq q0
  refine cert_abs (x := xK ms fs) hF.2 hi0 hj0 (by unfold xK; rw [ei, ej]; exact hne) (fun t ht σ hσ => ?_)
  obtain ⟨k, ek, hk, hk0⟩ := on_mem hF (getD_mem' 0 ht)
  have hP : ptK ms (fs.getD t 0) = ms.getD k (0, 0) := by unfold ptK; rw [ek, Int.toNat_natCast]
  have hPm : ptK ms (fs.getD t 0) ∈ ms := by rw [hP]; exact getD_mem' _ hk
  have := key hd (th := th) hPm (by rw [hP]; exact hk0) (fun r hr hrn => (hb _ hPm r hr hrn).1) (fun r hr hrn => (hb _ hPm r hr hrn).2) hσ
  have e : sm (fun q => if rsI a b d q = 0 then absI (q.1 - (ptK ms (fs.getD t 0)).1) else - (σ * (cmpV (rsI a b d q) 0 * (q.1 - (ptK ms (fs.getD t 0)).1)))) ms
      = sm (fun j => absI (xK ms fs j - xK ms fs t)) (List.range fs.length) - σ * (siU ms a b d - xK ms fs t * siT ms a b d) := by
    have h3 := on_sum hF (fun q => absI (q.1 - (ptK ms (fs.getD t 0)).1))
    have h4 : sm (fun j => absI (xK ms fs j - xK ms fs t)) (List.range fs.length) = sm (fun j => absI ((ptK ms (fs.getD j 0)).1 - (ptK ms (fs.getD t 0)).1)) (List.range fs.length) := rfl
    rw [h4, ← h3]
    unfold siU siT
    rw [← sm_mul, ← sm_sub, ← sm_mul, ← sm_sub]
    refine sm_congr fun r _ => ?_
    by_cases h0 : rsI a b d r = 0
    · rw [if_pos h0, if_pos h0, h0, show cmpV 0 0 = 0 from rfl]; grind
    · rw [if_neg h0, if_neg h0]; unfold xK; grind
  rw [e] at this
  exact this
/-- The weights that are told prove the cost. -/
theorem cert_of {ms : List (Int × Int)} {a b d : Int} {fs : List Int} (hF : OnL ms a b d fs) (hn : ms.length ≤ 12) (hX : ∀ q ∈ ms, -100 ≤ q.1 ∧ q.1 ≤ 100) {T U M L r l m : Int} (hT : T = siT ms a b d) (hU : U = siU ms a b d)
    (hM : M = sm (fun j => lnA fs.length (-T) j * xK ms fs j) (List.range fs.length)) (hL : L = sm (fun j => lnA fs.length (-T) (fs.length - 1 - j) * xK ms fs j) (List.range fs.length))
    (h0 : -(fs.length : Int) ≤ -T ∧ -T ≤ fs.length) (h1 : 0 ≤ M + U) (h2 : 0 ≤ -U - L) (hl : l = M + U) (hr : r = if -U - L + (M + U) = 0 then 1 else -U - L) (hm : m = r + l) :
    Cert ms (stW (ms.map fun q => cmpV (rsI a b d q) 0 * m) ((List.range fs.length).map fun j => (fs.getD j 0, lnA fs.length (-T) j * r + lnA fs.length (-T) (fs.length - 1 - j) * l))) m a b d := by
  obtain ⟨W0, hW0⟩ : ∃ W0, (ms.map fun q => cmpV (rsI a b d q) 0 * m) = W0 := ⟨_, rfl⟩
  obtain ⟨ps, hps⟩ : ∃ ps, ((List.range fs.length).map fun j => (fs.getD j 0, lnA fs.length (-T) j * r + lnA fs.length (-T) (fs.length - 1 - j) * l)) = ps := ⟨_, rfl⟩
  have hlen0 : W0.length = ms.length := by rw [← hW0, List.length_map]
  have hW : ∀ j, j < ms.length → W0.getD j 0 = cmpV (rsI a b d (ms.getD j (0, 0))) 0 * m := fun j hj => by
    rw [← hW0, List.getD_eq_getElem?_getD, List.getElem?_map, List.getElem?_eq_getElem hj, List.getD_eq_getElem?_getD, List.getElem?_eq_getElem hj]; rfl
  have hfl : fs.length ≤ ms.length := by
    rw [hF.1.length_eq]; exact zeroL_len _ _
  have hnd : (ps.map fun p => p.1.toNat).Nodup := by
    have e1 : (ps.map fun p => p.1.toNat) = fs.map Int.toNat := by
      rw [← hps, List.map_map]
      apply List.ext_getElem?
      intro i
      rw [List.getElem?_map, List.getElem?_map]
      by_cases h : i < fs.length
      · rw [List.getElem?_range h, List.getElem?_eq_getElem h]; simp [List.getElem?_eq_getElem h]
      · rw [List.getElem?_eq_none (by simp; omega), List.getElem?_eq_none (by omega)]; rfl
    rw [e1]
    refine ((hF.1.map Int.toNat).nodup_iff).2 ?_
    unfold zeroL
    rw [List.map_map]
    have : (Int.toNat ∘ Int.ofNat) = id := by funext x; rfl
    rw [this, List.map_id]
    exact (List.filter_sublist).nodup List.nodup_range
  have hat : ∀ p ∈ ps, p.1.toNat < W0.length ∧ W0.getD p.1.toNat 0 = 0 := fun p hp => by
    rw [← hps] at hp
    obtain ⟨j, hj, rfl⟩ := List.mem_map.1 hp
    obtain ⟨k, ek, hk, hk0⟩ := on_mem hF (getD_mem' 0 (List.mem_range.1 hj))
    dsimp only
    rw [ek, Int.toNat_natCast, hlen0]
    exact ⟨hk, by rw [hW k hk, hk0, show cmpV 0 0 = 0 from rfl, Int.zero_mul]⟩
  have hS : ∀ g : Int × Int → Int, sm (fun i => (stW W0 ps).getD i 0 * g (ms.getD i (0, 0))) (List.range ms.length) = m * sm (fun q => cmpV (rsI a b d q) 0 * g q) ms + (r * sm (fun j => lnA fs.length (-T) j * g (ptK ms (fs.getD j 0))) (List.range fs.length) + l * sm (fun j => lnA fs.length (-T) (fs.length - 1 - j) * g (ptK ms (fs.getD j 0))) (List.range fs.length)) := fun g => by
    have h3 := stW_sum ps (fun i => g (ms.getD i (0, 0))) W0 hnd hat
    rw [hlen0] at h3
    rw [h3]
    congr 1
    · rw [← sm_mul, sm_getD _ ms (0, 0)]
      exact sm_congr fun j hj => by rw [hW j (List.mem_range.1 hj)]; grind
    · rw [← sm_mul, ← sm_mul, ← sm_add, ← hps]
      unfold sm
      rw [List.map_map]
      congr 1
      exact List.map_congr_left fun j _ => by simp only [Function.comp, ptK]; grind
  have hwl : (stW W0 ps).length = ms.length := by rw [stW_len, hlen0]
  have hrl : r + l = m := hm.symm
  have hr0 : 0 ≤ r ∧ 0 ≤ l ∧ 0 < r + l := by rw [hr, hl]; split <;> omega
  have hMU : m * U + (r * M + l * L) = 0 := by
    rw [hm, hl, hr]
    split
    · rename_i hz
      have e1 : M = -U := by omega
      have e2 : L = -U := by omega
      rw [e1, e2]; grind
    · grind
  have hxb : ∀ j, j < fs.length → -100 ≤ xK ms fs j ∧ xK ms fs j ≤ 100 := fun j hj => by
    obtain ⟨k, ek, hk, _⟩ := on_mem hF (getD_mem' 0 hj)
    unfold xK ptK
    rw [ek, Int.toNat_natCast]
    exact hX _ (getD_mem' _ hk)
  have hbox : ∀ f : Nat → Int, (∀ j, -1 ≤ f j ∧ f j ≤ 1) → -1200 ≤ sm (fun j => f j * xK ms fs j) (List.range fs.length) ∧ sm (fun j => f j * xK ms fs j) (List.range fs.length) ≤ 1200 := fun f hf => by
    have u : sm (fun j => f j * xK ms fs j) (List.range fs.length) ≤ sm (fun _ => (100 : Int) * 1) (List.range fs.length) := sm_le fun j hj => by
      obtain ⟨x0, x1⟩ := hxb j (List.mem_range.1 hj)
      obtain ⟨f0, f1⟩ := hf j
      rcases (show f j = -1 ∨ f j = 0 ∨ f j = 1 by omega) with h | h | h <;> rw [h] <;> omega
    have v : sm (fun _ => (-100 : Int) * 1) (List.range fs.length) ≤ sm (fun j => f j * xK ms fs j) (List.range fs.length) := sm_le fun j hj => by
      obtain ⟨x0, x1⟩ := hxb j (List.mem_range.1 hj)
      obtain ⟨f0, f1⟩ := hf j
      rcases (show f j = -1 ∨ f j = 0 ∨ f j = 1 by omega) with h | h | h <;> rw [h] <;> omega
    rw [sm_mul, sm_one] at u v
    omega
  have hMb := hbox (lnA fs.length (-T)) (fun j => ln_bd _ _ _)
  have hLb := hbox (fun j => lnA fs.length (-T) (fs.length - 1 - j)) (fun j => ln_bd _ _ _)
  rw [← hM] at hMb
  rw [← hL] at hLb
  have hm1 : 1 ≤ m ∧ m ≤ 10000 := by
    refine ⟨by omega, ?_⟩
    rw [hm, hl, hr]; split <;> omega
  have hsum1 : sm (fun q => cmpV (rsI a b d q) 0 * 1) ms = T := by rw [hT]; exact sm_congr fun q _ => by omega
  have hl1 : sm (fun j => lnA fs.length (-T) j * 1) (List.range fs.length) = -T := (sm_congr fun q _ => by omega).trans (ln_sum h0.1 h0.2)
  have hl2 : sm (fun j => lnA fs.length (-T) (fs.length - 1 - j) * 1) (List.range fs.length) = -T := (sm_congr fun q _ => by omega).trans ((sm_rev (lnA fs.length (-T)) fs.length).trans (ln_sum h0.1 h0.2))
  have s1 := hS (fun _ => 1)
  have s2 := hS (fun q => q.1)
  rw [hsum1, hl1, hl2] at s1
  have hUe : sm (fun q => cmpV (rsI a b d q) 0 * q.1) ms = U := hU.symm
  rw [hUe, show sm (fun j => lnA fs.length (-T) j * (ptK ms (fs.getD j 0)).1) (List.range fs.length) = M from hM.symm, show sm (fun j => lnA fs.length (-T) (fs.length - 1 - j) * (ptK ms (fs.getD j 0)).1) (List.range fs.length) = L from hL.symm, hMU] at s2
  have s1' : sm (fun i => (stW W0 ps).getD i 0 * 1) (List.range ms.length) = 0 := by rw [s1]; grind
  have s3 := hS (rsI a b d)
  have z1 : sm (fun j => lnA fs.length (-T) j * rsI a b d (ptK ms (fs.getD j 0))) (List.range fs.length) = 0 := by
    refine Eq.trans (sm_congr (g := fun _ => 0) fun j hj => ?_) (sm_zero (List.range fs.length))
    obtain ⟨k, ek, hk, hk0⟩ := on_mem hF (getD_mem' 0 (List.mem_range.1 hj))
    unfold ptK
    rw [ek, Int.toNat_natCast, hk0, Int.mul_zero]
  have z2 : sm (fun j => lnA fs.length (-T) (fs.length - 1 - j) * rsI a b d (ptK ms (fs.getD j 0))) (List.range fs.length) = 0 := by
    refine Eq.trans (sm_congr (g := fun _ => 0) fun j hj => ?_) (sm_zero (List.range fs.length))
    obtain ⟨k, ek, hk, hk0⟩ := on_mem hF (getD_mem' 0 (List.mem_range.1 hj))
    unfold ptK
    rw [ek, Int.toNat_natCast, hk0, Int.mul_zero]
  have z3 : sm (fun q => cmpV (rsI a b d q) 0 * rsI a b d q) ms = sumA (ms.map (rsI a b d)) := by
    unfold sumA sm
    rw [List.map_map]
    congr 1
    exact List.map_congr_left fun q _ => sgn_mul _
  rw [z1, z2, z3] at s3
  rw [hW0, hps]
  refine ⟨hwl, hm1, fun w hw => ?_, ?_, ?_, ?_⟩
  · rcases stW_mem hw with h | ⟨p, hp, rfl⟩
    · rw [← hW0] at h
      obtain ⟨q, _, rfl⟩ := List.mem_map.1 h
      rcases sgn_cases (rsI a b d q) with ⟨_, k⟩ | ⟨_, k⟩ | ⟨_, k⟩ <;> rw [k] <;> omega
    · rw [← hps] at hp
      obtain ⟨j, _, rfl⟩ := List.mem_map.1 hp
      dsimp only
      have c1 := ln_bd fs.length (-T) j
      have c2 := ln_bd fs.length (-T) (fs.length - 1 - j)
      rcases (show lnA fs.length (-T) j = -1 ∨ lnA fs.length (-T) j = 0 ∨ lnA fs.length (-T) j = 1 by omega) with h | h | h <;> rcases (show lnA fs.length (-T) (fs.length - 1 - j) = -1 ∨ lnA fs.length (-T) (fs.length - 1 - j) = 0 ∨ lnA fs.length (-T) (fs.length - 1 - j) = 1 by omega) with h' | h' | h' <;> rw [h, h'] <;> omega
  · have := sm_getD (fun z : Int => z * 1) (stW W0 ps) 0
    rw [hwl, s1'] at this
    rw [← this]; unfold sm; simp
  · unfold turL; rw [hwl]; exact s2
  · unfold upL
    rw [hwl, ← Int.add_zero (m * _)]
    have e : sm (fun i => (stW W0 ps).getD i 0 * (ms.getD i (0, 0)).2) (List.range ms.length) * d = sm (fun i => (stW W0 ps).getD i 0 * rsI a b d (ms.getD i (0, 0))) (List.range ms.length) + (a * sm (fun i => (stW W0 ps).getD i 0 * (ms.getD i (0, 0)).1) (List.range ms.length) + b * sm (fun i => (stW W0 ps).getD i 0 * 1) (List.range ms.length)) := by
      rw [Int.mul_comm, ← sm_mul, ← sm_mul, ← sm_mul, ← sm_add, ← sm_add]
      exact sm_congr fun i _ => by unfold rsI; grind
    rw [e, s3, s2, s1']; omega
end Go.Proofs.Ytoilbgngefleiaa
