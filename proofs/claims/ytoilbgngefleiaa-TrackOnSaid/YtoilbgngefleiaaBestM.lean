/-
  The line that is told is among all lines through two of the points one with the least cost; it goes through two of them (plain).
-/
import Derived.Test.YtoilbgngefleiaaDualM
import Derived.Test.YtoilbgngefleiaaCheap
namespace Go.Proofs.Ytoilbgngefleiaa
open Go.RowKit

theorem low_parts (n d : Int) (hd : 0 < d) : ∃ g : Int, 0 < g ∧ n = lowN n d * g ∧ d = lowD n d * g := by
  refine ⟨(Int.gcd n d : Int), gcd_pos hd, ?_, ?_⟩
  · unfold lowN; exact (Int.ediv_mul_cancel (Int.gcd_dvd_left n d)).symm
  · unfold lowD; exact (Int.ediv_mul_cancel (Int.gcd_dvd_right n d)).symm
theorem low_le {c d c' d' : Int} (hd : 0 < d) (hd' : 0 < d') (h : lowN c d * lowD c' d' ≤ lowN c' d' * lowD c d) : c * d' ≤ c' * d := by
  obtain ⟨g, hg, e1, e2⟩ := low_parts c d hd
  obtain ⟨k, hk, e3, e4⟩ := low_parts c' d' hd'
  have := Int.mul_le_mul_of_nonneg_right h (Int.le_of_lt (Int.mul_pos hg hk))
  rw [e1, e3]
  generalize lowN c d = a at *
  generalize lowD c d = b at *
  generalize lowN c' d' = a' at *
  generalize lowD c' d' = b' at *
  rw [e2, e4]
  grind
theorem le_low {c d c' d' : Int} (hd : 0 < d) (hd' : 0 < d') (h : c * d' ≤ c' * d) : lowN c d * lowD c' d' ≤ lowN c' d' * lowD c d := by
  obtain ⟨g, hg, e1, e2⟩ := low_parts c d hd
  obtain ⟨k, hk, e3, e4⟩ := low_parts c' d' hd'
  refine Int.le_of_mul_le_mul_right ?_ (Int.mul_pos hg hk)
  generalize lowN c d = a at *
  generalize lowD c d = b at *
  generalize lowN c' d' = a' at *
  generalize lowD c' d' = b' at *
  subst e1; subst e2; subst e3; subst e4
  grind
theorem cmpT_neg {T : Ln → Int × Int} {x y : Ln} : cmpT T x y < 0 ↔ (T x).1 * (T y).2 < (T y).1 * (T x).2 := by
  unfold cmpT cmpV
  (repeat' split) <;> omega
theorem le_trans3 {a b c : Int × Int} (ha : 0 < a.2) (hb : 0 < b.2) (hc : 0 < c.2) (h1 : a.1 * b.2 ≤ b.1 * a.2) (h2 : b.1 * c.2 ≤ c.1 * b.2) : a.1 * c.2 ≤ c.1 * a.2 := by
  have k1 := Int.mul_le_mul_of_nonneg_right h1 (Int.le_of_lt hc)
  have k2 := Int.mul_le_mul_of_nonneg_right h2 (Int.le_of_lt ha)
  refine Int.le_of_mul_le_mul_right ?_ hb
  grind
theorem fold_least {T : Ln → Int × Int} : ∀ (ls : List Ln) (m : Ln), 0 < (T m).2 → (∀ x ∈ ls, 0 < (T x).2) →
    ∀ x, (x = m ∨ x ∈ ls) → (T (ls.foldl (fun m x => if cmpT T x m < 0 then x else m) m)).1 * (T x).2 ≤ (T x).1 * (T (ls.foldl (fun m x => if cmpT T x m < 0 then x else m) m)).2
  | [], m, _, _, x, hx => by
    rcases hx with rfl | hx
    · exact Int.le_refl _
    · cases hx
  | y :: t, m, hm, hp, x, hx => by
    rw [List.foldl_cons]
    have hy := hp y (by simp)
    have hp' : ∀ x ∈ t, 0 < (T x).2 := fun x hx => hp x (by simp [hx])
    obtain ⟨n, hn⟩ : ∃ n, (if cmpT T y m < 0 then y else m) = n := ⟨_, rfl⟩
    have hnp : 0 < (T n).2 := by rw [← hn]; split <;> assumption
    have hnm : (T n).1 * (T m).2 ≤ (T m).1 * (T n).2 := by
      rw [← hn]; split
      · rename_i h; exact Int.le_of_lt (cmpT_neg.1 h)
      · exact Int.le_refl _
    have hny : (T n).1 * (T y).2 ≤ (T y).1 * (T n).2 := by
      rw [← hn]; split
      · exact Int.le_refl _
      · rename_i h; have := mt cmpT_neg.2 h; omega
    rw [hn]
    have ih := fold_least t n hnp hp'
    have hrp : 0 < (T (t.foldl (fun m x => if cmpT T x m < 0 then x else m) n)).2 := by
      rcases minF_fold (cmpT T) t n with h | h
      · rw [h]; exact hnp
      · exact hp' _ h
    rcases hx with rfl | hx
    · exact le_trans3 hrp hnp hm (ih n (.inl rfl)) hnm
    · rcases List.mem_cons.1 hx with rfl | hx
      · exact le_trans3 hrp hnp hy (ih n (.inl rfl)) hny
      · exact ih x (.inr hx)
theorem minF_least {T : Ln → Int × Int} {ls : List Ln} (h : 0 < ls.length) (hp : ∀ x ∈ ls, 0 < (T x).2) {x : Ln} (hx : x ∈ ls) : (T (minF (cmpT T) ls)).1 * (T x).2 ≤ (T x).1 * (T (minF (cmpT T) ls)).2 := by
  have h0 : ls.getD 0 (0, 0, 0) ∈ ls := getD_mem' _ h
  refine fold_least (ls.drop 1) _ (hp _ h0) (fun y hy => hp y (List.mem_of_mem_drop hy)) x ?_
  cases ls with
  | nil => cases hx
  | cons a t => simpa using hx
theorem th_sym {p q : Int × Int} (h : p.1 ≠ q.1) : thL (p, q) = thL (q, p) := by
  unfold thL thA thB thD
  by_cases c : q.1 < p.1
  · have c2 : ¬ p.1 < q.1 := by omega
    simp [c, c2]
  · have c2 : p.1 < q.1 := by omega
    simp [c, c2]
theorem pairs_in {ms : List (Int × Int)} {p q : Int × Int} (hp : p ∈ ms) (hq : q ∈ ms) (h : p.1 ≠ q.1) : (p, q) ∈ pairsL ms ms.length ∨ (q, p) ∈ pairsL ms ms.length := by
  obtain ⟨i, hi⟩ := List.mem_iff_getElem?.1 hp
  obtain ⟨j, hj⟩ := List.mem_iff_getElem?.1 hq
  have hil := (List.getElem?_eq_some_iff.1 hi).1
  have hjl := (List.getElem?_eq_some_iff.1 hj).1
  have step : ∀ {i j : Nat} {p q : Int × Int}, ms[i]? = some p → ms[j]? = some q → i < j → p.1 ≠ q.1 → (p, q) ∈ pairsL ms ms.length := fun {i j p q} hi hj hij h => by
    refine List.mem_flatMap.2 ⟨j, List.mem_range.2 (List.getElem?_eq_some_iff.1 hj).1, ?_⟩
    rw [List.getD_eq_getElem?_getD, hj, Option.getD_some]
    exact List.mem_map.2 ⟨p, List.mem_filter.2 ⟨List.mem_iff_getElem?.2 ⟨i, by rw [List.getElem?_take_of_lt hij]; exact hi⟩, decide_eq_true h⟩, rfl⟩
  rcases Nat.lt_trichotomy i j with c | c | c
  · exact .inl (step hi hj c h)
  · subst c
    rw [hi] at hj
    cases hj
    exact absurd rfl h
  · exact .inr (step hj hi c (fun e => h e.symm))
theorem up_on {p q : Int × Int} (h : p.1 < q.1) : rsI (upA p q) (upB p q) (upD p q) p = 0 ∧ rsI (upA p q) (upB p q) (upD p q) q = 0 := by
  obtain ⟨g, hg, e1, e2⟩ := low_parts (q.2 - p.2) (q.1 - p.1) (by omega)
  unfold rsI upB upA upD
  generalize lowN (q.2 - p.2) (q.1 - p.1) = a at *
  generalize lowD (q.2 - p.2) (q.1 - p.1) = b at *
  constructor <;> grind
theorem th_on {p q : Int × Int} (h : p.1 ≠ q.1) : 0 < thD p q ∧ rsI (thA p q) (thB p q) (thD p q) p = 0 ∧ rsI (thA p q) (thB p q) (thD p q) q = 0 := by
  unfold thA thB thD
  by_cases c : q.1 < p.1
  · simp only [if_pos c]
    have := up_on c
    exact ⟨by unfold upD; have := lowD_bd (n := p.2 - q.2) (d := p.1 - q.1) (by omega); omega, this.2, this.1⟩
  · simp only [if_neg c]
    have := up_on (p := p) (q := q) (by omega)
    exact ⟨by unfold upD; have := lowD_bd (n := q.2 - p.2) (d := q.1 - p.1) (by omega); omega, this.1, this.2⟩
theorem cost_sm (ms : List (Int × Int)) (a b d : Int) : sm (fun r => absI (rsI a b d r)) ms = costI ms a b d := by
  unfold costI sumA sm
  rw [List.map_map]; rfl
/-- No line through two of the points costs less. -/
theorem che_least {ms : List (Int × Int)} (hv : viP ms = true) {p q : Int × Int} (hp : p ∈ ms) (hq : q ∈ ms) (h : p.1 ≠ q.1) :
    costI ms (cheL ms).1 (cheL ms).2.1 (cheL ms).2.2 * thD p q ≤ costI ms (thA p q) (thB p q) (thD p q) * (cheL ms).2.2 := by
  obtain ⟨_, hpt, _⟩ := vi_parts hv
  have hmem : thL (p, q) ∈ (pairsL ms ms.length).map thL := by
    rcases pairs_in hp hq h with k | k
    · exact List.mem_map.2 ⟨_, k, rfl⟩
    · exact List.mem_map.2 ⟨_, k, (th_sym h).symm⟩
  have hd : ∀ x ∈ (pairsL ms ms.length).map thL, 0 < x.2.2 := fun x hx => by
    obtain ⟨y, hy, rfl⟩ := List.mem_map.1 hx
    have h2 := pairs_mem hy
    have := (th_lnP (hpt _ h2.1) (hpt _ h2.2.1) h2.2.2).2.2
    omega
  have hle := minF_least (T := cosT ms) (by rw [List.length_map]; exact pairs_some hv) (fun x hx => by
    have := lowD_bd (n := costI ms x.1 x.2.1 x.2.2) (d := x.2.2) (hd x hx)
    unfold cosT; dsimp only; omega) hmem
  have h2 := (che_ln hv).2.2
  exact low_le (by omega) (th_on h).1 hle
theorem che_best {ms : List (Int × Int)} (hv : viP ms = true) : BestTh ms (fun p q => thL (p, q)) (cheL ms).1 (cheL ms).2.1 (cheL ms).2.2 := fun p hp q hq h =>
  ⟨th_on h, by rw [cost_sm, cost_sm]; exact che_least hv hp hq h⟩
theorem che_pair {ms : List (Int × Int)} (hv : viP ms = true) : ∃ x ∈ pairsL ms ms.length, thL x = cheL ms := by
  have hm := minF_mem (cmpT (cosT ms)) (ls := (pairsL ms ms.length).map thL) (by rw [List.length_map]; exact pairs_some hv)
  obtain ⟨x, hx, e⟩ := List.mem_map.1 hm
  exact ⟨x, hx, e⟩
theorem che_two {ms : List (Int × Int)} (hv : viP ms = true) : ∃ p ∈ ms, ∃ q ∈ ms, p.1 ≠ q.1 ∧ rsI (cheL ms).1 (cheL ms).2.1 (cheL ms).2.2 p = 0 ∧ rsI (cheL ms).1 (cheL ms).2.1 (cheL ms).2.2 q = 0 := by
  obtain ⟨x, hx, e⟩ := che_pair hv
  have h := pairs_mem hx
  refine ⟨x.1, h.1, x.2, h.2.1, h.2.2, ?_⟩
  rw [← e]
  exact (th_on h.2.2).2
end Go.Proofs.Ytoilbgngefleiaa
