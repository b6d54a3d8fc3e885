/-
  The least width: no witness tells more, and one tells just it (plain).
-/
import Derived.Test.YtoilbgngefleiaaBestM
import Derived.Test.YtoilbgngefleiaaWit
namespace Go.Proofs.Ytoilbgngefleiaa
open Go.RowKit
set_option linter.unusedVariables false
set_option linter.unusedSimpArgs false

theorem foldmax_mem : ∀ (l : List Int) (x : Int), l.foldl max x = x ∨ l.foldl max x ∈ l
  | [], x => .inl rfl
  | y :: t, x => by
    rw [List.foldl_cons]
    rcases foldmax_mem t (max x y) with h | h
    · rw [h]
      rcases Int.le_total x y with c | c
      · rw [Int.max_eq_right c]; exact .inr (by simp)
      · rw [Int.max_eq_left c]; exact .inl rfl
    · exact .inr (List.mem_cons_of_mem _ h)
theorem foldmax_ge : ∀ (l : List Int) (x z : Int), (z = x ∨ z ∈ l) → z ≤ l.foldl max x
  | [], x, z, h => by
    rcases h with rfl | h
    · exact Int.le_refl _
    · cases h
  | y :: t, x, z, h => by
    rw [List.foldl_cons]
    rcases h with rfl | h
    · exact Int.le_trans (Int.le_max_left _ _) (foldmax_ge t _ _ (.inl rfl))
    · rcases List.mem_cons.1 h with rfl | h
      · exact Int.le_trans (Int.le_max_right _ _) (foldmax_ge t _ _ (.inl rfl))
      · exact foldmax_ge t _ z (.inr h)
theorem foldmin_mem : ∀ (l : List Int) (x : Int), l.foldl min x = x ∨ l.foldl min x ∈ l
  | [], x => .inl rfl
  | y :: t, x => by
    rw [List.foldl_cons]
    rcases foldmin_mem t (min x y) with h | h
    · rw [h]
      rcases Int.le_total x y with c | c
      · rw [Int.min_eq_left c]; exact .inl rfl
      · rw [Int.min_eq_right c]; exact .inr (by simp)
    · exact .inr (List.mem_cons_of_mem _ h)
theorem foldmin_le : ∀ (l : List Int) (x z : Int), (z = x ∨ z ∈ l) → l.foldl min x ≤ z
  | [], x, z, h => by
    rcases h with rfl | h
    · exact Int.le_refl _
    · cases h
  | y :: t, x, z, h => by
    rw [List.foldl_cons]
    rcases h with rfl | h
    · exact Int.le_trans (foldmin_le t _ _ (.inl rfl)) (Int.min_le_left _ _)
    · rcases List.mem_cons.1 h with rfl | h
      · exact Int.le_trans (foldmin_le t _ _ (.inl rfl)) (Int.min_le_right _ _)
      · exact foldmin_le t _ z (.inr h)
theorem max_at {ms : List (Int × Int)} (f : Int × Int → Int) (hne : 0 < ms.length) : (∃ u ∈ ms, f u = maxL (ms.map f)) ∧ ∀ q ∈ ms, f q ≤ maxL (ms.map f) := by
  cases ms with
  | nil => simp at hne
  | cons a t =>
    have hd : maxL ((a :: t).map f) = (t.map f).foldl max (f a) := rfl
    rw [hd]
    refine ⟨?_, fun q hq => foldmax_ge _ _ _ ?_⟩
    · rcases foldmax_mem (t.map f) (f a) with h | h
      · exact ⟨a, by simp, h.symm⟩
      · obtain ⟨u, hu, e⟩ := List.mem_map.1 h
        exact ⟨u, by simp [hu], e⟩
    · rcases List.mem_cons.1 hq with rfl | hq
      · exact .inl rfl
      · exact .inr (List.mem_map_of_mem hq)
theorem min_at {ms : List (Int × Int)} (f : Int × Int → Int) (hne : 0 < ms.length) : (∃ u ∈ ms, f u = minL (ms.map f)) ∧ ∀ q ∈ ms, minL (ms.map f) ≤ f q := by
  cases ms with
  | nil => simp at hne
  | cons a t =>
    have hd : minL ((a :: t).map f) = (t.map f).foldl min (f a) := rfl
    rw [hd]
    refine ⟨?_, fun q hq => foldmin_le _ _ _ ?_⟩
    · rcases foldmin_mem (t.map f) (f a) with h | h
      · exact ⟨a, by simp, h.symm⟩
      · obtain ⟨u, hu, e⟩ := List.mem_map.1 h
        exact ⟨u, by simp [hu], e⟩
    · rcases List.mem_cons.1 hq with rfl | hq
      · exact .inl rfl
      · exact .inr (List.mem_map_of_mem hq)
/-- How far apart the rests of a line are. -/
def spn (ms : List (Int × Int)) (a b d : Int) : Int := maxL (ms.map (rsI a b d)) - minL (ms.map (rsI a b d))
def spT (ms : List (Int × Int)) (p q : Int × Int) : Int := spn ms (thA p q) (thB p q) (thD p q)
theorem am_wid {ms : List (Int × Int)} (hne : 0 < ms.length) (p q : Int × Int) : widI ms (amL ms (p, q)).1 (amL ms (p, q)).2.1 (amL ms (p, q)).2.2 = spT ms p q := by
  obtain ⟨⟨u, hu, eu⟩, hmax⟩ := max_at (rsI (thA p q) (thB p q) (thD p q)) hne
  obtain ⟨⟨v, hv, ev⟩, hmin⟩ := min_at (rsI (thA p q) (thB p q) (thD p q)) hne
  have hr : ∀ r, rsI (amL ms (p, q)).1 (amL ms (p, q)).2.1 (amL ms (p, q)).2.2 r = 2 * rsI (thA p q) (thB p q) (thD p q) r - (minL (ms.map (rsI (thA p q) (thB p q) (thD p q))) + maxL (ms.map (rsI (thA p q) (thB p q) (thD p q)))) := fun r => by
    unfold amL rsI; grind
  unfold spT spn
  generalize maxL (ms.map (rsI (thA p q) (thB p q) (thD p q))) = mx at *
  generalize minL (ms.map (rsI (thA p q) (thB p q) (thD p q))) = mn at *
  have h1 := hmax v hv
  unfold widI mostA
  rw [List.map_map]
  have hle : ∀ z ∈ ms.map (absI ∘ rsI (amL ms (p, q)).1 (amL ms (p, q)).2.1 (amL ms (p, q)).2.2), z ≤ mx - mn := fun z hz => by
    obtain ⟨r, hr1, rfl⟩ := List.mem_map.1 hz
    have a1 := hmax r hr1
    have a2 := hmin r hr1
    simp only [Function.comp, hr]
    unfold absI; omega
  have hge : mx - mn ∈ ms.map (absI ∘ rsI (amL ms (p, q)).1 (amL ms (p, q)).2.1 (amL ms (p, q)).2.2) := List.mem_map.2 ⟨u, hu, by
    simp only [Function.comp, hr, eu]
    unfold absI; omega⟩
  have e1 := foldmax_ge _ 0 _ (.inr hge)
  rcases foldmax_mem (ms.map (absI ∘ rsI (amL ms (p, q)).1 (amL ms (p, q)).2.1 (amL ms (p, q)).2.2)) 0 with h | h
  · rw [h] at e1 ⊢; omega
  · have := hle _ h; omega
theorem nar_pair {ms : List (Int × Int)} (hv : viP ms = true) : ∃ p ∈ ms, ∃ q ∈ ms, p.1 ≠ q.1 ∧ narL ms = amL ms (p, q) := by
  have hm := minF_mem (cmpT (widT ms)) (ls := (pairsL ms ms.length).map (amL ms)) (by rw [List.length_map]; exact pairs_some hv)
  obtain ⟨x, hx, e⟩ := List.mem_map.1 hm
  have h := pairs_mem hx
  exact ⟨x.1, h.1, x.2, h.2.1, h.2.2, e.symm⟩
theorem am_sym (ms : List (Int × Int)) {p q : Int × Int} (h : p.1 ≠ q.1) : amL ms (p, q) = amL ms (q, p) := by
  have := th_sym h
  unfold thL at this
  simp only [Prod.mk.injEq] at this
  unfold amL
  rw [this.1, this.2.1, this.2.2]
/-- The strip of the axis is the narrowest one parallel to a line through two points. -/
theorem nar_best {ms : List (Int × Int)} (hv : viP ms = true) : ∃ p ∈ ms, ∃ q ∈ ms, p.1 ≠ q.1 ∧ widT ms (narL ms) = (lowN (spT ms p q) (2 * thD p q), lowD (spT ms p q) (2 * thD p q)) ∧ ∀ r ∈ ms, ∀ s ∈ ms, r.1 ≠ s.1 → spT ms p q * thD r s ≤ spT ms r s * thD p q := by
  obtain ⟨⟨hn1, _⟩, hpt, _⟩ := vi_parts hv
  obtain ⟨p, hp, q, hq, hne, e⟩ := nar_pair hv
  have hl : 0 < ms.length := by omega
  have hw : widT ms (narL ms) = (lowN (spT ms p q) (2 * thD p q), lowD (spT ms p q) (2 * thD p q)) := by
    rw [e, widT, am_wid hl]; rfl
  refine ⟨p, hp, q, hq, hne, hw, fun r hr s hs hrs => ?_⟩
  have hmem : amL ms (r, s) ∈ (pairsL ms ms.length).map (amL ms) := by
    rcases pairs_in hr hs hrs with k | k
    · exact List.mem_map.2 ⟨_, k, rfl⟩
    · exact List.mem_map.2 ⟨_, k, (am_sym ms hrs).symm⟩
  have hle := minF_least (T := widT ms) (by rw [List.length_map]; exact pairs_some hv) (fun x hx => by
    obtain ⟨y, hy, rfl⟩ := List.mem_map.1 hx
    have h2 := pairs_mem hy
    have := (th_on h2.2.2).1
    have := lowD_bd (n := widI ms (amL ms y).1 (amL ms y).2.1 (amL ms y).2.2) (d := (amL ms y).2.2) (by show 0 < 2 * thD y.1 y.2; omega)
    unfold widT; dsimp only; omega) hmem
  change (widT ms (narL ms)).1 * _ ≤ _ * (widT ms (narL ms)).2 at hle
  rw [hw, widT, am_wid hl] at hle
  have d1 := (th_on hne).1
  have d2 := (th_on hrs).1
  have := low_le (show 0 < 2 * thD p q by omega) (show 0 < 2 * thD r s by omega) hle
  have e1 : spT ms p q * (2 * thD r s) = 2 * (spT ms p q * thD r s) := by grind
  have e2 : spT ms r s * (2 * thD p q) = 2 * (spT ms r s * thD p q) := by grind
  omega
theorem low_eq {c d c' d' : Int} (hd : 0 < d) (hd' : 0 < d') (h : c * d' = c' * d) : lowN c d = lowN c' d' ∧ lowD c d = lowD c' d' := by
  have hg := gcd_pos (n := c) hd
  have hg' := gcd_pos (n := c') hd'
  have e0 : (Int.gcd c d : Int) * d' = (Int.gcd c' d' : Int) * d := by
    have h1 : Int.gcd (c * d') (d * d') = Int.gcd c d * d'.natAbs := Int.gcd_mul_right _ _ _
    have h2 : Int.gcd (c' * d) (d' * d) = Int.gcd c' d' * d.natAbs := Int.gcd_mul_right _ _ _
    rw [h, Int.mul_comm d d', h2] at h1
    have : ((Int.gcd c' d' * d.natAbs : Nat) : Int) = ((Int.gcd c d * d'.natAbs : Nat) : Int) := by rw [h1]
    rw [Int.natCast_mul, Int.natCast_mul, Int.natAbs_of_nonneg (Int.le_of_lt hd), Int.natAbs_of_nonneg (Int.le_of_lt hd')] at this
    exact this.symm
  obtain ⟨x, hx⟩ : ∃ x, (Int.gcd c d : Int) = x := ⟨_, rfl⟩
  obtain ⟨y, hy⟩ : ∃ x, (Int.gcd c' d' : Int) = x := ⟨_, rfl⟩
  unfold lowN lowD
  have a1 : (Int.gcd c d : Int) ∣ c := Int.gcd_dvd_left c d
  have a2 : (Int.gcd c d : Int) ∣ d := Int.gcd_dvd_right c d
  have a3 : (Int.gcd c' d' : Int) ∣ c' := Int.gcd_dvd_left c' d'
  have a4 : (Int.gcd c' d' : Int) ∣ d' := Int.gcd_dvd_right c' d'
  rw [hx] at hg e0 a1 a2 ⊢
  rw [hy] at hg' e0 a3 a4 ⊢
  obtain ⟨u, hu⟩ := a1
  obtain ⟨v, hv⟩ := a2
  obtain ⟨s, hs⟩ := a3
  obtain ⟨t, ht⟩ := a4
  have k1 : c / x = u := by rw [hu, Int.mul_ediv_cancel_left _ (by omega)]
  have k2 : d / x = v := by rw [hv, Int.mul_ediv_cancel_left _ (by omega)]
  have k3 : c' / y = s := by rw [hs, Int.mul_ediv_cancel_left _ (by omega)]
  have k4 : d' / y = t := by rw [ht, Int.mul_ediv_cancel_left _ (by omega)]
  rw [k1, k2, k3, k4]
  have hxy : x * y ≠ 0 := Int.mul_ne_zero (by omega) (by omega)
  have e1 : v = t := by
    have : (x * y) * v = (x * y) * t := by rw [hv, ht] at e0; grind
    exact Int.eq_of_mul_eq_mul_left hxy this
  have hd1 : d ≠ 0 := by omega
  refine ⟨?_, e1⟩
  have hv0 : v ≠ 0 := by rintro rfl; rw [Int.mul_zero] at hv; omega
  have : (x * y * v) * u = (x * y * v) * s := by rw [hu, hs, hv, ht, ← e1] at h; grind
  exact Int.eq_of_mul_eq_mul_left (Int.mul_ne_zero hxy hv0) this
/-- The rest of a third point against the line through two others. -/
theorem chord {a b c : Int × Int} {A B D A' B' D' : Int} (h1 : rsI A' B' D' a = 0) (h2 : rsI A' B' D' c = 0) :
    rsI A' B' D' b * D * (c.1 - a.1) = D' * ((c.1 - b.1) * (rsI A B D b - rsI A B D a) + (b.1 - a.1) * (rsI A B D b - rsI A B D c)) := by
  unfold rsI at *
  grind
end Go.Proofs.Ytoilbgngefleiaa
