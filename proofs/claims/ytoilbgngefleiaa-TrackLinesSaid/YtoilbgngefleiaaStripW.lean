/-
  The least width: no witness tells more, and one tells just it (plain).
-/
import Derived.Test.YtoilbgngefleiaaStripM
namespace Go.Proofs.Ytoilbgngefleiaa
open Go.RowKit
set_option linter.unusedVariables false
set_option linter.unusedSimpArgs false

theorem spn_box {ms : List (Int × Int)} (a b d : Int) (hne : 0 < ms.length) {p q : Int × Int} (hp : p ∈ ms) (hq : q ∈ ms) : rsI a b d p - rsI a b d q ≤ spn ms a b d := by
  have h1 := (max_at (rsI a b d) hne).2 p hp
  have h2 := (min_at (rsI a b d) hne).2 q hq
  unfold spn; omega
theorem ptN_mem {ms : List (Int × Int)} {i : Nat} (h : i < ms.length) : ptN ms i ∈ ms := getD_mem' _ h
theorem ptK_N (ms : List (Int × Int)) (i : Nat) : ptK ms (i : Int) = ptN ms i := by unfold ptK ptN; rw [Int.toNat_natCast]
theorem abs_le_of {x y : Int} (h1 : x ≤ y) (h2 : -x ≤ y) : absI x ≤ y := by unfold absI; omega
/-- No witness tells more than half a strip. -/
theorem wit_weak {ms : List (Int × Int)} {A B D : Int} (hD : 0 < D) {l : List Int} (hw : wiB ms l = true) : ∃ c d : Int, 0 < d ∧ tlV ms l = (lowN c d, lowD c d) ∧ c * (2 * D) ≤ spn ms A B D * d := by
  rw [wiB, Bool.and_eq_true] at hw
  obtain ⟨h1, h2⟩ := hw
  by_cases l2 : l.length = 2
  · obtain ⟨a, b, rfl⟩ := len_two l2
    obtain ⟨i, rfl, hi⟩ := inL_mem h1 (show a ∈ [a, b] by simp)
    obtain ⟨j, rfl, hj⟩ := inL_mem h1 (show b ∈ [(i : Int), b] by simp)
    simp only [wiS, Bool.and_eq_true, decide_eq_true_eq, ptK_N] at h2
    refine ⟨absI ((ptN ms i).2 - (ptN ms j).2), 2, by omega, ?_, ?_⟩
    · show tl2 ms (i : Int).toNat (j : Int).toNat = _
      rw [Int.toNat_natCast, Int.toNat_natCast]; rfl
    · have k1 := spn_box A B D (by omega) (ptN_mem hi) (ptN_mem hj)
      have k2 := spn_box A B D (by omega) (ptN_mem hj) (ptN_mem hi)
      have e : ((ptN ms i).2 - (ptN ms j).2) * D = rsI A B D (ptN ms i) - rsI A B D (ptN ms j) := by unfold rsI; rw [h2.2]; grind
      have e2 : absI ((ptN ms i).2 - (ptN ms j).2) * D = absI (((ptN ms i).2 - (ptN ms j).2) * D) := by rw [abs_mul, abs_of (Int.le_of_lt hD)]
      have e3 : absI (((ptN ms i).2 - (ptN ms j).2) * D) ≤ spn ms A B D := by rw [e]; exact abs_le_of k1 (by omega)
      rw [← e2] at e3
      have : absI ((ptN ms i).2 - (ptN ms j).2) * (2 * D) = 2 * (absI ((ptN ms i).2 - (ptN ms j).2) * D) := by grind
      omega
  · by_cases l3 : l.length = 3
    · obtain ⟨a, b, d, rfl⟩ := len_three l3
      obtain ⟨i, rfl, hi⟩ := inL_mem h1 (show a ∈ [a, b, d] by simp)
      obtain ⟨j, rfl, hj⟩ := inL_mem h1 (show b ∈ [(i : Int), b, d] by simp)
      obtain ⟨k, rfl, hk⟩ := inL_mem h1 (show d ∈ [(i : Int), (j : Int), d] by simp)
      simp only [wiS, Bool.and_eq_true, decide_eq_true_eq, ptK_N] at h2
      have hne : (ptN ms i).1 ≠ (ptN ms k).1 := by omega
      obtain ⟨hD', z1, z2⟩ := th_on hne
      refine ⟨tl3R ms i j k, 2 * thD (ptN ms i) (ptN ms k), by omega, ?_, ?_⟩
      · show tl3 ms (i : Int).toNat (j : Int).toNat (k : Int).toNat = _
        rw [Int.toNat_natCast, Int.toNat_natCast, Int.toNat_natCast]; rfl
      · have hc := chord (A := A) (B := B) (D := D) (b := ptN ms j) z1 z2
        unfold tl3R
        obtain ⟨R, hR⟩ : ∃ z, rsI (thA (ptN ms i) (ptN ms k)) (thB (ptN ms i) (ptN ms k)) (thD (ptN ms i) (ptN ms k)) (ptN ms j) = z := ⟨_, rfl⟩
        obtain ⟨D', hDD⟩ : ∃ z, thD (ptN ms i) (ptN ms k) = z := ⟨_, rfl⟩
        rw [hDD] at hc hD' hR ⊢
        rw [hR] at hc ⊢
        have b1 := spn_box A B D (by omega) (ptN_mem hj) (ptN_mem hi)
        have b2 := spn_box A B D (by omega) (ptN_mem hi) (ptN_mem hj)
        have b3 := spn_box A B D (by omega) (ptN_mem hj) (ptN_mem hk)
        have b4 := spn_box A B D (by omega) (ptN_mem hk) (ptN_mem hj)
        obtain ⟨u, hu⟩ : ∃ u, (ptN ms k).1 - (ptN ms j).1 = u := ⟨_, rfl⟩
        obtain ⟨v, hv⟩ : ∃ u, (ptN ms j).1 - (ptN ms i).1 = u := ⟨_, rfl⟩
        have huv : (ptN ms k).1 - (ptN ms i).1 = u + v := by omega
        rw [hu, hv, huv] at hc
        have hu0 : 0 < u := by omega
        have hv0 : 0 < v := by omega
        generalize spn ms A B D = V at *
        generalize rsI A B D (ptN ms i) = ra at *
        generalize rsI A B D (ptN ms j) = rb at *
        generalize rsI A B D (ptN ms k) = rc at *
        have up : R * D ≤ D' * V := by
          have x1 := Int.mul_le_mul_of_nonneg_left (show rb - ra ≤ V by omega) (Int.le_of_lt hu0)
          have x2 := Int.mul_le_mul_of_nonneg_left (show rb - rc ≤ V by omega) (Int.le_of_lt hv0)
          have x3 := Int.mul_le_mul_of_nonneg_left (Int.add_le_add x1 x2) (Int.le_of_lt hD')
          refine Int.le_of_mul_le_mul_right ?_ (show 0 < u + v by omega)
          rw [hc]
          have : D' * (u * V + v * V) = D' * V * (u + v) := by grind
          omega
        have dn : -(R * D) ≤ D' * V := by
          have x1 := Int.mul_le_mul_of_nonneg_left (show -(rb - ra) ≤ V by omega) (Int.le_of_lt hu0)
          have x2 := Int.mul_le_mul_of_nonneg_left (show -(rb - rc) ≤ V by omega) (Int.le_of_lt hv0)
          have x3 := Int.mul_le_mul_of_nonneg_left (Int.add_le_add x1 x2) (Int.le_of_lt hD')
          refine Int.le_of_mul_le_mul_right ?_ (show 0 < u + v by omega)
          have e1 : -(R * D) * (u + v) = -(R * D * (u + v)) := by grind
          have e2 : D' * V * (u + v) = D' * (u * V + v * V) := by grind
          have e3 : D' * (u * -(rb - ra) + v * -(rb - rc)) = -(D' * (u * (rb - ra) + v * (rb - rc))) := by grind
          rw [e1, hc, e2]; omega
        have ha : absI R * D ≤ D' * V := by
          have : absI R * D = absI (R * D) := by rw [abs_mul, abs_of (Int.le_of_lt hD)]
          rw [this]; exact abs_le_of up dn
        have e4 : absI R * (2 * D) = 2 * (absI R * D) := by grind
        have e5 : V * (2 * D') = 2 * (D' * V) := by grind
        omega
    · rw [wiS_other l2 l3] at h2; cases h2
theorem inL_two {ms : List (Int × Int)} {i j : Nat} (hi : i < ms.length) (hj : j < ms.length) : inL ms [(i : Int), (j : Int)] = true := by simp [inL]; omega
theorem inL_three {ms : List (Int × Int)} {i j k : Nat} (hi : i < ms.length) (hj : j < ms.length) (hk : k < ms.length) : inL ms [(i : Int), (j : Int), (k : Int)] = true := by simp [inL]; omega
theorem wit_two {ms : List (Int × Int)} {i j : Nat} {D V : Int} (hD : 0 < D) (hi : i < ms.length) (hj : j < ms.length) (hij : i ≠ j) (hX : (ptN ms i).1 = (ptN ms j).1) (hV : absI ((ptN ms i).2 - (ptN ms j).2) * D = V) :
    wiB ms [(i : Int), (j : Int)] = true ∧ tlV ms [(i : Int), (j : Int)] = (lowN V (2 * D), lowD V (2 * D)) := by
  refine ⟨?_, ?_⟩
  · rw [wiB, inL_two hi hj, wiS, ptK_N, ptK_N, decide_eq_true hX, decide_eq_true (by omega)]; rfl
  · show tl2 ms (i : Int).toNat (j : Int).toNat = _
    rw [Int.toNat_natCast, Int.toNat_natCast, tl2]
    have := low_eq (c := absI ((ptN ms i).2 - (ptN ms j).2)) (d := 2) (c' := V) (d' := 2 * D) (by omega) (by omega) (by rw [← hV]; grind)
    rw [this.1, this.2]
theorem wit_three {ms : List (Int × Int)} {i j k : Nat} {D V : Int} (hD : 0 < D) (hi : i < ms.length) (hj : j < ms.length) (hk : k < ms.length) (h1 : (ptN ms i).1 < (ptN ms j).1) (h2 : (ptN ms j).1 < (ptN ms k).1) (hV : tl3R ms i j k * D = thD (ptN ms i) (ptN ms k) * V) :
    wiB ms [(i : Int), (j : Int), (k : Int)] = true ∧ tlV ms [(i : Int), (j : Int), (k : Int)] = (lowN V (2 * D), lowD V (2 * D)) := by
  have hD' := (th_on (show (ptN ms i).1 ≠ (ptN ms k).1 by omega)).1
  refine ⟨?_, ?_⟩
  · rw [wiB, inL_three hi hj hk, wiS, ptK_N, ptK_N, ptK_N, decide_eq_true h1, decide_eq_true h2]; rfl
  · show tl3 ms (i : Int).toNat (j : Int).toNat (k : Int).toNat = _
    rw [Int.toNat_natCast, Int.toNat_natCast, Int.toNat_natCast, tl3]
    have := low_eq (c := tl3R ms i j k) (d := 2 * thD (ptN ms i) (ptN ms k)) (c' := V) (d' := 2 * D) (by omega) (by omega) (by
      have e : tl3R ms i j k * (2 * D) = 2 * (tl3R ms i j k * D) := by grind
      rw [e, hV]; grind)
    rw [this.1, this.2]
theorem idx_of {ms : List (Int × Int)} {p : Int × Int} (h : p ∈ ms) : ∃ i, i < ms.length ∧ ptN ms i = p := by
  obtain ⟨i, hi, e⟩ := List.getElem_of_mem h
  exact ⟨i, hi, by unfold ptN; rw [List.getD_eq_getElem?_getD, List.getElem?_eq_getElem hi, ← e]; rfl⟩
/-- Three points by turns on the two sides. -/
theorem alt_three {ms : List (Int × Int)} {A B D V : Int} (hD : 0 < D) (hV : 0 ≤ V) {a b c : Int × Int} (ha : a ∈ ms) (hb : b ∈ ms) (hc : c ∈ ms) (h1 : a.1 < b.1) (h2 : b.1 < c.1)
    (hr : (rsI A B D b - rsI A B D a = V ∧ rsI A B D b - rsI A B D c = V) ∨ (rsI A B D b - rsI A B D a = -V ∧ rsI A B D b - rsI A B D c = -V)) :
    ∃ l, wiB ms l = true ∧ tlV ms l = (lowN V (2 * D), lowD V (2 * D)) := by
  obtain ⟨i, hi, ei⟩ := idx_of ha
  obtain ⟨j, hj, ej⟩ := idx_of hb
  obtain ⟨k, hk, ek⟩ := idx_of hc
  refine ⟨[(i : Int), (j : Int), (k : Int)], wit_three hD hi hj hk (by rw [ei, ej]; exact h1) (by rw [ej, ek]; exact h2) ?_⟩
  unfold tl3R
  rw [ei, ej, ek]
  obtain ⟨hD', z1, z2⟩ := th_on (show a.1 ≠ c.1 by omega)
  have hch := chord (A := A) (B := B) (D := D) (b := b) z1 z2
  generalize rsI (thA a c) (thB a c) (thD a c) b = R at *
  generalize thD a c = D' at *
  have hca : 0 < c.1 - a.1 := by omega
  have hRD : R * D = D' * V ∨ R * D = -(D' * V) := by
    rcases hr with ⟨r1, r2⟩ | ⟨r1, r2⟩
    · refine .inl (Int.eq_of_mul_eq_mul_right (show c.1 - a.1 ≠ 0 by omega) ?_)
      rw [hch, r1, r2]; grind
    · refine .inr (Int.eq_of_mul_eq_mul_right (show c.1 - a.1 ≠ 0 by omega) ?_)
      rw [hch, r1, r2]; grind
  have e : absI R * D = absI (R * D) := by rw [abs_mul, abs_of (Int.le_of_lt hD)]
  have hp : 0 ≤ D' * V := Int.mul_nonneg (Int.le_of_lt hD') hV
  rw [e]
  rcases hRD with h | h <;> rw [h] <;> unfold absI <;> omega
/-- The strip of a best pair is told by a witness, if it is wide. -/
theorem strong_pos {ms : List (Int × Int)} {A B D : Int} (hD : 0 < D) (hne : 0 < ms.length) (hV : 0 < spn ms A B D) (hb : ∀ r ∈ ms, ∀ s ∈ ms, r.1 ≠ s.1 → spn ms A B D * thD r s ≤ spT ms r s * D) :
    ∃ l, wiB ms l = true ∧ tlV ms l = (lowN (spn ms A B D) (2 * D), lowD (spn ms A B D) (2 * D)) := by
  obtain ⟨⟨t0, ht0, et0⟩, hmax⟩ := max_at (rsI A B D) hne
  obtain ⟨⟨b0, hb0, eb0⟩, hmin⟩ := min_at (rsI A B D) hne
  obtain ⟨mx, hmx⟩ : ∃ z, maxL (ms.map (rsI A B D)) = z := ⟨_, rfl⟩
  obtain ⟨mn, hmn⟩ : ∃ z, minL (ms.map (rsI A B D)) = z := ⟨_, rfl⟩
  obtain ⟨V, hVV⟩ : ∃ z, spn ms A B D = z := ⟨_, rfl⟩
  have hVm : V = mx - mn := by rw [← hVV, spn, hmx, hmn]
  rw [hVV] at hV hb ⊢
  rw [hmx] at et0 hmax
  rw [hmn] at eb0 hmin
  clear hmx hmn hVV
  by_cases hA : ∃ t ∈ ms, ∃ b ∈ ms, rsI A B D t = mx ∧ rsI A B D b = mn ∧ t.1 = b.1
  · obtain ⟨t, ht, b, hbm, h1, h2, h3⟩ := hA
    obtain ⟨i, hi, ei⟩ := idx_of ht
    obtain ⟨j, hj, ej⟩ := idx_of hbm
    have hij : i ≠ j := by rintro rfl; rw [ei] at ej; subst ej; omega
    refine ⟨_, wit_two hD hi hj hij (by rw [ei, ej]; exact h3) ?_⟩
    rw [ei, ej]
    have e : (t.2 - b.2) * D = V := by
      have : (t.2 - b.2) * D = rsI A B D t - rsI A B D b := by unfold rsI; rw [h3]; grind
      rw [this]; omega
    have : absI (t.2 - b.2) * D = absI ((t.2 - b.2) * D) := by rw [abs_mul, abs_of (Int.le_of_lt hD)]
    rw [this, e]; unfold absI; omega
  · by_cases hB : ∃ a ∈ ms, ∃ b ∈ ms, ∃ c ∈ ms, a.1 < b.1 ∧ b.1 < c.1 ∧ ((rsI A B D a = mx ∧ rsI A B D b = mn ∧ rsI A B D c = mx) ∨ (rsI A B D a = mn ∧ rsI A B D b = mx ∧ rsI A B D c = mn))
    · obtain ⟨a, ha, b, hb1, c, hc, h1, h2, h3⟩ := hB
      exact alt_three (A := A) (B := B) hD (by omega) ha hb1 hc h1 h2 (by
        rcases h3 with ⟨x, y, z⟩ | ⟨x, y, z⟩
        · exact .inr ⟨by omega, by omega⟩
        · exact .inl ⟨by omega, by omega⟩)
    · exfalso
      have hAn : ∀ t ∈ ms, ∀ b ∈ ms, rsI A B D t = mx → rsI A B D b = mn → t.1 ≠ b.1 := fun t ht b hbm h1 h2 h3 => hA ⟨t, ht, b, hbm, h1, h2, h3⟩
      have hB1 : ∀ a ∈ ms, ∀ b ∈ ms, ∀ c ∈ ms, a.1 < b.1 → b.1 < c.1 → rsI A B D a = mx → rsI A B D b = mn → rsI A B D c = mx → False := fun a ha b hb1 c hc h1 h2 x y z => hB ⟨a, ha, b, hb1, c, hc, h1, h2, .inl ⟨x, y, z⟩⟩
      have hB2 : ∀ a ∈ ms, ∀ b ∈ ms, ∀ c ∈ ms, a.1 < b.1 → b.1 < c.1 → rsI A B D a = mn → rsI A B D b = mx → rsI A B D c = mn → False := fun a ha b hb1 c hc h1 h2 x y z => hB ⟨a, ha, b, hb1, c, hc, h1, h2, .inr ⟨x, y, z⟩⟩
      obtain ⟨σ, hσ, hsep⟩ : ∃ σ : Int, (σ = 1 ∨ σ = -1) ∧ ∀ t ∈ ms, ∀ b ∈ ms, rsI A B D t = mx → rsI A B D b = mn → 0 < σ * (t.1 - b.1) := by
        have h0 := hAn t0 ht0 b0 hb0 et0 eb0
        by_cases hlt : b0.1 < t0.1
        · refine ⟨1, .inl rfl, fun t ht b hbm h1 h2 => ?_⟩
          have := hAn t ht b hbm h1 h2
          have h3 := hAn t0 ht0 b hbm et0 h2
          rcases Int.lt_or_gt_of_ne this with h | h
          · exfalso
            rcases Int.lt_or_gt_of_ne h3 with k | k
            · exact hB2 b0 hb0 t0 ht0 b hbm hlt k eb0 et0 h2
            · exact hB1 t ht b hbm t0 ht0 h k h1 h2 et0
          · omega
        · refine ⟨-1, .inr rfl, fun t ht b hbm h1 h2 => ?_⟩
          have := hAn t ht b hbm h1 h2
          have h3 := hAn t0 ht0 b hbm et0 h2
          rcases Int.lt_or_gt_of_ne this with h | h
          · omega
          · exfalso
            rcases Int.lt_or_gt_of_ne h3 with k | k
            · exact hB1 t0 ht0 b hbm t ht k h et0 h2 h1
            · exact hB2 b hbm t0 ht0 b0 hb0 k (by omega) h2 et0 eb0
      clear hA hB hAn hB1 hB2
      -- the outermost points of the two sides
      obtain ⟨ts, hts, htm⟩ := least_quo (f := fun q : Int × Int => σ * q.1) (g := fun _ => 1) (l := ms.filter fun q => decide (rsI A B D q = mx)) (fun _ _ => by omega) (fun h => by
        have : t0 ∈ ms.filter fun q => decide (rsI A B D q = mx) := List.mem_filter.2 ⟨ht0, by simpa using et0⟩
        rw [h] at this; cases this)
      obtain ⟨bs, hbs, hbm⟩ := least_quo (f := fun q : Int × Int => -(σ * q.1)) (g := fun _ => 1) (l := ms.filter fun q => decide (rsI A B D q = mn)) (fun _ _ => by omega) (fun h => by
        have : b0 ∈ ms.filter fun q => decide (rsI A B D q = mn) := List.mem_filter.2 ⟨hb0, by simpa using eb0⟩
        rw [h] at this; cases this)
      obtain ⟨hts1, hts2⟩ := List.mem_filter.1 hts
      obtain ⟨hbs1, hbs2⟩ := List.mem_filter.1 hbs
      have ets : rsI A B D ts = mx := by simpa using hts2
      have ebs : rsI A B D bs = mn := by simpa using hbs2
      have htop : ∀ q ∈ ms, σ * q.1 < σ * ts.1 → rsI A B D q < mx := fun q hq h => by
        have h1 := hmax q hq
        rcases Int.lt_or_eq_of_le h1 with h2 | h2
        · exact h2
        · have := htm q (List.mem_filter.2 ⟨hq, by simpa using h2⟩)
          omega
      have hbot : ∀ q ∈ ms, σ * bs.1 < σ * q.1 → mn < rsI A B D q := fun q hq h => by
        have h1 := hmin q hq
        rcases Int.lt_or_eq_of_le h1 with h2 | h2
        · exact h2
        · have := hbm q (List.mem_filter.2 ⟨hq, by simpa using h2.symm⟩)
          omega
      have hδ := hsep ts hts1 bs hbs1 ets ebs
      have hδ2 : σ * (ts.1 - bs.1) = σ * ts.1 - σ * bs.1 := by grind
      -- the first point that the turned strip meets
      obtain ⟨L, hL⟩ : ∃ L : List ((Int × Int) × ((Int × Int) × (Int × Int))), L = (ms.filter fun q => decide (σ * q.1 < σ * ts.1)).map (fun q => ((mx - rsI A B D q, σ * ts.1 - σ * q.1), (ts, q))) ++ (ms.filter fun q => decide (σ * bs.1 < σ * q.1)).map (fun q => ((rsI A B D q - mn, σ * q.1 - σ * bs.1), (bs, q))) := ⟨_, rfl⟩
      have hin1 : ∀ q ∈ ms, σ * q.1 < σ * ts.1 → ((mx - rsI A B D q, σ * ts.1 - σ * q.1), (ts, q)) ∈ L := fun q hq h => by
        rw [hL]; exact List.mem_append_left _ (List.mem_map.2 ⟨q, List.mem_filter.2 ⟨hq, decide_eq_true h⟩, rfl⟩)
      have hin2 : ∀ q ∈ ms, σ * bs.1 < σ * q.1 → ((rsI A B D q - mn, σ * q.1 - σ * bs.1), (bs, q)) ∈ L := fun q hq h => by
        rw [hL]; exact List.mem_append_right _ (List.mem_map.2 ⟨q, List.mem_filter.2 ⟨hq, decide_eq_true h⟩, rfl⟩)
      have hprop : ∀ x ∈ L, 0 < x.1.1 ∧ 0 < x.1.2 ∧ x.2.1 ∈ ms ∧ x.2.2 ∈ ms ∧ x.2.1.1 ≠ x.2.2.1 ∧ x.1.2 * (rsI A B D x.2.1 - rsI A B D x.2.2) = x.1.1 * (σ * x.2.1.1 - σ * x.2.2.1) := fun x hx => by
        rw [hL] at hx
        rcases List.mem_append.1 hx with h | h
        · obtain ⟨q, hq, rfl⟩ := List.mem_map.1 h
          obtain ⟨q1, q2⟩ := List.mem_filter.1 hq
          have q2 := of_decide_eq_true q2
          have := htop q q1 q2
          exact ⟨by dsimp only; omega, by dsimp only; omega, hts1, q1, fun e => by dsimp only at e; rw [e] at q2; omega, by dsimp only; rw [ets]; grind⟩
        · obtain ⟨q, hq, rfl⟩ := List.mem_map.1 h
          obtain ⟨q1, q2⟩ := List.mem_filter.1 hq
          have q2 := of_decide_eq_true q2
          have := hbot q q1 q2
          exact ⟨by dsimp only; omega, by dsimp only; omega, hbs1, q1, fun e => by dsimp only at e; rw [e] at q2; omega, by dsimp only; rw [ebs]; grind⟩
      obtain ⟨x, hx, hxm⟩ := least_quo (f := fun x : (Int × Int) × ((Int × Int) × (Int × Int)) => x.1.1) (g := fun x => x.1.2) (l := L) (fun x hx => (hprop x hx).2.1) (fun h => by
        have := hin1 bs hbs1 (by omega)
        rw [h] at this; cases this)
      obtain ⟨hn0, hm0, hz, hi, hne2, hzi⟩ := hprop x hx
      obtain ⟨⟨n, m⟩, ⟨z, i⟩⟩ := x
      dsimp only at hn0 hm0 hz hi hne2 hzi hxm
      have hup : ∀ q ∈ ms, m * rsI A B D q - n * (σ * q.1) ≤ m * mx - n * (σ * ts.1) := fun q hq => by
        by_cases h : σ * q.1 < σ * ts.1
        · have := hxm _ (hin1 q hq h)
          dsimp only at this
          grind
        · have h1 := Int.mul_nonneg (Int.le_of_lt hm0) (show 0 ≤ mx - rsI A B D q by have := hmax q hq; omega)
          have h2 := Int.mul_nonneg (Int.le_of_lt hn0) (show 0 ≤ σ * q.1 - σ * ts.1 by omega)
          grind
      have hdn : ∀ q ∈ ms, m * mn - n * (σ * bs.1) ≤ m * rsI A B D q - n * (σ * q.1) := fun q hq => by
        by_cases h : σ * bs.1 < σ * q.1
        · have := hxm _ (hin2 q hq h)
          dsimp only at this
          grind
        · have h1 := Int.mul_nonneg (Int.le_of_lt hm0) (show 0 ≤ rsI A B D q - mn by have := hmin q hq; omega)
          have h2 := Int.mul_nonneg (Int.le_of_lt hn0) (show 0 ≤ σ * bs.1 - σ * q.1 by omega)
          grind
      obtain ⟨hD', z1, z2⟩ := th_on hne2
      have hR : ∀ q, rsI (A * m + n * σ) (B * m + (m * rsI A B D z - n * (σ * z.1))) (D * m) q = (m * rsI A B D q - n * (σ * q.1)) - (m * rsI A B D z - n * (σ * z.1)) := fun q => by unfold rsI; grind
      have hRz : rsI (A * m + n * σ) (B * m + (m * rsI A B D z - n * (σ * z.1))) (D * m) z = 0 := by rw [hR]; omega
      have hRi : rsI (A * m + n * σ) (B * m + (m * rsI A B D z - n * (σ * z.1))) (D * m) i = 0 := by rw [hR]; grind
      have hsame := lines_same hne2 z1 z2 hRz hRi
      have hbz := hb z hz i hi hne2
      obtain ⟨⟨u, hu, eu⟩, _⟩ := max_at (rsI (thA z i) (thB z i) (thD z i)) hne
      obtain ⟨⟨v, hv, ev⟩, _⟩ := min_at (rsI (thA z i) (thB z i) (thD z i)) hne
      have hsp : spT ms z i = rsI (thA z i) (thB z i) (thD z i) u - rsI (thA z i) (thB z i) (thD z i) v := by rw [spT, spn, eu, ev]
      have hsu := hsame u
      have hsv := hsame v
      rw [hR] at hsu hsv
      have h1 := hup u hu
      have h2 := hdn v hv
      rw [hsp] at hbz
      generalize rsI (thA z i) (thB z i) (thD z i) u = ru at *
      generalize rsI (thA z i) (thB z i) (thD z i) v = rv at *
      generalize thD z i = D' at *
      generalize m * rsI A B D u - n * (σ * u.1) = Ru at *
      generalize m * rsI A B D v - n * (σ * v.1) = Rv at *
      generalize m * rsI A B D z - n * (σ * z.1) = Rz at *
      have h3 : (ru - rv) * (D * m) = D' * (Ru - Rv) := by grind
      have h4 : Ru - Rv ≤ m * V - n * (σ * (ts.1 - bs.1)) := by rw [hVm, hδ2]; grind
      have h5 := Int.mul_pos hn0 hδ
      have h6 : D' * (Ru - Rv) < D' * (m * V) := Int.mul_lt_mul_of_pos_left (by omega) hD'
      have h7 := Int.mul_le_mul_of_nonneg_right hbz (Int.le_of_lt hm0)
      have e1 : (ru - rv) * D * m = (ru - rv) * (D * m) := by grind
      have e2 : V * D' * m = D' * (m * V) := by grind
      omega
/-- The same for points on one line, of which there are three at least. -/
theorem strong_zero {ms : List (Int × Int)} {A B D : Int} (hD : 0 < D) (h3 : 3 ≤ ms.length) (hV : spn ms A B D = 0) :
    ∃ l, wiB ms l = true ∧ tlV ms l = (lowN 0 (2 * D), lowD 0 (2 * D)) := by
  have hsame : ∀ p ∈ ms, ∀ q ∈ ms, rsI A B D p = rsI A B D q := fun p hp q hq => by
    have h1 := spn_box A B D (by omega) hp hq
    have h2 := spn_box A B D (by omega) hq hp
    omega
  have two : ∀ i j, i < ms.length → j < ms.length → i ≠ j → (ptN ms i).1 = (ptN ms j).1 → ∃ l, wiB ms l = true ∧ tlV ms l = (lowN 0 (2 * D), lowD 0 (2 * D)) := fun i j hi hj hij hX => by
    refine ⟨_, wit_two hD hi hj hij hX ?_⟩
    have : ((ptN ms i).2 - (ptN ms j).2) * D = 0 := by
      have e := hsame _ (ptN_mem hi) _ (ptN_mem hj)
      unfold rsI at e
      rw [hX] at e
      grind
    rcases Int.mul_eq_zero.1 this with h | h
    · rw [h]; simp [absI]
    · omega
  have three : ∀ i j k, i < ms.length → j < ms.length → k < ms.length → (ptN ms i).1 < (ptN ms j).1 → (ptN ms j).1 < (ptN ms k).1 → ∃ l, wiB ms l = true ∧ tlV ms l = (lowN 0 (2 * D), lowD 0 (2 * D)) := fun i j k hi hj hk a b =>
    alt_three (V := 0) (A := A) (B := B) hD (Int.le_refl _) (ptN_mem hi) (ptN_mem hj) (ptN_mem hk) a b (.inl ⟨by rw [hsame _ (ptN_mem hj) _ (ptN_mem hi)]; omega, by rw [hsame _ (ptN_mem hj) _ (ptN_mem hk)]; omega⟩)
  have i0 : 0 < ms.length := by omega
  have i1 : 1 < ms.length := by omega
  have i2 : 2 < ms.length := by omega
  rcases Int.lt_trichotomy (ptN ms 0).1 (ptN ms 1).1 with a | a | a
  · rcases Int.lt_trichotomy (ptN ms 1).1 (ptN ms 2).1 with b | b | b
    · exact three 0 1 2 i0 i1 i2 a b
    · exact two 1 2 i1 i2 (by omega) b
    · rcases Int.lt_trichotomy (ptN ms 0).1 (ptN ms 2).1 with c | c | c
      · exact three 0 2 1 i0 i2 i1 c b
      · exact two 0 2 i0 i2 (by omega) c
      · exact three 2 0 1 i2 i0 i1 c a
  · exact two 0 1 i0 i1 (by omega) a
  · rcases Int.lt_trichotomy (ptN ms 0).1 (ptN ms 2).1 with b | b | b
    · exact three 1 0 2 i1 i0 i2 a b
    · exact two 0 2 i0 i2 (by omega) b
    · rcases Int.lt_trichotomy (ptN ms 1).1 (ptN ms 2).1 with c | c | c
      · exact three 1 2 0 i1 i2 i0 c b
      · exact two 1 2 i1 i2 (by omega) c
      · exact three 2 1 0 i2 i1 i0 c a
/-- The least width. -/
def nrV (ms : List (Int × Int)) : Int × Int := widT ms (narL ms)
theorem nar_weak {ms : List (Int × Int)} (hv : viP ms = true) {l : List Int} (hw : wiB ms l = true) : (tlV ms l).1 * (nrV ms).2 ≤ (nrV ms).1 * (tlV ms l).2 := by
  obtain ⟨p, hp, q, hq, hne, e, _⟩ := nar_best hv
  have hD := (th_on hne).1
  obtain ⟨c, d, hd, e2, h⟩ := wit_weak (A := thA p q) (B := thB p q) (D := thD p q) hD hw
  rw [nrV, e, e2]
  exact le_low hd (by omega) h
theorem nar_strong {ms : List (Int × Int)} (hv : viP ms = true) (h3 : 3 ≤ ms.length) : ∃ l, wiB ms l = true ∧ tlV ms l = nrV ms := by
  obtain ⟨p, hp, q, hq, hne, e, hb⟩ := nar_best hv
  have hD := (th_on hne).1
  have hge : 0 ≤ spT ms p q := by
    have := spn_box (thA p q) (thB p q) (thD p q) (by omega) hp hp
    unfold spT; omega
  rw [nrV, e]
  rcases Int.lt_or_eq_of_le hge with h | h
  · exact strong_pos hD (by omega) h hb
  · have := strong_zero (A := thA p q) (B := thB p q) hD h3 h.symm
    rw [show spT ms p q = 0 from h.symm]
    exact this
theorem nar_two {ms : List (Int × Int)} (hv : viP ms = true) (h2 : ms.length = 2) : nrV ms = (0, 1) ∧ ∀ l, wiB ms l = false := by
  obtain ⟨p, hp, q, hq, hne, e, hb⟩ := nar_best hv
  obtain ⟨hD, z1, z2⟩ := th_on hne
  match ms, h2 with
  | [a, b], _ =>
    have hpq : (p = a ∧ q = b) ∨ (p = b ∧ q = a) := by
      simp only [List.mem_cons, List.not_mem_nil, or_false] at hp hq
      rcases hp with rfl | rfl <;> rcases hq with rfl | rfl
      · exact absurd rfl hne
      · exact .inl ⟨rfl, rfl⟩
      · exact .inr ⟨rfl, rfl⟩
      · exact absurd rfl hne
    have hab : a.1 ≠ b.1 := by
      rcases hpq with ⟨rfl, rfl⟩ | ⟨rfl, rfl⟩
      · exact hne
      · exact fun h => hne h.symm
    have hsp : spT [a, b] p q = 0 := by
      have ra : rsI (thA p q) (thB p q) (thD p q) a = 0 := by
        rcases hpq with ⟨rfl, rfl⟩ | ⟨rfl, rfl⟩
        · exact z1
        · exact z2
      have rb : rsI (thA p q) (thB p q) (thD p q) b = 0 := by
        rcases hpq with ⟨rfl, rfl⟩ | ⟨rfl, rfl⟩
        · exact z2
        · exact z1
      simp [spT, spn, maxL, minL, ra, rb]
    refine ⟨?_, fun l => ?_⟩
    · rw [nrV, e, hsp]
      have := low_eq (c := 0) (d := 2 * thD p q) (c' := 0) (d' := 1) (by omega) (by omega) (by omega)
      rw [this.1, this.2]; rfl
    · cases hw : wiB [a, b] l with
      | false => rfl
      | true =>
        exfalso
        rw [wiB, Bool.and_eq_true] at hw
        obtain ⟨h1, h2⟩ := hw
        have hx : ∀ j : Nat, j < 2 → ptN [a, b] j = a ∨ ptN [a, b] j = b := fun j hj => by
          rcases (show j = 0 ∨ j = 1 by omega) with rfl | rfl
          · exact .inl rfl
          · exact .inr rfl
        by_cases l2 : l.length = 2
        · obtain ⟨x, y, rfl⟩ := len_two l2
          obtain ⟨i, rfl, hi⟩ := inL_mem h1 (show x ∈ [x, y] by simp)
          obtain ⟨j, rfl, hj⟩ := inL_mem h1 (show y ∈ [(i : Int), y] by simp)
          simp only [wiS, Bool.and_eq_true, decide_eq_true_eq, ptK_N] at h2
          simp only [List.length_cons, List.length_nil] at hi hj
          rcases (show (i = 0 ∧ j = 1) ∨ (i = 1 ∧ j = 0) by omega) with ⟨rfl, rfl⟩ | ⟨rfl, rfl⟩
          · exact hab h2.2
          · exact hab h2.2.symm
        · by_cases l3 : l.length = 3
          · obtain ⟨x, y, z, rfl⟩ := len_three l3
            obtain ⟨i, rfl, hi⟩ := inL_mem h1 (show x ∈ [x, y, z] by simp)
            obtain ⟨j, rfl, hj⟩ := inL_mem h1 (show y ∈ [(i : Int), y, z] by simp)
            obtain ⟨k, rfl, hk⟩ := inL_mem h1 (show z ∈ [(i : Int), (j : Int), z] by simp)
            simp only [wiS, Bool.and_eq_true, decide_eq_true_eq, ptK_N] at h2
            simp only [List.length_cons, List.length_nil] at hi hj hk
            rcases hx i hi with e1 | e1 <;> rcases hx j hj with e2 | e2 <;> rcases hx k hk with e3 | e3 <;> rw [e1, e2, e3] at h2 <;> omega
          · rw [wiS_other l2 l3] at h2; cases h2
end Go.Proofs.Ytoilbgngefleiaa
