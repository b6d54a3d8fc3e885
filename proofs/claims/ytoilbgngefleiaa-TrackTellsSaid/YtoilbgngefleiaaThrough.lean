/-
  Contract: through (track).
-/
import Derived.Test.YtoilbgngefleiaaCost
namespace Go.Proofs.Ytoilbgngefleiaa
open Go.RowKit Go.Shelf

/-- The line through two points: A, B and D; the first point has the lesser X. -/
def upA (p q : Int × Int) : Int := lowN (q.2 - p.2) (q.1 - p.1)
def upD (p q : Int × Int) : Int := lowD (q.2 - p.2) (q.1 - p.1)
def upB (p q : Int × Int) : Int := p.2 * upD p q - p.1 * upA p q
def thA (p q : Int × Int) : Int := if q.1 < p.1 then upA q p else upA p q
def thB (p q : Int × Int) : Int := if q.1 < p.1 then upB q p else upB p q
def thD (p q : Int × Int) : Int := if q.1 < p.1 then upD q p else upD p q
theorem lowN_abs {n d M : Int} (hd : 0 < d) (h0 : -M ≤ n) (h1 : n ≤ M) : -M ≤ lowN n d ∧ lowN n d ≤ M := by
  have hg := gcd_pos (n := n) hd
  unfold lowN
  generalize (Int.gcd n d : Int) = g at hg
  constructor
  · refine (Int.le_ediv_iff_mul_le hg).2 ?_
    have : 0 ≤ M * (g - 1) := Int.mul_nonneg (by omega) (by omega)
    have e : -M * g = -M - M * (g - 1) := by grind
    omega
  · refine Int.le_of_lt_add_one ((Int.ediv_lt_iff_lt_mul hg).2 ?_)
    have : 0 ≤ M * (g - 1) := Int.mul_nonneg (by omega) (by omega)
    have e : (M + 1) * g = M + g + M * (g - 1) := by grind
    omega
theorem up_bd {p q : Int × Int} (hp : ptB p = true) (hq : ptB q = true) (h : p.1 < q.1) : (-2000 ≤ upA p q ∧ upA p q ≤ 2000) ∧ (1 ≤ upD p q ∧ upD p q ≤ 200) ∧ (-200000 ≤ p.2 * upD p q ∧ p.2 * upD p q ≤ 200000) ∧ (-200000 ≤ p.1 * upA p q ∧ p.1 * upA p q ≤ 200000) := by
  obtain ⟨⟨a0, a1⟩, a2, a3⟩ := pt_parts hp
  obtain ⟨⟨b0, b1⟩, b2, b3⟩ := pt_parts hq
  have h1 := lowN_abs (n := q.2 - p.2) (d := q.1 - p.1) (M := 2000) (by omega) (by omega) (by omega)
  have h2 := lowD_bd (n := q.2 - p.2) (d := q.1 - p.1) (by omega)
  have h3 : (1 ≤ upD p q ∧ upD p q ≤ 200) := by unfold upD; omega
  have h4 := mulBox (X := 1000) (Y := 200) a2 a3 (show -200 ≤ upD p q by omega) h3.2
  have h5 := mulBox (X := 100) (Y := 2000) a0 a1 h1.1 h1.2
  exact ⟨h1, h3, by omega, by unfold upA; omega⟩

set_option maxRecDepth 100000 in
set_option maxHeartbeats 1000000 in
theorem through_any (x y u v : Int) (w : World) (hp : ptB (x, y) = true) (hq : ptB (u, v) = true) (hne : x ≠ u) :
    Calls Try.prog 81 #[.agg #[.int .i64 x, .int .i64 y], .agg #[.int .i64 u, .int .i64 v]] w fun e w' => e = .returned (.agg #[.int .i64 (thA (x, y) (u, v)), .int .i64 (thB (x, y) (u, v)), .int .i64 (thD (x, y) (u, v))]) ∧ Below w.heap.size w w' := by
  have b1 := pt_parts hp
  have b2 := pt_parts hq
  simp only at b1 b2
  by_cases hlt : u < x
  · have t1 : decide (u < x) = true := decide_eq_true hlt
    have hxu : u < x := by omega
    have hb := up_bd hq hp hxu
    obtain ⟨n, hn⟩ : ∃ n, n = upA (u, v) (x, y) := ⟨_, rfl⟩
    obtain ⟨d, hd⟩ : ∃ d, d = upD (u, v) (x, y) := ⟨_, rfl⟩
    rw [← hn, ← hd] at hb
    simp only at hb
    have HN : Hid (thA (x, y) (u, v) = n ∧ thB (x, y) (u, v) = v * d - u * n ∧ thD (x, y) (u, v) = d) := Lib.hid ⟨by rw [thA, if_pos hlt, hn], by rw [thB, if_pos hlt, upB, ← hn, ← hd], by rw [thD, if_pos hlt, hd]⟩
    have HM : Hid (lowN (y - v) (x - u) = n ∧ lowD (y - v) (x - u) = d) := Lib.hid ⟨hn.symm, hd.symm⟩
    clear hn hd
    go_enter Try.func81, Try.ntmps81
    obtain ⟨W0, hW0⟩ : ∃ W0, W0 = (((w.alloc (.cells #[.int .i64 u, .int .i64 v] 54)).alloc (.cells #[.int .i64 x, .int .i64 y] 54)).alloc (.cells #[.int .i64 0, .int .i64 0, .int .i64 0] 24)) := ⟨_, rfl⟩
    have hs0 : W0.heap.size = w.heap.size + 3 := by rw [hW0]; simp
    have hBW : Hid (Below w.heap.size w W0) := Lib.hid (by rw [hW0]; exact (((Below.refl _ _).alloc (Nat.le_refl _) _).alloc (by simp) _).alloc (by simp <;> omega) _)
    have HC : Hid (W0.cell? ⟨w.heap.size, 0, none⟩ = some (.int .i64 u) ∧ W0.cell? ⟨w.heap.size, 1, none⟩ = some (.int .i64 v)) := Lib.hid (by rw [hW0]; constructor <;> go_simp)
    have HK : Hid (W0.heap[w.heap.size + 1 + 1]? = some (.cells #[.int .i64 0, .int .i64 0, .int .i64 0] 24 (0, 0))) := Lib.hid (by rw [hW0]; simpa using heap_alloc_new ((w.alloc (.cells #[.int .i64 u, .int .i64 v] 54)).alloc (.cells #[.int .i64 x, .int .i64 y] 54)) (.cells #[.int .i64 0, .int .i64 0, .int .i64 0] 24))
    go_wp2_with (go_at_call 59; refine (lowest_any (y - v) (x - u) _ (by omega) (by omega) (by omega) (by omega)).mono ?_; rintro e w4 ⟨rfl, hB4⟩; rw [HM.out.1, HM.out.2]; rw [← hW0] at hB4; have hs4 := hB4.size; have z4 : w.heap.size + 3 ≤ w4.heap.size := (by omega); have z0 : w.heap.size < w4.heap.size := (by omega); have z2 : w.heap.size + 1 + 1 < w4.heap.size := (by omega); have c0 := (hB4.cell (p := ⟨w.heap.size, 0, none⟩) (show w.heap.size < _ by omega)).trans HC.out.1; have c1 := (hB4.cell (p := ⟨w.heap.size, 1, none⟩) (show w.heap.size < _ by omega)).trans HC.out.2; have k4 := (hB4.block (w.heap.size + 1 + 1) (by omega)).trans HK.out; have d0 := cell_of_row w4 _ 0 _ _ _ k4; have d1 := cell_of_row w4 _ 1 _ _ _ k4; have d2 := cell_of_row w4 _ 2 _ _ _ k4; have e0 := blk_frozen k4 0; have e1 := blk_frozen k4 1; have e2 := blk_frozen k4 2; have hW := below_step hBW.out hB4; clear k4 hB4)
    exact bodyPost_ret (v := .agg #[.int .i64 (thA (x, y) (u, v)), .int .i64 (thB (x, y) (u, v)), .int .i64 (thD (x, y) (u, v))]) (by rw [HN.out.1, HN.out.2.1, HN.out.2.2]; simp [results, Try.results81, go_sem, d0, d1, d2, z2]) rfl ⟨rfl, by refine Below.alloc (Below.setCell (Below.setCell (Below.setCell hW ?_ _) ?_ _) ?_ _) ?_ _ <;> simp <;> omega⟩
  · have t1 : decide (u < x) = false := decide_eq_false hlt
    have hxu : x < u := by omega
    have hb := up_bd hp hq hxu
    obtain ⟨n, hn⟩ : ∃ n, n = upA (x, y) (u, v) := ⟨_, rfl⟩
    obtain ⟨d, hd⟩ : ∃ d, d = upD (x, y) (u, v) := ⟨_, rfl⟩
    rw [← hn, ← hd] at hb
    simp only at hb
    have HN : Hid (thA (x, y) (u, v) = n ∧ thB (x, y) (u, v) = y * d - x * n ∧ thD (x, y) (u, v) = d) := Lib.hid ⟨by rw [thA, if_neg hlt, hn], by rw [thB, if_neg hlt, upB, ← hn, ← hd], by rw [thD, if_neg hlt, hd]⟩
    have HM : Hid (lowN (v - y) (u - x) = n ∧ lowD (v - y) (u - x) = d) := Lib.hid ⟨hn.symm, hd.symm⟩
    clear hn hd
    go_enter Try.func81, Try.ntmps81
    obtain ⟨W0, hW0⟩ : ∃ W0, W0 = (((w.alloc (.cells #[.int .i64 x, .int .i64 y] 54)).alloc (.cells #[.int .i64 u, .int .i64 v] 54)).alloc (.cells #[.int .i64 0, .int .i64 0, .int .i64 0] 24)) := ⟨_, rfl⟩
    have hs0 : W0.heap.size = w.heap.size + 3 := by rw [hW0]; simp
    have hBW : Hid (Below w.heap.size w W0) := Lib.hid (by rw [hW0]; exact (((Below.refl _ _).alloc (Nat.le_refl _) _).alloc (by simp) _).alloc (by simp <;> omega) _)
    have HC : Hid (W0.cell? ⟨w.heap.size, 0, none⟩ = some (.int .i64 x) ∧ W0.cell? ⟨w.heap.size, 1, none⟩ = some (.int .i64 y)) := Lib.hid (by rw [hW0]; constructor <;> go_simp)
    have HK : Hid (W0.heap[w.heap.size + 1 + 1]? = some (.cells #[.int .i64 0, .int .i64 0, .int .i64 0] 24 (0, 0))) := Lib.hid (by rw [hW0]; simpa using heap_alloc_new ((w.alloc (.cells #[.int .i64 x, .int .i64 y] 54)).alloc (.cells #[.int .i64 u, .int .i64 v] 54)) (.cells #[.int .i64 0, .int .i64 0, .int .i64 0] 24))
    go_wp2_with (go_at_call 59; refine (lowest_any (v - y) (u - x) _ (by omega) (by omega) (by omega) (by omega)).mono ?_; rintro e w4 ⟨rfl, hB4⟩; rw [HM.out.1, HM.out.2]; rw [← hW0] at hB4; have hs4 := hB4.size; have z4 : w.heap.size + 3 ≤ w4.heap.size := (by omega); have z0 : w.heap.size < w4.heap.size := (by omega); have z2 : w.heap.size + 1 + 1 < w4.heap.size := (by omega); have c0 := (hB4.cell (p := ⟨w.heap.size, 0, none⟩) (show w.heap.size < _ by omega)).trans HC.out.1; have c1 := (hB4.cell (p := ⟨w.heap.size, 1, none⟩) (show w.heap.size < _ by omega)).trans HC.out.2; have k4 := (hB4.block (w.heap.size + 1 + 1) (by omega)).trans HK.out; have d0 := cell_of_row w4 _ 0 _ _ _ k4; have d1 := cell_of_row w4 _ 1 _ _ _ k4; have d2 := cell_of_row w4 _ 2 _ _ _ k4; have e0 := blk_frozen k4 0; have e1 := blk_frozen k4 1; have e2 := blk_frozen k4 2; have hW := below_step hBW.out hB4; clear k4 hB4)
    exact bodyPost_ret (v := .agg #[.int .i64 (thA (x, y) (u, v)), .int .i64 (thB (x, y) (u, v)), .int .i64 (thD (x, y) (u, v))]) (by rw [HN.out.1, HN.out.2.1, HN.out.2.2]; simp [results, Try.results81, go_sem, d0, d1, d2, z2]) rfl ⟨rfl, by refine Below.alloc (Below.setCell (Below.setCell (Below.setCell hW ?_ _) ?_ _) ?_ _) ?_ _ <;> simp <;> omega⟩
end Go.Proofs.Ytoilbgngefleiaa
