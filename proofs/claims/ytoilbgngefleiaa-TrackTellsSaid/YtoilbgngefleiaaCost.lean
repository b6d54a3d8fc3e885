/-
  Contracts: cost, width (track).
-/
import Derived.Test.YtoilbgngefleiaaRest
namespace Go.Proofs.Ytoilbgngefleiaa
open Go.RowKit Go.Shelf

def sumA (zs : List Int) : Int := (zs.map absI).sum
def mostA (zs : List Int) : Int := (zs.map absI).foldl max 0
theorem sumA_snoc {zs : List Int} {k : Nat} {z : Int} (h : zs[k]? = some z) : sumA (zs.take (k + 1)) = sumA (zs.take k) + absI z := by
  simp [sumA, take_snoc h]
theorem mostA_snoc {zs : List Int} {k : Nat} {z : Int} (h : zs[k]? = some z) : mostA (zs.take (k + 1)) = max (mostA (zs.take k)) (absI z) := by
  simp [mostA, take_snoc h]
theorem abs_bd {z : Int} (h : -1200000000 ≤ z ∧ z ≤ 1200000000) : 0 ≤ absI z ∧ absI z ≤ 1200000000 := by unfold absI; omega
/-- The cost of a line, times D, and its width, times D. -/
def costI (ms : List (Int × Int)) (a b d : Int) : Int := sumA (ms.map (rsI a b d))
def widI (ms : List (Int × Int)) (a b d : Int) : Int := mostA (ms.map (rsI a b d))
theorem rs_all {ms : List (Int × Int)} {a b d : Int} (hL : LnB a b d) (hv : ms.all ptB = true) : ∀ z ∈ ms.map (rsI a b d), -1200000000 ≤ z ∧ z ≤ 1200000000 := by
  intro z hz
  obtain ⟨q, hq, rfl⟩ := List.mem_map.1 hz
  exact (rs_box hL (by simp only [List.all_eq_true] at hv; exact hv q hq)).2.2
theorem sumA_bd (zs : List Int) (h : ∀ z ∈ zs, -1200000000 ≤ z ∧ z ≤ 1200000000) : 0 ≤ sumA zs ∧ sumA zs ≤ 1200000000 * zs.length := by
  induction zs with
  | nil => simp [sumA]
  | cons z t ih =>
    have h1 := ih (fun x hx => h x (List.mem_cons_of_mem _ hx))
    have h2 := abs_bd (h z (by simp))
    have h3 : sumA (z :: t) = absI z + sumA t := by simp [sumA]
    rw [h3]; simp only [List.length_cons]; omega

theorem blk_frozen {w : World} {g : Nat} {t : TypeId} {cs : Array Value} (h : w.heap[g]? = some (.cells cs t (0, 0))) (i : Nat) : w.frozen? ⟨g, i, none⟩ = false := by
  simp [World.frozen?, h]

theorem fold_max : ∀ (l : List Int) (x C : Int), x ≤ l.foldl max x ∧ (x ≤ C → (∀ z ∈ l, z ≤ C) → l.foldl max x ≤ C)
  | [], x, C => ⟨Int.le_refl _, fun h _ => h⟩
  | z :: t, x, C => by
    have h := fold_max t (max x z) C
    refine ⟨by have := h.1; simp only [List.foldl_cons]; omega, fun h1 h2 => ?_⟩
    have hz := h2 z (by simp)
    exact h.2 (by omega) (fun u hu => h2 u (List.mem_cons_of_mem _ hu))
theorem mostA_bd (zs : List Int) (h : ∀ z ∈ zs, -1200000000 ≤ z ∧ z ≤ 1200000000) : 0 ≤ mostA zs ∧ mostA zs ≤ 1200000000 * zs.length := by
  have h1 := fold_max (zs.map absI) 0 1200000000
  refine ⟨h1.1, ?_⟩
  cases zs with
  | nil => simp [mostA]
  | cons z t =>
    have := h1.2 (by omega) (fun u hu => by obtain ⟨v, hv, rfl⟩ := List.mem_map.1 hu; exact (abs_bd (h v hv)).2)
    show (List.map absI (z :: t)).foldl max 0 ≤ _
    simp only [List.length_cons]; omega

set_option maxRecDepth 100000 in
set_option maxHeartbeats 1000000 in
theorem cost_any (ms : List (Int × Int)) (A : Option Addr) (c : Nat) (a b d : Int) (w : World) (h : Marks w A ms) (hl : ms.length ≤ 1000) (hL : LnB a b d) (hv : ms.all ptB = true) :
    Calls Try.prog 66 #[.slice A ms.length c, .agg #[.int .i64 a, .int .i64 b, .int .i64 d]] w fun e w' => e = .returned (.agg #[.int .i64 (lowN (costI ms a b d) d), .int .i64 (lowD (costI ms a b d) d)]) ∧ Below w.heap.size w w' := by
  have H := Lib.hid h
  have HL := Lib.hid hL
  have HV := Lib.hid hv
  have hd := hL.2.2
  clear h hL hv
  go_enter Try.func66, Try.ntmps66
  go_wp2_with (go_at_call 58; refine (rests_any ms A c a b d _ (H.out.below (by repeat (first | with_reducible exact Below.refl _ _ | with_reducible assumption | refine below_drewN ?_ _ | with_reducible refine Below.drew ?_ | (refine Below.setCell ?_ (by first | (simp; done) | (simp; omega) | omega) _) | (refine Below.alloc ?_ (by first | (simp; done) | (simp; omega) | omega) _)))) hl HL.out HV.out).mono ?_; rintro e w2 ⟨A2, c2, zs, rfl, hO, hB2, hzs⟩)
  have HZL : Hid (zs.length = ms.length) := Lib.hid (by rw [hzs.out]; simp)
  have HZ1 : zs.length ≤ 1000 := by rw [HZL.out]; exact hl
  have HZB : Hid (∀ z ∈ zs, -1200000000 ≤ z ∧ z ≤ 1200000000) := Lib.hid (by rw [hzs.out]; exact rs_all HL.out HV.out)
  obtain ⟨W0, hW0⟩ : ∃ W0, W0 = (w.alloc (.cells #[.int .i64 a, .int .i64 b, .int .i64 d] 24)).alloc (.cells #[.int .i64 0, .int .i64 0] 34) := ⟨_, rfl⟩
  rw [← hW0] at hB2
  have hs0 : W0.heap.size = w.heap.size + 2 := by rw [hW0]; simp
  have hBW : Below w.heap.size w W0 := by rw [hW0]; exact ((Below.refl _ _).alloc (Nat.le_refl _) _).alloc (by simp) _
  have x2 : W0.cell? ⟨w.heap.size, 2, none⟩ = some (.int .i64 d) := by rw [hW0]; go_simp
  have hb2 : Below (w.heap.size + 2) W0 w2 := by rw [← hs0]; exact hB2
  have k0 : W0.heap[w.heap.size + 1]? = some (.cells #[.int .i64 0, .int .i64 0] 34 (0, 0)) := by rw [hW0]; simpa using heap_alloc_new (w.alloc (.cells #[.int .i64 a, .int .i64 b, .int .i64 d] 24)) (.cells #[.int .i64 0, .int .i64 0] 34)
  have k2 := (hb2.block (w.heap.size + 1) (by omega)).trans k0
  have HK := Lib.hid k2
  have HX2 := Lib.hid ((hb2.cell (p := ⟨w.heap.size, 2, none⟩) (by simp)).trans x2)
  have HB2 : Hid (Below w.heap.size w w2) := Lib.hid (hBW.trans (hb2.mono (by omega)))
  have hw2 : w.heap.size + 2 ≤ w2.heap.size := by have := hb2.size; omega
  have HO := Lib.hid hO
  clear hb2 hBW hs0 x2 hB2 hW0 hO k0 k2
  go_loopw [5, 12] (fun v i wr => ∃ k n : Nat, k ≤ zs.length ∧ i = .int .i64 k ∧ v = .int .i64 (sumA (zs.take k)) ∧ wr = w2.drewN n) (fun _ i _ => zs.length - (intOf i).toNat)
  case atStart => exact ⟨0, 0, Nat.zero_le _, rfl, rfl, rfl⟩
  case round =>
    obtain ⟨k, n, hk, rfl, rfl, rfl⟩ := hrel
    have hsb := sumA_bd (zs.take k) (fun z hz => HZB.out z (List.mem_of_mem_take hz))
    rw [List.length_take, Nat.min_eq_left hk] at hsb
    obtain ⟨s, hs⟩ : ∃ s, s = sumA (zs.take k) := ⟨_, rfl⟩
    rw [← hs] at hsb
    simp only [← hs]
    have HS := Lib.hid hs
    clear hs
    by_cases hlt : k < zs.length
    · obtain ⟨ad, z, rfl, hbk, hz, hc⟩ := HO.out.ints.get hlt
      have hzb := HZB.out z (List.mem_of_getElem? hz.out)
      have hab := abs_bd hzb
      obtain ⟨y, hy⟩ : ∃ y, y = absI z := ⟨_, rfl⟩
      rw [← hy] at hab
      have HY := Lib.hid hy
      clear hy
      go_wp2_with (go_at_call 90; refine (size_any z _ (by omega) (by omega)).mono ?_; rintro e w3 ⟨rfl, rfl⟩; rw [← HY.out])
      all_goals
        go_roundw
        case rel => exact ⟨k + 1, _, by omega, by go_num, by rw [sumA_snoc hz.out, ← HS.out, ← HY.out], rfl⟩
        case measure => simp [intOf]; omega
    · obtain rfl : k = zs.length := by omega
      rw [List.take_length] at HS
      have HC : Hid (costI ms a b d = s) := Lib.hid (by rw [HS.out, hzs.out]; rfl)
      have hx2 := HX2.out
      go_wp2_with (go_at_call 59; refine (lowest_any s d _ (by omega) (by omega) (by omega) (by omega)).mono ?_; rintro e w4 ⟨rfl, hB4⟩; have hB4 : Below w2.heap.size w2 w4 := (below_drewN (Below.refl _ _) _).trans hB4; have k4 := (hB4.block (w.heap.size + 1) (by omega)).trans HK.out; have d0 := cell_of_row w4 _ 0 _ _ _ k4; have d1 := cell_of_row w4 _ 1 _ _ _ k4; have e0 := blk_frozen k4 0; have e1 := blk_frozen k4 1; have hW := below_step HB2.out hB4; clear k4)
      have hw4 : w.heap.size + 2 ≤ w4.heap.size := by have := hB4.size; omega
      exact bodyPost_ret (v := .agg #[.int .i64 (lowN (costI ms a b d) d), .int .i64 (lowD (costI ms a b d) d)]) (by rw [HC.out]; simp [results, Try.results66, go_sem, d0, d1]) rfl ⟨rfl, by refine Below.setCell (Below.setCell hW ?_ _) ?_ _ <;> simp⟩

set_option maxRecDepth 100000 in
set_option maxHeartbeats 1000000 in
theorem width_any (ms : List (Int × Int)) (A : Option Addr) (c : Nat) (a b d : Int) (w : World) (h : Marks w A ms) (hl : ms.length ≤ 1000) (hL : LnB a b d) (hv : ms.all ptB = true) :
    Calls Try.prog 68 #[.slice A ms.length c, .agg #[.int .i64 a, .int .i64 b, .int .i64 d]] w fun e w' => e = .returned (.agg #[.int .i64 (lowN (widI ms a b d) d), .int .i64 (lowD (widI ms a b d) d)]) ∧ Below w.heap.size w w' := by
  have H := Lib.hid h
  have HL := Lib.hid hL
  have HV := Lib.hid hv
  have hd := hL.2.2
  clear h hL hv
  go_enter Try.func68, Try.ntmps68
  go_wp2_with (go_at_call 58; refine (rests_any ms A c a b d _ (H.out.below (by repeat (first | with_reducible exact Below.refl _ _ | with_reducible assumption | refine below_drewN ?_ _ | with_reducible refine Below.drew ?_ | (refine Below.setCell ?_ (by first | (simp; done) | (simp; omega) | omega) _) | (refine Below.alloc ?_ (by first | (simp; done) | (simp; omega) | omega) _)))) hl HL.out HV.out).mono ?_; rintro e w2 ⟨A2, c2, zs, rfl, hO, hB2, hzs⟩)
  have HZL : Hid (zs.length = ms.length) := Lib.hid (by rw [hzs.out]; simp)
  have HZ1 : zs.length ≤ 1000 := by rw [HZL.out]; exact hl
  have HZB : Hid (∀ z ∈ zs, -1200000000 ≤ z ∧ z ≤ 1200000000) := Lib.hid (by rw [hzs.out]; exact rs_all HL.out HV.out)
  obtain ⟨W0, hW0⟩ : ∃ W0, W0 = (w.alloc (.cells #[.int .i64 a, .int .i64 b, .int .i64 d] 24)).alloc (.cells #[.int .i64 0, .int .i64 0] 34) := ⟨_, rfl⟩
  rw [← hW0] at hB2
  have hs0 : W0.heap.size = w.heap.size + 2 := by rw [hW0]; simp
  have hBW : Below w.heap.size w W0 := by rw [hW0]; exact ((Below.refl _ _).alloc (Nat.le_refl _) _).alloc (by simp) _
  have x2 : W0.cell? ⟨w.heap.size, 2, none⟩ = some (.int .i64 d) := by rw [hW0]; go_simp
  have hb2 : Below (w.heap.size + 2) W0 w2 := by rw [← hs0]; exact hB2
  have k0 : W0.heap[w.heap.size + 1]? = some (.cells #[.int .i64 0, .int .i64 0] 34 (0, 0)) := by rw [hW0]; simpa using heap_alloc_new (w.alloc (.cells #[.int .i64 a, .int .i64 b, .int .i64 d] 24)) (.cells #[.int .i64 0, .int .i64 0] 34)
  have k2 := (hb2.block (w.heap.size + 1) (by omega)).trans k0
  have HK := Lib.hid k2
  have HX2 := Lib.hid ((hb2.cell (p := ⟨w.heap.size, 2, none⟩) (by simp)).trans x2)
  have HB2 : Hid (Below w.heap.size w w2) := Lib.hid (hBW.trans (hb2.mono (by omega)))
  have hw2 : w.heap.size + 2 ≤ w2.heap.size := by have := hb2.size; omega
  have HO := Lib.hid hO
  clear hb2 hBW hs0 x2 hB2 hW0 hO k0 k2
  go_loopw [5, 12] (fun v i wr => ∃ k n : Nat, k ≤ zs.length ∧ i = .int .i64 k ∧ v = .int .i64 (mostA (zs.take k)) ∧ wr = w2.drewN n) (fun _ i _ => zs.length - (intOf i).toNat)
  case atStart => exact ⟨0, 0, Nat.zero_le _, rfl, rfl, rfl⟩
  case round =>
    obtain ⟨k, n, hk, rfl, rfl, rfl⟩ := hrel
    have hsb := mostA_bd (zs.take k) (fun z hz => HZB.out z (List.mem_of_mem_take hz))
    rw [List.length_take, Nat.min_eq_left hk] at hsb
    obtain ⟨s, hs⟩ : ∃ s, s = mostA (zs.take k) := ⟨_, rfl⟩
    rw [← hs] at hsb
    simp only [← hs]
    have HS := Lib.hid hs
    clear hs
    by_cases hlt : k < zs.length
    · obtain ⟨ad, z, rfl, hbk, hz, hc⟩ := HO.out.ints.get hlt
      have hzb := HZB.out z (List.mem_of_getElem? hz.out)
      have hab := abs_bd hzb
      obtain ⟨y, hy⟩ : ∃ y, y = absI z := ⟨_, rfl⟩
      rw [← hy] at hab
      have HY := Lib.hid hy
      clear hy
      go_wp2_with (go_at_call 90; refine (size_any z _ (by omega) (by omega)).mono ?_; rintro e w3 ⟨rfl, rfl⟩; rw [← HY.out])
      all_goals
        go_roundw
        case rel => exact ⟨k + 1, _, by omega, by go_num, by rw [mostA_snoc hz.out, ← HS.out, ← HY.out] <;> first | rfl | (congr 1; omega), rfl⟩
        case measure => simp [intOf]; omega
    · obtain rfl : k = zs.length := by omega
      rw [List.take_length] at HS
      have HC : Hid (widI ms a b d = s) := Lib.hid (by rw [HS.out, hzs.out]; rfl)
      have hx2 := HX2.out
      go_wp2_with (go_at_call 59; refine (lowest_any s d _ (by omega) (by omega) (by omega) (by omega)).mono ?_; rintro e w4 ⟨rfl, hB4⟩; have hB4 : Below w2.heap.size w2 w4 := (below_drewN (Below.refl _ _) _).trans hB4; have k4 := (hB4.block (w.heap.size + 1) (by omega)).trans HK.out; have d0 := cell_of_row w4 _ 0 _ _ _ k4; have d1 := cell_of_row w4 _ 1 _ _ _ k4; have e0 := blk_frozen k4 0; have e1 := blk_frozen k4 1; have hW := below_step HB2.out hB4; clear k4)
      have hw4 : w.heap.size + 2 ≤ w4.heap.size := by have := hB4.size; omega
      exact bodyPost_ret (v := .agg #[.int .i64 (lowN (widI ms a b d) d), .int .i64 (lowD (widI ms a b d) d)]) (by rw [HC.out]; simp [results, Try.results68, go_sem, d0, d1]) rfl ⟨rfl, by refine Below.setCell (Below.setCell hW ?_ _) ?_ _ <;> simp⟩

end Go.Proofs.Ytoilbgngefleiaa
