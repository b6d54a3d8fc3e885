/-
  Contracts: cheapest, Least, Line, Axis (track).
-/
import Derived.Test.YtoilbgngefleiaaAwake
namespace Go.Proofs.Ytoilbgngefleiaa
open Go Go.RowKit Go.Shelf

def cosT (ms : List (Int × Int)) (x : Ln) : Int × Int := (lowN (costI ms x.1 x.2.1 x.2.2) x.2.2, lowD (costI ms x.1 x.2.1 x.2.2) x.2.2)
def thL (x : (Int × Int) × (Int × Int)) : Ln := (thA x.1 x.2, thB x.1 x.2, thD x.1 x.2)
theorem th_lnP {x : (Int × Int) × (Int × Int)} (hp : ptB x.1 = true) (hq : ptB x.2 = true) (h : x.1.1 ≠ x.2.1) : LnP (thL x) := th_ln hp hq h
theorem through_made (w : World) : MadeAt 81 #[] thL w := fun W x _ hp hq hne => through_any x.1.1 x.1.2 x.2.1 x.2.2 W hp hq hne
theorem cost_told {ms : List (Int × Int)} {A : Option Addr} {c : Nat} {w : World} (h : Clk w A c ms) (hv : viP ms = true) : ToldAt 66 (cosT ms) LnP A ms.length c w := fun W x hW hx => by
  obtain ⟨⟨hn1, hn2⟩, hpt, _⟩ := vi_parts hv
  exact cost_any ms A c x.1 x.2.1 x.2.2 W (h.marks.below hW) (by omega) hx (List.all_eq_true.2 hpt)
theorem cos_cross {ms : List (Int × Int)} (hv : viP ms = true) : CrossOk (cosT ms) LnP := fun x y hx hy => by
  obtain ⟨⟨hn1, hn2⟩, hpt, _⟩ := vi_parts hv
  have h1 := sumA_bd (ms.map (rsI x.1 x.2.1 x.2.2)) (rs_all hx (List.all_eq_true.2 hpt))
  rw [List.length_map] at h1
  have h2 : 0 ≤ costI ms x.1 x.2.1 x.2.2 ∧ costI ms x.1 x.2.1 x.2.2 ≤ 14400000000 := by unfold costI; omega
  have h3 := lowN_abs (n := costI ms x.1 x.2.1 x.2.2) (d := x.2.2) (M := 14400000000) (by have := hx.2.2; omega) (by omega) h2.2
  have h4 := lowD_bd (n := costI ms y.1 y.2.1 y.2.2) (d := y.2.2) (by have := hy.2.2; omega)
  have h5 := mulBox (X := 14400000000) (Y := 100000) h3.1 h3.2 (show -100000 ≤ lowD (costI ms y.1 y.2.1 y.2.2) y.2.2 by omega) (by have := hy.2.2; omega)
  unfold cosT
  simp only
  omega
def cheL (ms : List (Int × Int)) : Ln := bestL (cosT ms) thL ms
theorem che_ln {ms : List (Int × Int)} (hv : viP ms = true) : LnP (cheL ms) := by
  obtain ⟨_, hpt, _⟩ := vi_parts hv
  have hm := minF_mem (cmpT (cosT ms)) (ls := (pairsL ms ms.length).map thL) (by rw [List.length_map]; exact pairs_some hv)
  obtain ⟨x, hx, e⟩ := List.mem_map.1 hm
  have hx2 := pairs_mem hx
  rw [cheL, bestL, ← e]
  exact th_lnP (hpt _ hx2.1) (hpt _ hx2.2.1) hx2.2.2
set_option maxRecDepth 100000 in
set_option maxHeartbeats 1000000 in
theorem cheapest_any (ms : List (Int × Int)) (A : Option Addr) (c : Nat) (w : World) (h : Clk w A c ms) (hv : viP ms = true) :
    Calls Try.prog 70 #[.slice A ms.length c] w fun e w' => e = .returned (lnV (cheL ms)) ∧ Below w.heap.size w w' := by
  obtain ⟨⟨hn1, hn2⟩, hpt, _⟩ := vi_parts hv
  obtain ⟨⟨rx, ry, rz⟩, hr⟩ : ∃ z, cheL ms = z := ⟨_, rfl⟩
  have HE : Hid (lnV (cheL ms) = .agg #[.int .i64 rx, .int .i64 ry, .int .i64 rz]) := Lib.hid (by rw [hr]; rfl)
  obtain ⟨W1, hW1⟩ : ∃ W1, (w.alloc (.cells #[.int .i64 0, .int .i64 0, .int .i64 0] 24)) = W1 := ⟨_, rfl⟩
  have hB1 : Below w.heap.size w W1 := by rw [← hW1]; exact (Below.refl _ _).alloc (Nat.le_refl _) _
  have hz : W1.heap.size = w.heap.size + 1 := by rw [← hW1]; simp
  have g0 : W1.heap[w.heap.size]? = some (.cells #[.int .i64 0, .int .i64 0, .int .i64 0] 24 (0, 0)) := by rw [← hW1]; exact heap_alloc_new _ _
  have HB := Lib.hid (best_any 81 #[] thL 66 (cosT ms) LnP ms A c W1 (h.below hB1) hv (pairs_some hv) (through_made W1) (enters_of Try.func81 (by kernel_rfl) rfl)
    (cost_told (h.below hB1) hv) (enters_of Try.func66 (by kernel_rfl) rfl) (cos_cross hv) (fun x hx => th_lnP (hpt _ (pairs_mem hx).1) (hpt _ (pairs_mem hx).2.1) (pairs_mem hx).2.2))
  have HB1 := Lib.hid hB1
  have HG0 := Lib.hid g0
  clear h hv hpt hB1 g0
  go_enter Try.func70, Try.ntmps70
  go_wp2_with (first
    | (go_at_call 94; refine HB.out.mono ?_; rintro e w2 ⟨he, hB2⟩; rw [← cheL, HE.out] at he; subst he; have hg2 := (hB2.block _ (by omega)).trans HG0.out)
    | (refine wpList_store_row rfl 24 (.tmp 2) (.tmp 4) rfl w.heap.size #[.int .i64 rx, .int .i64 ry, .int .i64 rz] rfl rfl 24 _ hg2 (by kernel_rfl) (by kernel_rfl) (by kernel_rfl) ?_; refine row_world3 w.heap.size w _ _ (w.heap.size + 1) _ _ _ hg2 (below_step HB1.out hB2) (Nat.le_refl _) (by omega) (fun X hX1 hX3 hX2 => ?_))
    | fail)
  have r0 : X.cell? ⟨w.heap.size, 0, none⟩ = some (.int .i64 rx) := by rw [cell_of_row X _ 0 _ _ (0, 0) hX1]; rfl
  have r1 : X.cell? ⟨w.heap.size, 1, none⟩ = some (.int .i64 ry) := by rw [cell_of_row X _ 1 _ _ (0, 0) hX1]; rfl
  have r2 : X.cell? ⟨w.heap.size, 2, none⟩ = some (.int .i64 rz) := by rw [cell_of_row X _ 2 _ _ (0, 0) hX1]; rfl
  exact bodyPost_ret (v := lnV (cheL ms)) (by rw [HE.out]; simp [results, Try.results70, go_sem, r0, r1, r2]) rfl ⟨rfl, hX2⟩
def leaV (ms : List (Int × Int)) : Int × Int := if viP ms then cosT ms (cheL ms) else (0, 0)
set_option maxRecDepth 100000 in
set_option maxHeartbeats 1000000 in
theorem least_any (ms : List (Int × Int)) (A : Option Addr) (c : Nat) (w : World) (h : Clk w A c ms) :
    Calls Try.prog 31 #[.slice A ms.length c] w fun e w' => e = .returned (.tuple #[.agg #[.int .i64 (leaV ms).1, .int .i64 (leaV ms).2], .int .i64 (viE ms)]) ∧ Below w.heap.size w w' := by
  obtain ⟨⟨n, d⟩, hnd⟩ : ∃ z, leaV ms = z := ⟨_, rfl⟩
  have HND := Lib.hid hnd
  have HH := Lib.hid h
  have h0 : (w.alloc (.cells #[.int .i64 0, .int .i64 0] 34)).heap[w.heap.size]? = some (.cells #[.int .i64 0, .int .i64 0] 34 (0, 0)) := heap_alloc_new _ _
  have H0 := Lib.hid h0
  have hB0 : Below w.heap.size w (w.alloc (.cells #[.int .i64 0, .int .i64 0] 34)) := (Below.refl _ _).alloc (Nat.le_refl _) _
  have HB0 := Lib.hid hB0
  clear h0 hB0 h
  rw [hnd]
  clear hnd
  cases hv : viP ms with
  | true =>
    have HV := Lib.hid hv
    have HE : Hid (viE ms = 0) := Lib.hid (by rw [viE, hv]; rfl)
    have HN : Hid (cosT ms (cheL ms) = (n, d)) := Lib.hid (by rw [← HND.out, leaV, hv]; rfl)
    clear hv
    obtain ⟨⟨a, b, q⟩, hl⟩ : ∃ z, cheL ms = z := ⟨_, rfl⟩
    have HL := Lib.hid hl
    clear hl
    go_enter Try.func31, Try.ntmps31
    go_wp2_with (first
      | (go_at_call 19; refine (valid_any ms A c _ (HH.out.below HB0.out).marks HH.out.len).mono ?_; rintro e w1 ⟨he, hB1⟩; rw [HV.out] at he; subst he; have HB1 := Lib.hid (HB0.out.trans (hB1.mono HB0.out.size)); have HG1 := Lib.hid ((hB1.block _ (by simp)).trans H0.out))
      | (go_at_call 70; refine (cheapest_any ms A c _ (HH.out.below HB1.out) HV.out).mono ?_; rintro e w2 ⟨he, hB2⟩; rw [HL.out] at he; simp only [lnV] at he; subst he; have HB2 := Lib.hid (below_step HB1.out hB2); have HG2 := Lib.hid ((hB2.block _ (by have := hB1.size; simp at this; omega)).trans HG1.out))
      | (go_at_call 66; refine (cost_told (HH.out.below HB2.out) HV.out _ (a, b, q) (Below.refl _ _) (HL.out ▸ che_ln HV.out)).mono ?_; rintro e w3 ⟨he, hB3⟩; rw [← HL.out, HN.out] at he; simp only at he; subst he; have HB3 := Lib.hid (below_step HB2.out hB3); have HG3 := Lib.hid ((hB3.block _ (Array.getElem?_eq_some_iff.1 HG2.out).1).trans HG2.out))
      | (refine wpList_store_row rfl 34 (.tmp 2) (.tmp 11) rfl w.heap.size #[.int .i64 n, .int .i64 d] rfl rfl 34 _ HG3.out (by kernel_rfl) (by kernel_rfl) (by kernel_rfl) ?_; refine row_world3 w.heap.size w _ _ (w.heap.size + 1) _ _ _ HG3.out HB3.out (Nat.le_refl _) (by omega) (fun X hX1 hX3 hX2 => ?_))
      | fail)
    have r0 : X.cell? ⟨w.heap.size, 0, none⟩ = some (.int .i64 n) := by rw [cell_of_row X _ 0 _ _ (0, 0) hX1]; rfl
    have r1 : X.cell? ⟨w.heap.size, 1, none⟩ = some (.int .i64 d) := by rw [cell_of_row X _ 1 _ _ (0, 0) hX1]; rfl
    exact bodyPost_ret (v := .tuple #[.agg #[.int .i64 n, .int .i64 d], .int .i64 (viE ms)]) (by rw [HE.out]; simp [results, Try.results31, go_sem, r0, r1]) rfl ⟨rfl, hX2⟩
  | false =>
    have HV := Lib.hid hv
    have HE : Hid (viE ms = 50) := Lib.hid (by rw [viE, hv]; rfl)
    have hN : (0, 0) = ((n, d) : Int × Int) := by rw [← HND.out, leaV, hv]; rfl
    injection hN with hN1 hN2
    subst hN1 hN2
    clear hv
    go_enter Try.func31, Try.ntmps31
    go_wp2_with (first
      | (go_at_call 19; refine (valid_any ms A c _ (HH.out.below HB0.out).marks HH.out.len).mono ?_; rintro e w1 ⟨he, hB1⟩; rw [HV.out] at he; subst he; have HB1 := Lib.hid (HB0.out.trans (hB1.mono HB0.out.size)); have HG1 := Lib.hid ((hB1.block _ (by simp)).trans H0.out))
      | (refine wpList_store_row rfl 34 (.tmp 2) (.tmp 7) rfl w.heap.size #[.int .i64 0, .int .i64 0] rfl rfl 34 _ HG1.out (by kernel_rfl) (by kernel_rfl) (by kernel_rfl) ?_; refine row_world3 w.heap.size w _ _ (w.heap.size + 1) _ _ _ HG1.out HB1.out (Nat.le_refl _) (by omega) (fun X hX1 hX3 hX2 => ?_))
      | fail)
    have r0 : X.cell? ⟨w.heap.size, 0, none⟩ = some (.int .i64 0) := by rw [cell_of_row X _ 0 _ _ (0, 0) hX1]; rfl
    have r1 : X.cell? ⟨w.heap.size, 1, none⟩ = some (.int .i64 0) := by rw [cell_of_row X _ 1 _ _ (0, 0) hX1]; rfl
    exact bodyPost_ret (v := .tuple #[.agg #[.int .i64 0, .int .i64 0], .int .i64 (viE ms)]) (by rw [HE.out]; simp [results, Try.results31, go_sem, r0, r1]) rfl ⟨rfl, hX2⟩

set_option maxRecDepth 100000 in
set_option maxHeartbeats 1000000 in
theorem line_any (ms : List (Int × Int)) (A : Option Addr) (c : Nat) (w : World) (h : Clk w A c ms) :
    Calls Try.prog 37 #[.slice A ms.length c] w fun e w' => e = .returned (.tuple #[lnV (if viP ms then cheL ms else (0, 0, 0)), .int .i64 (viE ms)]) ∧ Below w.heap.size w w' := by
  have HH := Lib.hid h
  have H0 : Hid ((w.alloc (.cells #[.int .i64 0, .int .i64 0, .int .i64 0] 24)).heap[w.heap.size]? = some (.cells #[.int .i64 0, .int .i64 0, .int .i64 0] 24 (0, 0))) := Lib.hid (heap_alloc_new _ _)
  have HB0 : Hid (Below w.heap.size w (w.alloc (.cells #[.int .i64 0, .int .i64 0, .int .i64 0] 24))) := Lib.hid ((Below.refl _ _).alloc (Nat.le_refl _) _)
  clear h
  cases hv : viP ms with
  | true =>
    have HV := Lib.hid hv
    have HE : Hid (viE ms = 0) := Lib.hid (by rw [viE, hv]; rfl)
    clear hv
    obtain ⟨⟨a, b, q⟩, hl⟩ : ∃ z, cheL ms = z := ⟨_, rfl⟩
    have HL := Lib.hid hl
    have HN : Hid (lnV (cheL ms) = .agg #[.int .i64 a, .int .i64 b, .int .i64 q]) := Lib.hid (by rw [hl]; rfl)
    clear hl
    go_enter Try.func37, Try.ntmps37
    go_wp2_with (first
      | (go_at_call 19; refine (valid_any ms A c _ (HH.out.below HB0.out).marks HH.out.len).mono ?_; rintro e w1 ⟨he, hB1⟩; rw [HV.out] at he; subst he; have HB1 := Lib.hid (HB0.out.trans (hB1.mono HB0.out.size)); have HG1 := Lib.hid ((hB1.block _ (by simp)).trans H0.out))
      | (go_at_call 70; refine (cheapest_any ms A c _ (HH.out.below HB1.out) HV.out).mono ?_; rintro e w2 ⟨he, hB2⟩; rw [HL.out] at he; simp only [lnV] at he; subst he; have HB2 := Lib.hid (below_step HB1.out hB2); have HG2 := Lib.hid ((hB2.block _ (by have := hB1.size; simp at this; omega)).trans HG1.out))
      | (refine wpList_store_row rfl 24 (.tmp 2) (.tmp 9) rfl w.heap.size #[.int .i64 a, .int .i64 b, .int .i64 q] rfl rfl 24 _ HG2.out (by kernel_rfl) (by kernel_rfl) (by kernel_rfl) ?_; refine row_world3 w.heap.size w _ _ (w.heap.size + 1) _ _ _ HG2.out HB2.out (Nat.le_refl _) (by omega) (fun X hX1 hX3 hX2 => ?_))
      | fail)
    have r0 : X.cell? ⟨w.heap.size, 0, none⟩ = some (.int .i64 a) := by rw [cell_of_row X _ 0 _ _ (0, 0) hX1]; rfl
    have r1 : X.cell? ⟨w.heap.size, 1, none⟩ = some (.int .i64 b) := by rw [cell_of_row X _ 1 _ _ (0, 0) hX1]; rfl
    have r2 : X.cell? ⟨w.heap.size, 2, none⟩ = some (.int .i64 q) := by rw [cell_of_row X _ 2 _ _ (0, 0) hX1]; rfl
    exact bodyPost_ret (v := .tuple #[.agg #[.int .i64 a, .int .i64 b, .int .i64 q], .int .i64 (viE ms)]) (by rw [HE.out]; simp [results, Try.results37, go_sem, r0, r1, r2]) rfl ⟨by rw [HN.out], hX2⟩
  | false =>
    have HV := Lib.hid hv
    have HE : Hid (viE ms = 50) := Lib.hid (by rw [viE, hv]; rfl)
    clear hv
    go_enter Try.func37, Try.ntmps37
    go_wp2_with (first
      | (go_at_call 19; refine (valid_any ms A c _ (HH.out.below HB0.out).marks HH.out.len).mono ?_; rintro e w1 ⟨he, hB1⟩; rw [HV.out] at he; subst he; have HB1 := Lib.hid (HB0.out.trans (hB1.mono HB0.out.size)); have HG1 := Lib.hid ((hB1.block _ (by simp)).trans H0.out))
      | (refine wpList_store_row rfl 24 (.tmp 2) (.tmp 7) rfl w.heap.size #[.int .i64 0, .int .i64 0, .int .i64 0] rfl rfl 24 _ HG1.out (by kernel_rfl) (by kernel_rfl) (by kernel_rfl) ?_; refine row_world3 w.heap.size w _ _ (w.heap.size + 1) _ _ _ HG1.out HB1.out (Nat.le_refl _) (by omega) (fun X hX1 hX3 hX2 => ?_))
      | fail)
    have r0 : X.cell? ⟨w.heap.size, 0, none⟩ = some (.int .i64 0) := by rw [cell_of_row X _ 0 _ _ (0, 0) hX1]; rfl
    have r1 : X.cell? ⟨w.heap.size, 1, none⟩ = some (.int .i64 0) := by rw [cell_of_row X _ 1 _ _ (0, 0) hX1]; rfl
    have r2 : X.cell? ⟨w.heap.size, 2, none⟩ = some (.int .i64 0) := by rw [cell_of_row X _ 2 _ _ (0, 0) hX1]; rfl
    exact bodyPost_ret (v := .tuple #[.agg #[.int .i64 0, .int .i64 0, .int .i64 0], .int .i64 (viE ms)]) (by rw [HE.out]; simp [results, Try.results37, go_sem, r0, r1, r2]) rfl ⟨rfl, hX2⟩
set_option maxRecDepth 100000 in
set_option maxHeartbeats 1000000 in
theorem axis_any (ms : List (Int × Int)) (A : Option Addr) (c : Nat) (w : World) (h : Clk w A c ms) :
    Calls Try.prog 38 #[.slice A ms.length c] w fun e w' => e = .returned (.tuple #[lnV (if viP ms then narL ms else (0, 0, 0)), .int .i64 (viE ms)]) ∧ Below w.heap.size w w' := by
  have HH := Lib.hid h
  have H0 : Hid ((w.alloc (.cells #[.int .i64 0, .int .i64 0, .int .i64 0] 24)).heap[w.heap.size]? = some (.cells #[.int .i64 0, .int .i64 0, .int .i64 0] 24 (0, 0))) := Lib.hid (heap_alloc_new _ _)
  have HB0 : Hid (Below w.heap.size w (w.alloc (.cells #[.int .i64 0, .int .i64 0, .int .i64 0] 24))) := Lib.hid ((Below.refl _ _).alloc (Nat.le_refl _) _)
  clear h
  cases hv : viP ms with
  | true =>
    have HV := Lib.hid hv
    have HE : Hid (viE ms = 0) := Lib.hid (by rw [viE, hv]; rfl)
    clear hv
    obtain ⟨⟨a, b, q⟩, hl⟩ : ∃ z, narL ms = z := ⟨_, rfl⟩
    have HL := Lib.hid hl
    have HN : Hid (lnV (narL ms) = .agg #[.int .i64 a, .int .i64 b, .int .i64 q]) := Lib.hid (by rw [hl]; rfl)
    clear hl
    go_enter Try.func38, Try.ntmps38
    go_wp2_with (first
      | (go_at_call 19; refine (valid_any ms A c _ (HH.out.below HB0.out).marks HH.out.len).mono ?_; rintro e w1 ⟨he, hB1⟩; rw [HV.out] at he; subst he; have HB1 := Lib.hid (HB0.out.trans (hB1.mono HB0.out.size)); have HG1 := Lib.hid ((hB1.block _ (by simp)).trans H0.out))
      | (go_at_call 72; refine (narrowest_any ms A c _ (HH.out.below HB1.out) HV.out).mono ?_; rintro e w2 ⟨he, hB2⟩; rw [HL.out] at he; simp only [lnV] at he; subst he; have HB2 := Lib.hid (below_step HB1.out hB2); have HG2 := Lib.hid ((hB2.block _ (by have := hB1.size; simp at this; omega)).trans HG1.out))
      | (refine wpList_store_row rfl 24 (.tmp 2) (.tmp 9) rfl w.heap.size #[.int .i64 a, .int .i64 b, .int .i64 q] rfl rfl 24 _ HG2.out (by kernel_rfl) (by kernel_rfl) (by kernel_rfl) ?_; refine row_world3 w.heap.size w _ _ (w.heap.size + 1) _ _ _ HG2.out HB2.out (Nat.le_refl _) (by omega) (fun X hX1 hX3 hX2 => ?_))
      | fail)
    have r0 : X.cell? ⟨w.heap.size, 0, none⟩ = some (.int .i64 a) := by rw [cell_of_row X _ 0 _ _ (0, 0) hX1]; rfl
    have r1 : X.cell? ⟨w.heap.size, 1, none⟩ = some (.int .i64 b) := by rw [cell_of_row X _ 1 _ _ (0, 0) hX1]; rfl
    have r2 : X.cell? ⟨w.heap.size, 2, none⟩ = some (.int .i64 q) := by rw [cell_of_row X _ 2 _ _ (0, 0) hX1]; rfl
    exact bodyPost_ret (v := .tuple #[.agg #[.int .i64 a, .int .i64 b, .int .i64 q], .int .i64 (viE ms)]) (by rw [HE.out]; simp [results, Try.results38, go_sem, r0, r1, r2]) rfl ⟨by rw [HN.out], hX2⟩
  | false =>
    have HV := Lib.hid hv
    have HE : Hid (viE ms = 50) := Lib.hid (by rw [viE, hv]; rfl)
    clear hv
    go_enter Try.func38, Try.ntmps38
    go_wp2_with (first
      | (go_at_call 19; refine (valid_any ms A c _ (HH.out.below HB0.out).marks HH.out.len).mono ?_; rintro e w1 ⟨he, hB1⟩; rw [HV.out] at he; subst he; have HB1 := Lib.hid (HB0.out.trans (hB1.mono HB0.out.size)); have HG1 := Lib.hid ((hB1.block _ (by simp)).trans H0.out))
      | (refine wpList_store_row rfl 24 (.tmp 2) (.tmp 7) rfl w.heap.size #[.int .i64 0, .int .i64 0, .int .i64 0] rfl rfl 24 _ HG1.out (by kernel_rfl) (by kernel_rfl) (by kernel_rfl) ?_; refine row_world3 w.heap.size w _ _ (w.heap.size + 1) _ _ _ HG1.out HB1.out (Nat.le_refl _) (by omega) (fun X hX1 hX3 hX2 => ?_))
      | fail)
    have r0 : X.cell? ⟨w.heap.size, 0, none⟩ = some (.int .i64 0) := by rw [cell_of_row X _ 0 _ _ (0, 0) hX1]; rfl
    have r1 : X.cell? ⟨w.heap.size, 1, none⟩ = some (.int .i64 0) := by rw [cell_of_row X _ 1 _ _ (0, 0) hX1]; rfl
    have r2 : X.cell? ⟨w.heap.size, 2, none⟩ = some (.int .i64 0) := by rw [cell_of_row X _ 2 _ _ (0, 0) hX1]; rfl
    exact bodyPost_ret (v := .tuple #[.agg #[.int .i64 0, .int .i64 0, .int .i64 0], .int .i64 (viE ms)]) (by rw [HE.out]; simp [results, Try.results38, go_sem, r0, r1, r2]) rfl ⟨rfl, hX2⟩
end Go.Proofs.Ytoilbgngefleiaa
