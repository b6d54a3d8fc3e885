/-
  Contracts: Cost, Width (firnref05).
-/
import Derived.Test.YtoilbgngefleiaaRefV
import Derived.Test.YtoilbgngefleiaaCostT
namespace Go.Proofs.Ytoilbgngefleiaa
open Go Go.RowKit Go.Shelf

set_option maxRecDepth 100000 in
set_option maxHeartbeats 1000000 in
theorem refCost_any (ms : List (Int × Int)) (A : Option Addr) (c : Nat) (a b d : Int) (w : World) (h : Clk w A c ms) :
    Calls Try.prog 25 #[.slice A ms.length c, .agg #[.int .i64 a, .int .i64 b, .int .i64 d]] w fun e w' => e = .returned (.tuple #[.agg #[.int .i64 (cosRV ms a b d).1, .int .i64 (cosRV ms a b d).2], .int .i64 (ckE ms a b d)]) ∧ Below w.heap.size w w' := by
  obtain ⟨⟨n, m⟩, hnm⟩ : ∃ z, cosRV ms a b d = z := ⟨_, rfl⟩
  obtain ⟨k, hk⟩ : ∃ k, ckE ms a b d = k := ⟨_, rfl⟩
  obtain ⟨W0, hW0⟩ : ∃ W0, (w.alloc (.cells #[.int .i64 a, .int .i64 b, .int .i64 d] 24)).alloc (.cells #[.int .i64 0, .int .i64 0] 34) = W0 := ⟨_, rfl⟩
  have hB0 : Below w.heap.size w W0 := by rw [← hW0]; exact ((Below.refl _ _).alloc (Nat.le_refl _) _).alloc (by simp) _
  have hz : W0.heap.size = w.heap.size + 2 := by rw [← hW0]; simp
  have g0 : W0.heap[w.heap.size]? = some (.cells #[.int .i64 a, .int .i64 b, .int .i64 d] 24 (0, 0)) := by rw [← hW0]; exact (Below.heap_alloc _ _ _ (by simp)).trans (heap_alloc_new _ _)
  have g1 : W0.heap[w.heap.size + 1]? = some (.cells #[.int .i64 0, .int .i64 0] 34 (0, 0)) := by rw [← hW0]; simpa using heap_alloc_new (w.alloc (.cells #[.int .i64 a, .int .i64 b, .int .i64 d] 24)) (.cells #[.int .i64 0, .int .i64 0] 34)
  have HH := Lib.hid (h.below hB0)
  have HLE := Lib.hid h.len
  have HB0 := Lib.hid hB0
  have y0 : W0.cell? ⟨w.heap.size, 0, none⟩ = some (.int .i64 a) := by rw [cell_of_row W0 _ 0 _ _ (0, 0) g0]; rfl
  have y1 : W0.cell? ⟨w.heap.size, 1, none⟩ = some (.int .i64 b) := by rw [cell_of_row W0 _ 1 _ _ (0, 0) g0]; rfl
  have y2 : W0.cell? ⟨w.heap.size, 2, none⟩ = some (.int .i64 d) := by rw [cell_of_row W0 _ 2 _ _ (0, 0) g0]; rfl
  have HG0 := Lib.hid g0
  have HG1 := Lib.hid g1
  have HCK : Hid (Calls Try.prog 60 #[.slice A ms.length c, .agg #[.int .i64 a, .int .i64 b, .int .i64 d]] W0 fun e w' => e = .returned (.int .i64 k) ∧ Below W0.heap.size W0 w') := Lib.hid (by
    have q := asked_any ms A c a b d W0 (h.below hB0).marks h.len
    rw [hk] at q
    exact q)
  have HK := Lib.hid hk
  have HNM := Lib.hid hnm
  clear h hB0 g0 g1
  rw [hk, hnm]
  clear hk hnm
  by_cases h0 : k = 0
  · subst h0
    have hT : cosT ms (a, b, d) = (n, m) := by rw [← HNM.out, cosRV, if_pos HK.out]
    have HT := Lib.hid hT
    have HV := Lib.hid (ck_zero HK.out)
    clear hT
    have HALL : Hid (ms.all ptB = true) := Lib.hid (List.all_eq_true.2 (vi_parts HV.out.1).2.1)
    have hlen := (vi_parts HV.out.1).1.2
    have hdd : 1 ≤ d ∧ d ≤ 100000 := (ln_of HV.out.2).2.2
    have hsb := sumA_bd (ms.map (rsI a b d)) (rs_all (ln_of HV.out.2) HALL.out)
    change 0 ≤ costI ms a b d ∧ costI ms a b d ≤ _ at hsb
    rw [List.length_map] at hsb
    have HSC : Hid (∀ V, Below W0.heap.size W0 V → Calls Try.prog 67 #[.slice A ms.length c, .agg #[.int .i64 a, .int .i64 b, .int .i64 d]] V fun e w' => e = .returned (.tuple #[.int .i64 (costI ms a b d), .int .i64 (widI ms a b d)]) ∧ Below V.heap.size V w') := Lib.hid fun V hV => refSums_any ms A c a b d V (HH.out.below hV).marks (by omega) (ln_of HV.out.2) HALL.out
    obtain ⟨s, hs⟩ : ∃ s, costI ms a b d = s := ⟨_, rfl⟩
    obtain ⟨t, ht⟩ : ∃ t, widI ms a b d = t := ⟨_, rfl⟩
    rw [hs, ht] at HSC
    rw [hs] at hsb
    have HRT : Hid (∀ V, Calls Try.prog 55 #[.int .i64 s, .int .i64 d] V fun e w' => e = .returned (.agg #[.int .i64 n, .int .i64 m]) ∧ Below V.heap.size V w') := Lib.hid fun V => by
      have q := refRatio_any s d V (by omega) (by omega) (by omega) (by omega)
      have e1 := HT.out
      simp only [cosT, hs] at e1
      injection e1 with e2 e3
      rw [e2, e3] at q
      exact q
    clear hsb
    go_enter Try.func25, Try.ntmps25
    go_wp2_with (first
      | (go_at_call 60; refine HCK.out.mono ?_; rintro e w1 ⟨rfl, hB1⟩; have g0 := Lib.hid ((hB1.block _ (by omega)).trans HG0.out); have g1 := Lib.hid ((hB1.block _ (by omega)).trans HG1.out); have x0 : w1.cell? ⟨w.heap.size, 0, none⟩ = some (.int .i64 a) := (by rw [cell_of_row w1 _ 0 _ _ (0, 0) g0.out]; rfl); have x1 : w1.cell? ⟨w.heap.size, 1, none⟩ = some (.int .i64 b) := (by rw [cell_of_row w1 _ 1 _ _ (0, 0) g0.out]; rfl); have x2 : w1.cell? ⟨w.heap.size, 2, none⟩ = some (.int .i64 d) := (by rw [cell_of_row w1 _ 2 _ _ (0, 0) g0.out]; rfl))
      | (go_at_call 67; refine (HSC.out w1 hB1).mono ?_; rintro e w2 ⟨rfl, hB2⟩; have HB2 := Lib.hid (below_step (below_step HB0.out hB1) hB2); have gg := Lib.hid ((hB2.block _ (by have := hB1.size; omega)).trans g0.out); have hz2 : w.heap.size + 1 < w2.heap.size := (by have := hB1.size; have := hB2.size; omega); have g3 := Lib.hid ((hB2.block _ (by have := hB1.size; omega)).trans g1.out); have z2 : w2.cell? ⟨w.heap.size, 2, none⟩ = some (.int .i64 d) := (by rw [cell_of_row w2 _ 2 _ _ (0, 0) gg.out]; rfl))
      | (go_at_call 55; refine (HRT.out w2).mono ?_; rintro e w5 ⟨rfl, hB5⟩; have HB5 := Lib.hid (HB2.out.trans (hB5.mono HB2.out.size)); have g2 := Lib.hid ((hB5.block _ hz2).trans g3.out))
      | (refine wpList_store_row rfl 34 (.tmp 4) (.tmp 25) rfl (w.heap.size + 1) #[.int .i64 n, .int .i64 m] rfl rfl 34 _ g2.out (by kernel_rfl) (by kernel_rfl) (by kernel_rfl) ?_; refine row_world3 w.heap.size w _ _ w.heap.size _ _ _ g2.out HB5.out (by omega) (by omega) (fun X hX1 hX3 hX2 => ?_))
      | fail)
    have r0 : X.cell? ⟨w.heap.size + 1, 0, none⟩ = some (.int .i64 n) := by rw [cell_of_row X _ 0 _ _ (0, 0) hX1]; rfl
    have r1 : X.cell? ⟨w.heap.size + 1, 1, none⟩ = some (.int .i64 m) := by rw [cell_of_row X _ 1 _ _ (0, 0) hX1]; rfl
    exact bodyPost_ret (v := .tuple #[.agg #[.int .i64 n, .int .i64 m], .int .i64 0]) (by simp [results, Try.results25, go_sem, r0, r1]) rfl ⟨rfl, hX2⟩
  · have t1 : (k == 0) = false := by simpa using h0
    have t2 : (k != 0) = true := by simpa using h0
    have hN : ((0, 0) : Int × Int) = (n, m) := by rw [← HNM.out, cosRV, if_neg (by rw [HK.out]; exact h0)]
    injection hN with hN1 hN2
    subst hN1 hN2
    go_enter Try.func25, Try.ntmps25
    go_wp2_with (first
      | (go_at_call 60; refine HCK.out.mono ?_; rintro e w1 ⟨rfl, hB1⟩; have HB1 := Lib.hid (below_step HB0.out hB1); have g1 := Lib.hid ((hB1.block _ (by omega)).trans HG1.out))
      | (refine wpList_store_row rfl 34 (.tmp 4) (.tmp 14) rfl (w.heap.size + 1) #[.int .i64 0, .int .i64 0] rfl rfl 34 _ g1.out (by kernel_rfl) (by kernel_rfl) (by kernel_rfl) ?_; refine row_world3 w.heap.size w _ _ w.heap.size _ _ _ g1.out HB1.out (by omega) (by omega) (fun X hX1 hX3 hX2 => ?_))
      | fail)
    have r0 : X.cell? ⟨w.heap.size + 1, 0, none⟩ = some (.int .i64 0) := by rw [cell_of_row X _ 0 _ _ (0, 0) hX1]; rfl
    have r1 : X.cell? ⟨w.heap.size + 1, 1, none⟩ = some (.int .i64 0) := by rw [cell_of_row X _ 1 _ _ (0, 0) hX1]; rfl
    exact bodyPost_ret (v := .tuple #[.agg #[.int .i64 0, .int .i64 0], .int .i64 k]) (by simp [results, Try.results25, go_sem, r0, r1]) rfl ⟨rfl, hX2⟩

set_option maxRecDepth 100000 in
set_option maxHeartbeats 1000000 in
theorem refWidth_any (ms : List (Int × Int)) (A : Option Addr) (c : Nat) (a b d : Int) (w : World) (h : Clk w A c ms) :
    Calls Try.prog 27 #[.slice A ms.length c, .agg #[.int .i64 a, .int .i64 b, .int .i64 d]] w fun e w' => e = .returned (.tuple #[.agg #[.int .i64 (widRV ms a b d).1, .int .i64 (widRV ms a b d).2], .int .i64 (ckE ms a b d)]) ∧ Below w.heap.size w w' := by
  obtain ⟨⟨n, m⟩, hnm⟩ : ∃ z, widRV ms a b d = z := ⟨_, rfl⟩
  obtain ⟨k, hk⟩ : ∃ k, ckE ms a b d = k := ⟨_, rfl⟩
  obtain ⟨W0, hW0⟩ : ∃ W0, (w.alloc (.cells #[.int .i64 a, .int .i64 b, .int .i64 d] 24)).alloc (.cells #[.int .i64 0, .int .i64 0] 34) = W0 := ⟨_, rfl⟩
  have hB0 : Below w.heap.size w W0 := by rw [← hW0]; exact ((Below.refl _ _).alloc (Nat.le_refl _) _).alloc (by simp) _
  have hz : W0.heap.size = w.heap.size + 2 := by rw [← hW0]; simp
  have g0 : W0.heap[w.heap.size]? = some (.cells #[.int .i64 a, .int .i64 b, .int .i64 d] 24 (0, 0)) := by rw [← hW0]; exact (Below.heap_alloc _ _ _ (by simp)).trans (heap_alloc_new _ _)
  have g1 : W0.heap[w.heap.size + 1]? = some (.cells #[.int .i64 0, .int .i64 0] 34 (0, 0)) := by rw [← hW0]; simpa using heap_alloc_new (w.alloc (.cells #[.int .i64 a, .int .i64 b, .int .i64 d] 24)) (.cells #[.int .i64 0, .int .i64 0] 34)
  have HH := Lib.hid (h.below hB0)
  have HLE := Lib.hid h.len
  have HB0 := Lib.hid hB0
  have y0 : W0.cell? ⟨w.heap.size, 0, none⟩ = some (.int .i64 a) := by rw [cell_of_row W0 _ 0 _ _ (0, 0) g0]; rfl
  have y1 : W0.cell? ⟨w.heap.size, 1, none⟩ = some (.int .i64 b) := by rw [cell_of_row W0 _ 1 _ _ (0, 0) g0]; rfl
  have y2 : W0.cell? ⟨w.heap.size, 2, none⟩ = some (.int .i64 d) := by rw [cell_of_row W0 _ 2 _ _ (0, 0) g0]; rfl
  have HG0 := Lib.hid g0
  have HG1 := Lib.hid g1
  have HCK : Hid (Calls Try.prog 60 #[.slice A ms.length c, .agg #[.int .i64 a, .int .i64 b, .int .i64 d]] W0 fun e w' => e = .returned (.int .i64 k) ∧ Below W0.heap.size W0 w') := Lib.hid (by
    have q := asked_any ms A c a b d W0 (h.below hB0).marks h.len
    rw [hk] at q
    exact q)
  have HK := Lib.hid hk
  have HNM := Lib.hid hnm
  clear h hB0 g0 g1
  rw [hk, hnm]
  clear hk hnm
  by_cases h0 : k = 0
  · subst h0
    have hT : widT ms (a, b, d) = (n, m) := by rw [← HNM.out, widRV, if_pos HK.out]
    have HT := Lib.hid hT
    have HV := Lib.hid (ck_zero HK.out)
    clear hT
    have HALL : Hid (ms.all ptB = true) := Lib.hid (List.all_eq_true.2 (vi_parts HV.out.1).2.1)
    have hlen := (vi_parts HV.out.1).1.2
    have hdd : 1 ≤ d ∧ d ≤ 100000 := (ln_of HV.out.2).2.2
    have hsb := mostA_bd (ms.map (rsI a b d)) (rs_all (ln_of HV.out.2) HALL.out)
    change 0 ≤ widI ms a b d ∧ widI ms a b d ≤ _ at hsb
    rw [List.length_map] at hsb
    have HSC : Hid (∀ V, Below W0.heap.size W0 V → Calls Try.prog 67 #[.slice A ms.length c, .agg #[.int .i64 a, .int .i64 b, .int .i64 d]] V fun e w' => e = .returned (.tuple #[.int .i64 (costI ms a b d), .int .i64 (widI ms a b d)]) ∧ Below V.heap.size V w') := Lib.hid fun V hV => refSums_any ms A c a b d V (HH.out.below hV).marks (by omega) (ln_of HV.out.2) HALL.out
    obtain ⟨s, hs⟩ : ∃ s, costI ms a b d = s := ⟨_, rfl⟩
    obtain ⟨t, ht⟩ : ∃ t, widI ms a b d = t := ⟨_, rfl⟩
    rw [hs, ht] at HSC
    rw [ht] at hsb
    have HRT : Hid (∀ V, Calls Try.prog 55 #[.int .i64 t, .int .i64 d] V fun e w' => e = .returned (.agg #[.int .i64 n, .int .i64 m]) ∧ Below V.heap.size V w') := Lib.hid fun V => by
      have q := refRatio_any t d V (by omega) (by omega) (by omega) (by omega)
      have e1 := HT.out
      simp only [widT, ht] at e1
      injection e1 with e2 e3
      rw [e2, e3] at q
      exact q
    clear hsb
    go_enter Try.func27, Try.ntmps27
    go_wp2_with (first
      | (go_at_call 60; refine HCK.out.mono ?_; rintro e w1 ⟨rfl, hB1⟩; have g0 := Lib.hid ((hB1.block _ (by omega)).trans HG0.out); have g1 := Lib.hid ((hB1.block _ (by omega)).trans HG1.out); have x0 : w1.cell? ⟨w.heap.size, 0, none⟩ = some (.int .i64 a) := (by rw [cell_of_row w1 _ 0 _ _ (0, 0) g0.out]; rfl); have x1 : w1.cell? ⟨w.heap.size, 1, none⟩ = some (.int .i64 b) := (by rw [cell_of_row w1 _ 1 _ _ (0, 0) g0.out]; rfl); have x2 : w1.cell? ⟨w.heap.size, 2, none⟩ = some (.int .i64 d) := (by rw [cell_of_row w1 _ 2 _ _ (0, 0) g0.out]; rfl))
      | (go_at_call 67; refine (HSC.out w1 hB1).mono ?_; rintro e w2 ⟨rfl, hB2⟩; have HB2 := Lib.hid (below_step (below_step HB0.out hB1) hB2); have gg := Lib.hid ((hB2.block _ (by have := hB1.size; omega)).trans g0.out); have hz2 : w.heap.size + 1 < w2.heap.size := (by have := hB1.size; have := hB2.size; omega); have g3 := Lib.hid ((hB2.block _ (by have := hB1.size; omega)).trans g1.out); have z2 : w2.cell? ⟨w.heap.size, 2, none⟩ = some (.int .i64 d) := (by rw [cell_of_row w2 _ 2 _ _ (0, 0) gg.out]; rfl))
      | (go_at_call 55; refine (HRT.out w2).mono ?_; rintro e w5 ⟨rfl, hB5⟩; have HB5 := Lib.hid (HB2.out.trans (hB5.mono HB2.out.size)); have g2 := Lib.hid ((hB5.block _ hz2).trans g3.out))
      | (refine wpList_store_row rfl 34 (.tmp 4) (.tmp 25) rfl (w.heap.size + 1) #[.int .i64 n, .int .i64 m] rfl rfl 34 _ g2.out (by kernel_rfl) (by kernel_rfl) (by kernel_rfl) ?_; refine row_world3 w.heap.size w _ _ w.heap.size _ _ _ g2.out HB5.out (by omega) (by omega) (fun X hX1 hX3 hX2 => ?_))
      | fail)
    have r0 : X.cell? ⟨w.heap.size + 1, 0, none⟩ = some (.int .i64 n) := by rw [cell_of_row X _ 0 _ _ (0, 0) hX1]; rfl
    have r1 : X.cell? ⟨w.heap.size + 1, 1, none⟩ = some (.int .i64 m) := by rw [cell_of_row X _ 1 _ _ (0, 0) hX1]; rfl
    exact bodyPost_ret (v := .tuple #[.agg #[.int .i64 n, .int .i64 m], .int .i64 0]) (by simp [results, Try.results27, go_sem, r0, r1]) rfl ⟨rfl, hX2⟩
  · have t1 : (k == 0) = false := by simpa using h0
    have t2 : (k != 0) = true := by simpa using h0
    have hN : ((0, 0) : Int × Int) = (n, m) := by rw [← HNM.out, widRV, if_neg (by rw [HK.out]; exact h0)]
    injection hN with hN1 hN2
    subst hN1 hN2
    go_enter Try.func27, Try.ntmps27
    go_wp2_with (first
      | (go_at_call 60; refine HCK.out.mono ?_; rintro e w1 ⟨rfl, hB1⟩; have HB1 := Lib.hid (below_step HB0.out hB1); have g1 := Lib.hid ((hB1.block _ (by omega)).trans HG1.out))
      | (refine wpList_store_row rfl 34 (.tmp 4) (.tmp 14) rfl (w.heap.size + 1) #[.int .i64 0, .int .i64 0] rfl rfl 34 _ g1.out (by kernel_rfl) (by kernel_rfl) (by kernel_rfl) ?_; refine row_world3 w.heap.size w _ _ w.heap.size _ _ _ g1.out HB1.out (by omega) (by omega) (fun X hX1 hX3 hX2 => ?_))
      | fail)
    have r0 : X.cell? ⟨w.heap.size + 1, 0, none⟩ = some (.int .i64 0) := by rw [cell_of_row X _ 0 _ _ (0, 0) hX1]; rfl
    have r1 : X.cell? ⟨w.heap.size + 1, 1, none⟩ = some (.int .i64 0) := by rw [cell_of_row X _ 1 _ _ (0, 0) hX1]; rfl
    exact bodyPost_ret (v := .tuple #[.agg #[.int .i64 0, .int .i64 0], .int .i64 k]) (by simp [results, Try.results27, go_sem, r0, r1]) rfl ⟨rfl, hX2⟩

end Go.Proofs.Ytoilbgngefleiaa
