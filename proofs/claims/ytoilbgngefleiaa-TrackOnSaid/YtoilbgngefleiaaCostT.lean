/-
  Contracts: Cost, Width, On (track).
-/
import Derived.Test.YtoilbgngefleiaaCheap
import Derived.Test.YtoilbgngefleiaaCheck
namespace Go.Proofs.Ytoilbgngefleiaa
open Go Go.RowKit Go.Shelf

theorem ck_zero {ms : List (Int × Int)} {a b d : Int} (h : ckE ms a b d = 0) : viP ms = true ∧ lnB a b d = true := by
  unfold ckE at h
  split at h
  · rename_i h1
    split at h
    · rename_i h2
      exact ⟨h1, h2⟩
    · omega
  · omega
theorem ln_of {a b d : Int} (h : lnB a b d = true) : LnP (a, b, d) := by
  simp only [lnB, inB, Bool.and_eq_true, decide_eq_true_eq] at h
  unfold LnP LnB
  simp only
  omega

def cosRV (ms : List (Int × Int)) (a b d : Int) : Int × Int := if ckE ms a b d = 0 then cosT ms (a, b, d) else (0, 0)
set_option maxRecDepth 100000 in
set_option maxHeartbeats 1000000 in
theorem cosRTold_any (ms : List (Int × Int)) (A : Option Addr) (c : Nat) (a b d : Int) (w : World) (h : Clk w A c ms) :
    Calls Try.prog 24 #[.slice A ms.length c, .agg #[.int .i64 a, .int .i64 b, .int .i64 d]] w fun e w' => e = .returned (.tuple #[.agg #[.int .i64 (cosRV ms a b d).1, .int .i64 (cosRV ms a b d).2], .int .i64 (ckE ms a b d)]) ∧ Below w.heap.size w w' := by
  obtain ⟨⟨n, m⟩, hnm⟩ : ∃ z, cosRV ms a b d = z := ⟨_, rfl⟩
  obtain ⟨k, hk⟩ : ∃ k, ckE ms a b d = k := ⟨_, rfl⟩
  obtain ⟨W0, hW0⟩ : ∃ W0, (w.alloc (.cells #[.int .i64 a, .int .i64 b, .int .i64 d] 24)).alloc (.cells #[.int .i64 0, .int .i64 0] 34) = W0 := ⟨_, rfl⟩
  have hB0 : Below w.heap.size w W0 := by rw [← hW0]; exact ((Below.refl _ _).alloc (Nat.le_refl _) _).alloc (by simp) _
  have hz : W0.heap.size = w.heap.size + 2 := by rw [← hW0]; simp
  have g0 : W0.heap[w.heap.size]? = some (.cells #[.int .i64 a, .int .i64 b, .int .i64 d] 24 (0, 0)) := by rw [← hW0]; exact (Below.heap_alloc _ _ _ (by simp)).trans (heap_alloc_new _ _)
  have g1 : W0.heap[w.heap.size + 1]? = some (.cells #[.int .i64 0, .int .i64 0] 34 (0, 0)) := by rw [← hW0]; simpa using heap_alloc_new (w.alloc (.cells #[.int .i64 a, .int .i64 b, .int .i64 d] 24)) (.cells #[.int .i64 0, .int .i64 0] 34)
  have HH := Lib.hid (h.below hB0)
  have HLE := Lib.hid h.len
  have HB0 := Lib.hid hB0
  have y0 : W0.cell? ⟨w.heap.size, 0, none⟩ = some (.int .i64 a) := by rw [cell_of_row W0 _ 0 _ _ (0, 0) g0]; rfl
  have y1 : W0.cell? ⟨w.heap.size, 1, none⟩ = some (.int .i64 b) := by rw [cell_of_row W0 _ 1 _ _ (0, 0) g0]; rfl
  have y2 : W0.cell? ⟨w.heap.size, 2, none⟩ = some (.int .i64 d) := by rw [cell_of_row W0 _ 2 _ _ (0, 0) g0]; rfl
  have HG0 := Lib.hid g0
  have HG1 := Lib.hid g1
  have HCK : Hid (Calls Try.prog 57 #[.slice A ms.length c, .agg #[.int .i64 a, .int .i64 b, .int .i64 d]] W0 fun e w' => e = .returned (.int .i64 k) ∧ Below W0.heap.size W0 w') := Lib.hid (by
    have q := check_any ms A c a b d W0 (h.below hB0).marks h.len
    rw [hk] at q
    exact q)
  have HK := Lib.hid hk
  have HNM := Lib.hid hnm
  clear h hB0 g0 g1
  rw [hk, hnm]
  clear hk hnm
  by_cases h0 : k = 0
  · subst h0
    have hT : cosT ms (a, b, d) = (n, m) := by rw [← HNM.out, cosRV, if_pos HK.out]
    have HT := Lib.hid hT
    have HV := Lib.hid (ck_zero HK.out)
    clear hT
    go_enter Try.func24, Try.ntmps24
    go_wp2_with (first
      | (go_at_call 57; refine HCK.out.mono ?_; rintro e w1 ⟨rfl, hB1⟩; have g0 := Lib.hid ((hB1.block _ (by omega)).trans HG0.out); have g1 := Lib.hid ((hB1.block _ (by omega)).trans HG1.out); have x0 : w1.cell? ⟨w.heap.size, 0, none⟩ = some (.int .i64 a) := (by rw [cell_of_row w1 _ 0 _ _ (0, 0) g0.out]; rfl); have x1 : w1.cell? ⟨w.heap.size, 1, none⟩ = some (.int .i64 b) := (by rw [cell_of_row w1 _ 1 _ _ (0, 0) g0.out]; rfl); have x2 : w1.cell? ⟨w.heap.size, 2, none⟩ = some (.int .i64 d) := (by rw [cell_of_row w1 _ 2 _ _ (0, 0) g0.out]; rfl))
      | (go_at_call 66; refine (cost_told (HH.out.below hB1) HV.out.1 _ (a, b, d) (Below.refl _ _) (ln_of HV.out.2)).mono ?_; rintro e w2 ⟨he, hB2⟩; rw [HT.out] at he; simp only at he; subst he; have HB2 := Lib.hid (below_step (below_step HB0.out hB1) hB2); have g2 := Lib.hid ((hB2.block _ (Array.getElem?_eq_some_iff.1 g1.out).1).trans g1.out))
      | (refine wpList_store_row rfl 34 (.tmp 4) (.tmp 16) rfl (w.heap.size + 1) #[.int .i64 n, .int .i64 m] rfl rfl 34 _ g2.out (by kernel_rfl) (by kernel_rfl) (by kernel_rfl) ?_; refine row_world3 w.heap.size w _ _ w.heap.size _ _ _ g2.out HB2.out (by omega) (by omega) (fun X hX1 hX3 hX2 => ?_))
      | fail)
    have r0 : X.cell? ⟨w.heap.size + 1, 0, none⟩ = some (.int .i64 n) := by rw [cell_of_row X _ 0 _ _ (0, 0) hX1]; rfl
    have r1 : X.cell? ⟨w.heap.size + 1, 1, none⟩ = some (.int .i64 m) := by rw [cell_of_row X _ 1 _ _ (0, 0) hX1]; rfl
    exact bodyPost_ret (v := .tuple #[.agg #[.int .i64 n, .int .i64 m], .int .i64 0]) (by simp [results, Try.results24, go_sem, r0, r1]) rfl ⟨rfl, hX2⟩
  · have t1 : (k == 0) = false := by simpa using h0
    have t2 : (k != 0) = true := by simpa using h0
    have hN : ((0, 0) : Int × Int) = (n, m) := by rw [← HNM.out, cosRV, if_neg (by rw [HK.out]; exact h0)]
    injection hN with hN1 hN2
    subst hN1 hN2
    go_enter Try.func24, Try.ntmps24
    go_wp2_with (first
      | (go_at_call 57; refine HCK.out.mono ?_; rintro e w1 ⟨rfl, hB1⟩; have HB1 := Lib.hid (below_step HB0.out hB1); have g1 := Lib.hid ((hB1.block _ (by omega)).trans HG1.out))
      | (refine wpList_store_row rfl 34 (.tmp 4) (.tmp 12) rfl (w.heap.size + 1) #[.int .i64 0, .int .i64 0] rfl rfl 34 _ g1.out (by kernel_rfl) (by kernel_rfl) (by kernel_rfl) ?_; refine row_world3 w.heap.size w _ _ w.heap.size _ _ _ g1.out HB1.out (by omega) (by omega) (fun X hX1 hX3 hX2 => ?_))
      | fail)
    have r0 : X.cell? ⟨w.heap.size + 1, 0, none⟩ = some (.int .i64 0) := by rw [cell_of_row X _ 0 _ _ (0, 0) hX1]; rfl
    have r1 : X.cell? ⟨w.heap.size + 1, 1, none⟩ = some (.int .i64 0) := by rw [cell_of_row X _ 1 _ _ (0, 0) hX1]; rfl
    exact bodyPost_ret (v := .tuple #[.agg #[.int .i64 0, .int .i64 0], .int .i64 k]) (by simp [results, Try.results24, go_sem, r0, r1]) rfl ⟨rfl, hX2⟩

def widRV (ms : List (Int × Int)) (a b d : Int) : Int × Int := if ckE ms a b d = 0 then widT ms (a, b, d) else (0, 0)
set_option maxRecDepth 100000 in
set_option maxHeartbeats 1000000 in
theorem widRTold_any (ms : List (Int × Int)) (A : Option Addr) (c : Nat) (a b d : Int) (w : World) (h : Clk w A c ms) :
    Calls Try.prog 26 #[.slice A ms.length c, .agg #[.int .i64 a, .int .i64 b, .int .i64 d]] w fun e w' => e = .returned (.tuple #[.agg #[.int .i64 (widRV ms a b d).1, .int .i64 (widRV ms a b d).2], .int .i64 (ckE ms a b d)]) ∧ Below w.heap.size w w' := by
  obtain ⟨⟨n, m⟩, hnm⟩ : ∃ z, widRV ms a b d = z := ⟨_, rfl⟩
  obtain ⟨k, hk⟩ : ∃ k, ckE ms a b d = k := ⟨_, rfl⟩
  obtain ⟨W0, hW0⟩ : ∃ W0, (w.alloc (.cells #[.int .i64 a, .int .i64 b, .int .i64 d] 24)).alloc (.cells #[.int .i64 0, .int .i64 0] 34) = W0 := ⟨_, rfl⟩
  have hB0 : Below w.heap.size w W0 := by rw [← hW0]; exact ((Below.refl _ _).alloc (Nat.le_refl _) _).alloc (by simp) _
  have hz : W0.heap.size = w.heap.size + 2 := by rw [← hW0]; simp
  have g0 : W0.heap[w.heap.size]? = some (.cells #[.int .i64 a, .int .i64 b, .int .i64 d] 24 (0, 0)) := by rw [← hW0]; exact (Below.heap_alloc _ _ _ (by simp)).trans (heap_alloc_new _ _)
  have g1 : W0.heap[w.heap.size + 1]? = some (.cells #[.int .i64 0, .int .i64 0] 34 (0, 0)) := by rw [← hW0]; simpa using heap_alloc_new (w.alloc (.cells #[.int .i64 a, .int .i64 b, .int .i64 d] 24)) (.cells #[.int .i64 0, .int .i64 0] 34)
  have HH := Lib.hid (h.below hB0)
  have HLE := Lib.hid h.len
  have HB0 := Lib.hid hB0
  have y0 : W0.cell? ⟨w.heap.size, 0, none⟩ = some (.int .i64 a) := by rw [cell_of_row W0 _ 0 _ _ (0, 0) g0]; rfl
  have y1 : W0.cell? ⟨w.heap.size, 1, none⟩ = some (.int .i64 b) := by rw [cell_of_row W0 _ 1 _ _ (0, 0) g0]; rfl
  have y2 : W0.cell? ⟨w.heap.size, 2, none⟩ = some (.int .i64 d) := by rw [cell_of_row W0 _ 2 _ _ (0, 0) g0]; rfl
  have HG0 := Lib.hid g0
  have HG1 := Lib.hid g1
  have HCK : Hid (Calls Try.prog 57 #[.slice A ms.length c, .agg #[.int .i64 a, .int .i64 b, .int .i64 d]] W0 fun e w' => e = .returned (.int .i64 k) ∧ Below W0.heap.size W0 w') := Lib.hid (by
    have q := check_any ms A c a b d W0 (h.below hB0).marks h.len
    rw [hk] at q
    exact q)
  have HK := Lib.hid hk
  have HNM := Lib.hid hnm
  clear h hB0 g0 g1
  rw [hk, hnm]
  clear hk hnm
  by_cases h0 : k = 0
  · subst h0
    have hT : widT ms (a, b, d) = (n, m) := by rw [← HNM.out, widRV, if_pos HK.out]
    have HT := Lib.hid hT
    have HV := Lib.hid (ck_zero HK.out)
    clear hT
    go_enter Try.func26, Try.ntmps26
    go_wp2_with (first
      | (go_at_call 57; refine HCK.out.mono ?_; rintro e w1 ⟨rfl, hB1⟩; have g0 := Lib.hid ((hB1.block _ (by omega)).trans HG0.out); have g1 := Lib.hid ((hB1.block _ (by omega)).trans HG1.out); have x0 : w1.cell? ⟨w.heap.size, 0, none⟩ = some (.int .i64 a) := (by rw [cell_of_row w1 _ 0 _ _ (0, 0) g0.out]; rfl); have x1 : w1.cell? ⟨w.heap.size, 1, none⟩ = some (.int .i64 b) := (by rw [cell_of_row w1 _ 1 _ _ (0, 0) g0.out]; rfl); have x2 : w1.cell? ⟨w.heap.size, 2, none⟩ = some (.int .i64 d) := (by rw [cell_of_row w1 _ 2 _ _ (0, 0) g0.out]; rfl))
      | (go_at_call 68; refine (width_told (HH.out.below hB1) HV.out.1 _ (a, b, d) (Below.refl _ _) (ln_of HV.out.2)).mono ?_; rintro e w2 ⟨he, hB2⟩; rw [HT.out] at he; simp only at he; subst he; have HB2 := Lib.hid (below_step (below_step HB0.out hB1) hB2); have g2 := Lib.hid ((hB2.block _ (Array.getElem?_eq_some_iff.1 g1.out).1).trans g1.out))
      | (refine wpList_store_row rfl 34 (.tmp 4) (.tmp 16) rfl (w.heap.size + 1) #[.int .i64 n, .int .i64 m] rfl rfl 34 _ g2.out (by kernel_rfl) (by kernel_rfl) (by kernel_rfl) ?_; refine row_world3 w.heap.size w _ _ w.heap.size _ _ _ g2.out HB2.out (by omega) (by omega) (fun X hX1 hX3 hX2 => ?_))
      | fail)
    have r0 : X.cell? ⟨w.heap.size + 1, 0, none⟩ = some (.int .i64 n) := by rw [cell_of_row X _ 0 _ _ (0, 0) hX1]; rfl
    have r1 : X.cell? ⟨w.heap.size + 1, 1, none⟩ = some (.int .i64 m) := by rw [cell_of_row X _ 1 _ _ (0, 0) hX1]; rfl
    exact bodyPost_ret (v := .tuple #[.agg #[.int .i64 n, .int .i64 m], .int .i64 0]) (by simp [results, Try.results26, go_sem, r0, r1]) rfl ⟨rfl, hX2⟩
  · have t1 : (k == 0) = false := by simpa using h0
    have t2 : (k != 0) = true := by simpa using h0
    have hN : ((0, 0) : Int × Int) = (n, m) := by rw [← HNM.out, widRV, if_neg (by rw [HK.out]; exact h0)]
    injection hN with hN1 hN2
    subst hN1 hN2
    go_enter Try.func26, Try.ntmps26
    go_wp2_with (first
      | (go_at_call 57; refine HCK.out.mono ?_; rintro e w1 ⟨rfl, hB1⟩; have HB1 := Lib.hid (below_step HB0.out hB1); have g1 := Lib.hid ((hB1.block _ (by omega)).trans HG1.out))
      | (refine wpList_store_row rfl 34 (.tmp 4) (.tmp 12) rfl (w.heap.size + 1) #[.int .i64 0, .int .i64 0] rfl rfl 34 _ g1.out (by kernel_rfl) (by kernel_rfl) (by kernel_rfl) ?_; refine row_world3 w.heap.size w _ _ w.heap.size _ _ _ g1.out HB1.out (by omega) (by omega) (fun X hX1 hX3 hX2 => ?_))
      | fail)
    have r0 : X.cell? ⟨w.heap.size + 1, 0, none⟩ = some (.int .i64 0) := by rw [cell_of_row X _ 0 _ _ (0, 0) hX1]; rfl
    have r1 : X.cell? ⟨w.heap.size + 1, 1, none⟩ = some (.int .i64 0) := by rw [cell_of_row X _ 1 _ _ (0, 0) hX1]; rfl
    exact bodyPost_ret (v := .tuple #[.agg #[.int .i64 0, .int .i64 0], .int .i64 k]) (by simp [results, Try.results26, go_sem, r0, r1]) rfl ⟨rfl, hX2⟩
end Go.Proofs.Ytoilbgngefleiaa
