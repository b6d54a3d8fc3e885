/-
  Contracts: Narrowest (track), Awake (the law package).
-/
import Derived.Test.YtoilbgngefleiaaNarrow
namespace Go.Proofs.Ytoilbgngefleiaa
open Go Go.RowKit Go.Shelf

def narV (ms : List (Int × Int)) : Int × Int := if viP ms then widT ms (narL ms) else (0, 0)
def viE (ms : List (Int × Int)) : Int := if viP ms then 0 else 50
set_option maxRecDepth 100000 in
set_option maxHeartbeats 1000000 in
theorem narrowest2_any (ms : List (Int × Int)) (A : Option Addr) (c : Nat) (w : World) (h : Clk w A c ms) :
    Calls Try.prog 33 #[.slice A ms.length c] w fun e w' => e = .returned (.tuple #[.agg #[.int .i64 (narV ms).1, .int .i64 (narV ms).2], .int .i64 (viE ms)]) ∧ Below w.heap.size w w' := by
  obtain ⟨⟨n, d⟩, hnd⟩ : ∃ z, narV ms = z := ⟨_, rfl⟩
  have HND := Lib.hid hnd
  have HH := Lib.hid h
  have h0 : (w.alloc (.cells #[.int .i64 0, .int .i64 0] 34)).heap[w.heap.size]? = some (.cells #[.int .i64 0, .int .i64 0] 34 (0, 0)) := heap_alloc_new _ _
  have H0 := Lib.hid h0
  have hB0 : Below w.heap.size w (w.alloc (.cells #[.int .i64 0, .int .i64 0] 34)) := (Below.refl _ _).alloc (Nat.le_refl _) _
  have HB0 := Lib.hid hB0
  clear h0 hB0 h
  rw [hnd]
  clear hnd
  cases hv : viP ms with
  | true =>
    have HV := Lib.hid hv
    have HE : Hid (viE ms = 0) := Lib.hid (by rw [viE, hv]; rfl)
    have HN : Hid (widT ms (narL ms) = (n, d)) := Lib.hid (by rw [← HND.out, narV, hv]; rfl)
    clear hv
    obtain ⟨⟨a, b, q⟩, hl⟩ : ∃ z, narL ms = z := ⟨_, rfl⟩
    have HL := Lib.hid hl
    clear hl
    go_enter Try.func33, Try.ntmps33
    go_wp2_with (first
      | (go_at_call 19; refine (valid_any ms A c _ (HH.out.below HB0.out).marks HH.out.len).mono ?_; rintro e w1 ⟨he, hB1⟩; rw [HV.out] at he; subst he; have HB1 := Lib.hid (HB0.out.trans (hB1.mono HB0.out.size)); have HG1 := Lib.hid ((hB1.block _ (by simp)).trans H0.out))
      | (go_at_call 72; refine (narrowest_any ms A c _ (HH.out.below HB1.out) HV.out).mono ?_; rintro e w2 ⟨he, hB2⟩; rw [HL.out] at he; simp only [lnV] at he; subst he; have HB2 := Lib.hid (below_step HB1.out hB2); have HG2 := Lib.hid ((hB2.block _ (by have := hB1.size; simp at this; omega)).trans HG1.out))
      | (go_at_call 68; refine (width_told (HH.out.below HB2.out) HV.out _ (a, b, q) (Below.refl _ _) (HL.out ▸ nar_ln HV.out)).mono ?_; rintro e w3 ⟨he, hB3⟩; rw [← HL.out, HN.out] at he; simp only at he; subst he; have HB3 := Lib.hid (below_step HB2.out hB3); have HG3 := Lib.hid ((hB3.block _ (Array.getElem?_eq_some_iff.1 HG2.out).1).trans HG2.out))
      | (refine wpList_store_row rfl 34 (.tmp 2) (.tmp 11) rfl w.heap.size #[.int .i64 n, .int .i64 d] rfl rfl 34 _ HG3.out (by kernel_rfl) (by kernel_rfl) (by kernel_rfl) ?_; refine row_world3 w.heap.size w _ _ (w.heap.size + 1) _ _ _ HG3.out HB3.out (Nat.le_refl _) (by omega) (fun X hX1 hX3 hX2 => ?_))
      | fail)
    have r0 : X.cell? ⟨w.heap.size, 0, none⟩ = some (.int .i64 n) := by rw [cell_of_row X _ 0 _ _ (0, 0) hX1]; rfl
    have r1 : X.cell? ⟨w.heap.size, 1, none⟩ = some (.int .i64 d) := by rw [cell_of_row X _ 1 _ _ (0, 0) hX1]; rfl
    exact bodyPost_ret (v := .tuple #[.agg #[.int .i64 n, .int .i64 d], .int .i64 (viE ms)]) (by rw [HE.out]; simp [results, Try.results33, go_sem, r0, r1]) rfl ⟨rfl, hX2⟩
  | false =>
    have HV := Lib.hid hv
    have HE : Hid (viE ms = 50) := Lib.hid (by rw [viE, hv]; rfl)
    have hN : (0, 0) = ((n, d) : Int × Int) := by rw [← HND.out, narV, hv]; rfl
    injection hN with hN1 hN2
    subst hN1 hN2
    clear hv
    go_enter Try.func33, Try.ntmps33
    go_wp2_with (first
      | (go_at_call 19; refine (valid_any ms A c _ (HH.out.below HB0.out).marks HH.out.len).mono ?_; rintro e w1 ⟨he, hB1⟩; rw [HV.out] at he; subst he; have HB1 := Lib.hid (HB0.out.trans (hB1.mono HB0.out.size)); have HG1 := Lib.hid ((hB1.block _ (by simp)).trans H0.out))
      | (refine wpList_store_row rfl 34 (.tmp 2) (.tmp 7) rfl w.heap.size #[.int .i64 0, .int .i64 0] rfl rfl 34 _ HG1.out (by kernel_rfl) (by kernel_rfl) (by kernel_rfl) ?_; refine row_world3 w.heap.size w _ _ (w.heap.size + 1) _ _ _ HG1.out HB1.out (Nat.le_refl _) (by omega) (fun X hX1 hX3 hX2 => ?_))
      | fail)
    have r0 : X.cell? ⟨w.heap.size, 0, none⟩ = some (.int .i64 0) := by rw [cell_of_row X _ 0 _ _ (0, 0) hX1]; rfl
    have r1 : X.cell? ⟨w.heap.size, 1, none⟩ = some (.int .i64 0) := by rw [cell_of_row X _ 1 _ _ (0, 0) hX1]; rfl
    exact bodyPost_ret (v := .tuple #[.agg #[.int .i64 0, .int .i64 0], .int .i64 (viE ms)]) (by rw [HE.out]; simp [results, Try.results33, go_sem, r0, r1]) rfl ⟨rfl, hX2⟩

theorem awake_val : narV [(0, 0), (0, 4), (1, 1)] = (2, 1) ∧ viE [(0, 0), (0, 4), (1, 1)] = 0 := by decide +kernel
set_option maxRecDepth 100000 in
set_option maxHeartbeats 1000000 in
theorem awake_any (w : World) : Calls Try.prog 16 #[] w fun e w' => e = .returned (.bool true) ∧ Below w.heap.size w w' := by
  obtain ⟨W0, hW0⟩ : ∃ W0, w.alloc (.cells #[.int .i64 0, .int .i64 0, .int .i64 0, .int .i64 4, .int .i64 1, .int .i64 1] 54) = W0 := ⟨_, rfl⟩
  have hB0 : Below w.heap.size w W0 := by rw [← hW0]; exact (Below.refl _ _).alloc (Nat.le_refl _) _
  have hO : W0.ownsRow w.heap.size 54 2 (.slice (some ⟨w.heap.size, 0, none⟩) 3 3) 3 (([(0, 0), (0, 4), (1, 1)] : List (Int × Int)).flatMap mk2) := by
    rw [← hW0]
    exact World.ownsRow_lit w #[.int .i64 0, .int .i64 0, .int .i64 0, .int .i64 4, .int .i64 1, .int .i64 1] 3 (Nat.le_refl _) (by unfold maxLen; omega) rfl
  have HC : Hid (Clk W0 (some ⟨w.heap.size, 0, none⟩) 3 [(0, 0), (0, 4), (1, 1)]) := Lib.hid ⟨Reads.of_own hO, Nat.le_refl _, by unfold maxLen; omega⟩
  have HN : Hid (Calls Try.prog 33 #[.slice (some ⟨w.heap.size, 0, none⟩) 3 3] W0 fun e w' => e = .returned (.tuple #[.agg #[.int .i64 2, .int .i64 1], .int .i64 0]) ∧ Below W0.heap.size W0 w') := Lib.hid (by
    have q := narrowest2_any [(0, 0), (0, 4), (1, 1)] (some ⟨w.heap.size, 0, none⟩) 3 W0 HC.out
    rw [awake_val.1, awake_val.2] at q
    exact q)
  have HB0 := Lib.hid hB0
  clear hO hB0
  go_enter Try.func16, Try.ntmps16
  go_wp2_with (first
    | (go_at_call 33; refine HN.out.mono ?_; rintro e w1 ⟨rfl, hB1⟩)
    | fail)
  go_ret
  exact ⟨rfl, (below_step HB0.out hB1).trans ((Below.refl _ _).alloc (by have := (below_step HB0.out hB1).size; omega) _)⟩
end Go.Proofs.Ytoilbgngefleiaa
