/-
  Contract: On (track).
-/
import Derived.Test.YtoilbgngefleiaaCostT
namespace Go.Proofs.Ytoilbgngefleiaa
open Go Go.RowKit Go.Shelf

def onV (ms : List (Int × Int)) (a b d : Int) : List Int := if ckE ms a b d = 0 then zeroL (ms.map (rsI a b d)) ms.length else []
set_option maxRecDepth 100000 in
set_option maxHeartbeats 1000000 in
theorem onTold_any (ms : List (Int × Int)) (A : Option Addr) (c : Nat) (a b d : Int) (w : World) (h : Clk w A c ms) :
    Calls Try.prog 28 #[.slice A ms.length c, .agg #[.int .i64 a, .int .i64 b, .int .i64 d]] w fun e w' => ∃ (A' : Option Addr) (c' : Nat) (ys : List Int), e = .returned (.tuple #[.slice A' ys.length c', .int .i64 (ckE ms a b d)]) ∧ Out w' A' c' ys ∧ Below w.heap.size w w' ∧ Hid (ys = onV ms a b d) := by
  obtain ⟨k, hk⟩ : ∃ k, ckE ms a b d = k := ⟨_, rfl⟩
  obtain ⟨W0, hW0⟩ : ∃ W0, w.alloc (.cells #[.int .i64 a, .int .i64 b, .int .i64 d] 24) = W0 := ⟨_, rfl⟩
  have hB0 : Below w.heap.size w W0 := by rw [← hW0]; exact (Below.refl _ _).alloc (Nat.le_refl _) _
  have hz : W0.heap.size = w.heap.size + 1 := by rw [← hW0]; simp
  have g0 : W0.heap[w.heap.size]? = some (.cells #[.int .i64 a, .int .i64 b, .int .i64 d] 24 (0, 0)) := by rw [← hW0]; exact heap_alloc_new _ _
  have y0 : W0.cell? ⟨w.heap.size, 0, none⟩ = some (.int .i64 a) := by rw [cell_of_row W0 _ 0 _ _ (0, 0) g0]; rfl
  have y1 : W0.cell? ⟨w.heap.size, 1, none⟩ = some (.int .i64 b) := by rw [cell_of_row W0 _ 1 _ _ (0, 0) g0]; rfl
  have y2 : W0.cell? ⟨w.heap.size, 2, none⟩ = some (.int .i64 d) := by rw [cell_of_row W0 _ 2 _ _ (0, 0) g0]; rfl
  have HH := Lib.hid (h.below hB0)
  have HB0 := Lib.hid hB0
  have HG0 := Lib.hid g0
  have HCK : Hid (Calls Try.prog 57 #[.slice A ms.length c, .agg #[.int .i64 a, .int .i64 b, .int .i64 d]] W0 fun e w' => e = .returned (.int .i64 k) ∧ Below W0.heap.size W0 w') := Lib.hid (by
    have q := check_any ms A c a b d W0 (h.below hB0).marks h.len
    rw [hk] at q
    exact q)
  have HK := Lib.hid hk
  clear h hB0 g0
  rw [hk]
  clear hk
  by_cases h0 : k = 0
  · subst h0
    have HV := Lib.hid (ck_zero HK.out)
    have hn := (vi_parts HV.out.1).1.2
    have HALL : Hid (ms.all ptB = true) := Lib.hid (List.all_eq_true.2 (vi_parts HV.out.1).2.1)
    go_enter Try.func28, Try.ntmps28
    go_wp2_with (first
      | (go_at_call 57; refine HCK.out.mono ?_; rintro e w1 ⟨rfl, hB1⟩; have g0 := Lib.hid ((hB1.block _ (by omega)).trans HG0.out); have x0 : w1.cell? ⟨w.heap.size, 0, none⟩ = some (.int .i64 a) := (by rw [cell_of_row w1 _ 0 _ _ (0, 0) g0.out]; rfl); have x1 : w1.cell? ⟨w.heap.size, 1, none⟩ = some (.int .i64 b) := (by rw [cell_of_row w1 _ 1 _ _ (0, 0) g0.out]; rfl); have x2 : w1.cell? ⟨w.heap.size, 2, none⟩ = some (.int .i64 d) := (by rw [cell_of_row w1 _ 2 _ _ (0, 0) g0.out]; rfl))
      | (go_at_call 69; refine (on_any ms A c a b d _ (HH.out.below hB1).marks (by omega) (ln_of HV.out.2) HALL.out).mono ?_; rintro e w2 ⟨A2, c2, ys, rfl, hO2, hB2, hys⟩)
      | fail)
    go_ret2
    exact ⟨A2, c2, ys, rfl, hO2, below_step (below_step HB0.out hB1) hB2, Lib.hid (by rw [hys.out, onV, if_pos HK.out])⟩
  · have t1 : (k == 0) = false := by simpa using h0
    have t2 : (k != 0) = true := by simpa using h0
    have HN : Hid ([] = onV ms a b d) := Lib.hid (by rw [onV, if_neg (by rw [HK.out]; exact h0)])
    go_enter Try.func28, Try.ntmps28
    go_wp2_with (go_at_call 57; refine HCK.out.mono ?_; rintro e w1 ⟨rfl, hB1⟩)
    go_ret2
    exact ⟨none, 0, [], rfl, Out.nil_, below_step HB0.out hB1, HN⟩
end Go.Proofs.Ytoilbgngefleiaa
