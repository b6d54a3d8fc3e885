/-
  Contract: lineOf by the true times.
-/
import Derived.Test.YtjghlfagdleglaaLineOf
namespace Go.Proofs.Ytjghlfagdleglaa
open Go.RowKit

set_option maxRecDepth 100000 in
set_option maxHeartbeats 1600000 in
theorem lineOfT_any (ms : List (Int × Int)) (A : Option Addr) (c : Nat) (N D : Int) (w : World) (h : Clk w A c ms) (hv : vkB ms = true) (hD0 : 1 ≤ D) (hD1 : D ≤ 100000) :
    Calls Try.prog 64 #[.slice A ms.length c, .func (Fn.func 65) #[] #[], .agg #[.int .i64 N, .int .i64 D]] w fun e w' => ∃ a b p q : Int, e = .returned (.agg #[.int .i64 a, .int .i64 b, .int .i64 p, .int .i64 q]) ∧ Below w.heap.size w w' ∧
      Hid (ms[segI (fun i => decide ((ms.getD i (0, 0)).2 * D ≤ N)) (ms.length - 2)]? = some (a, b) ∧ ms[segI (fun i => decide ((ms.getD i (0, 0)).2 * D ≤ N)) (ms.length - 2) + 1]? = some (p, q)) := by
  obtain ⟨hn2, hn30⟩ := vk_parts hv
  have HV := Lib.hid hv
  have H := Lib.hid h
  clear hv h
  go_enter Try.func64, Try.ntmps64
  go_wp2_with fail
  refine (lines_any ms A c _ (H.out.below (by repeat (first | with_reducible exact Below.refl _ _ | with_reducible assumption | refine below_drewN ?_ _ | with_reducible refine Below.drew ?_ | (refine Below.setCell ?_ (by first | (simp; done) | (simp; omega) | omega) _) | (refine Below.alloc ?_ (by first | (simp; done) | (simp; omega) | omega) _)))) hn2 hn30).mono ?_
  rintro e w1 ⟨bl, off, c', qs, rfl, hQ, hB1, hcap, hqs⟩
  have hql : qs.length = ms.length - 1 := by rw [hqs.out, segs_len]
  obtain ⟨bl0, off0, e0, hbk, hcells⟩ := hQ.open_ (by omega)
  obtain ⟨rfl, rfl⟩ : bl = bl0 ∧ off = off0 := by simpa using e0
  have hW1 : Below w.heap.size w w1 := (((Below.refl w.heap.size w).alloc (Nat.le_refl _) (.cells #[.int .i64 N, .int .i64 D] 36)).alloc (by simp) (.cells #[.int .i64 0, .int .i64 0, .int .i64 0, .int .i64 0] 70)).trans (hB1.mono (by simp; omega))
  have k5 : w1.heap[w.heap.size]? = some (.cells #[.int .i64 N, .int .i64 D] 36 (0, 0)) :=
    (hB1.block w.heap.size (by simp; omega)).trans ((Below.heap_alloc _ _ _ (by simp)).trans (heap_alloc_new w _))
  have k6 : w1.heap[w.heap.size + 1]? = some (.cells #[.int .i64 0, .int .i64 0, .int .i64 0, .int .i64 0] 70 (0, 0)) :=
    (hB1.block (w.heap.size + 1) (by simp)).trans (by rw [show w.heap.size + 1 = (w.alloc (.cells #[.int .i64 N, .int .i64 D] 36)).heap.size by simp]; exact heap_alloc_new _ _)
  have hz1 : w.heap.size + 2 ≤ w1.heap.size := by have := hB1.size; simp at this; omega
  have HQ : Hid (∀ (k : Nat) (x y : Int × Int), ms[k]? = some x → ms[k + 1]? = some y → (w1.cell? ⟨bl, off + k * 4, none⟩ = some (.int .i64 x.1) ∧ w1.cell? ⟨bl, off + k * 4 + 1, none⟩ = some (.int .i64 x.2) ∧ w1.cell? ⟨bl, off + k * 4 + 2, none⟩ = some (.int .i64 y.1) ∧ w1.cell? ⟨bl, off + k * 4 + 3, none⟩ = some (.int .i64 y.2))) := by
    intro k x y hx hy
    have hk := (List.getElem?_eq_some_iff.1 hy).1
    exact hcells k (x, y) (by rw [hqs.out]; exact segs_get (by omega) hx hy)
  generalize hnq : qs.length = nq at hql hcap ⊢
  clear hnq hcells hQ hqs e0 hB1 qs
  subst hql
  obtain ⟨a0, b0, hm0⟩ := getM_of_lt (show 0 < ms.length by omega)
  obtain ⟨p0, q0, hm1⟩ := getM_of_lt (show 0 + 1 < ms.length by omega)
  have g0 : w1.cell? ⟨bl, off, none⟩ = some (.int .i64 a0) := by simpa using (HQ.out 0 _ _ hm0 hm1).1
  have g1 : w1.cell? ⟨bl, off + 1, none⟩ = some (.int .i64 b0) := by simpa using (HQ.out 0 _ _ hm0 hm1).2.1
  have g2 : w1.cell? ⟨bl, off + 2, none⟩ = some (.int .i64 p0) := by simpa using (HQ.out 0 _ _ hm0 hm1).2.2.1
  have g3 : w1.cell? ⟨bl, off + 3, none⟩ = some (.int .i64 q0) := by simpa using (HQ.out 0 _ _ hm0 hm1).2.2.2
  have HM0 := Lib.hid hm0
  have HM1 := Lib.hid hm1
  clear hm0 hm1
  have HK5 := Lib.hid k5
  have HK6 := Lib.hid k6
  clear k5 k6
  have hnq0 : 0 < ms.length - 1 := by omega
  have hnq1 : ms.length - 1 - 1 ≤ c' - 1 := by omega
  have fin : ∀ (wr : World) (k : Nat) (a b p q : Int), (w1.alloc (.cells #[.int .i64 a0, .int .i64 b0, .int .i64 p0, .int .i64 q0] 70)).grownBy wr (some w1.heap.size) → wr.heap[w1.heap.size]? = some (.cells #[.int .i64 a, .int .i64 b, .int .i64 p, .int .i64 q] 70 (0, 0)) →
      Hid (wr.heap[w.heap.size]? = some (.cells #[.int .i64 N, .int .i64 D] 36 (0, 0)) ∧ wr.heap[w.heap.size + 1]? = some (.cells #[.int .i64 0, .int .i64 0, .int .i64 0, .int .i64 0] 70 (0, 0)) ∧ Below w.heap.size w wr) := by
    intro wr k a b p q hg _
    have hz2 : (w1.alloc (.cells #[.int .i64 a0, .int .i64 b0, .int .i64 p0, .int .i64 q0] 70)).heap.size = w1.heap.size + 1 := by simp
    refine ⟨?_, ?_, ?_⟩
    · exact (hg.block w.heap.size (by omega) (by intro e; injection e; omega)).trans ((Below.heap_alloc _ _ _ (by omega)).trans HK5.out)
    · exact (hg.block (w.heap.size + 1) (by omega) (by intro e; injection e; omega)).trans ((Below.heap_alloc _ _ _ (by omega)).trans HK6.out)
    · exact (hW1.alloc (by omega) _).trans (below_only hg (by omega) (by omega))
  have FIN := Lib.hid fin
  clear fin
  by_cases hc1 : c' = 1
  · have hl2 : ms.length ≤ 2 := by omega
    subst hc1
    go_wp2_with fail
    clear g0 g1 g2 g3
    go_loopw [19] (fun i wr => i = .int .i64 0 ∧ wr = w1.alloc (.cells #[.int .i64 a0, .int .i64 b0, .int .i64 p0, .int .i64 q0] 70)) (fun _ _ => 0)
    case atStart => exact ⟨rfl, rfl⟩
    case round =>
      obtain ⟨rfl, rfl⟩ := hrel
      obtain ⟨k5, k6, hBw⟩ := (FIN.out _ 0 a0 b0 p0 q0 (World.grownBy.refl _ _) (heap_alloc_new w1 _)).out
      have hb8 : (w1.alloc (.cells #[.int .i64 a0, .int .i64 b0, .int .i64 p0, .int .i64 q0] 70)).heap[w1.heap.size]? = some (.cells #[.int .i64 a0, .int .i64 b0, .int .i64 p0, .int .i64 q0] 70 (0, 0)) := heap_alloc_new w1 _
      generalize w1.alloc (.cells #[.int .i64 a0, .int .i64 b0, .int .i64 p0, .int .i64 q0] 70) = wr at k5 k6 hBw hb8 ⊢
      have d0 := cell_of_row wr w1.heap.size 0 _ _ _ hb8
      have d1 := cell_of_row wr w1.heap.size 1 _ _ _ hb8
      have d2 := cell_of_row wr w1.heap.size 2 _ _ _ hb8
      have d3 := cell_of_row wr w1.heap.size 3 _ _ _ hb8
      have c0 := cell_of_row wr (w.heap.size + 1) 0 _ _ _ k6
      have c1 := cell_of_row wr (w.heap.size + 1) 1 _ _ _ k6
      have c2 := cell_of_row wr (w.heap.size + 1) 2 _ _ _ k6
      have c3 := cell_of_row wr (w.heap.size + 1) 3 _ _ _ k6
      have e0 := blk_frozen k6 0
      have e1 := blk_frozen k6 1
      have e2 := blk_frozen k6 2
      have e3 := blk_frozen k6 3
      have HZ : Hid (w.heap.size ≤ w.heap.size + 1) := by show _ ≤ _; omega
      clear k5 k6 hb8
      simp at c0 c1 c2 c3 d0 d1 d2 d3
      go_wp2
      refine bodyPost_ret (v := .agg #[.int .i64 a0, .int .i64 b0, .int .i64 p0, .int .i64 q0]) (by simp [results, Try.results64, go_sem, c0, c1, c2, c3]) rfl
        ⟨a0, b0, p0, q0, rfl, (((hBw.setCell HZ.out _).setCell HZ.out _).setCell HZ.out _).setCell HZ.out _, ?_⟩
      have e2 : ms.length - 2 = 0 := by omega
      rw [e2]
      exact ⟨HM0.out, HM1.out⟩
  · go_wp2_with fail
    clear g0 g1 g2 g3
    go_loopw [19] (fun i wr => ∃ (k : Nat) (a b p q : Int), k ≤ ms.length - 1 - 1 ∧ i = .int .i64 k ∧ (w1.alloc (.cells #[.int .i64 a0, .int .i64 b0, .int .i64 p0, .int .i64 q0] 70)).grownBy wr (some w1.heap.size) ∧ wr.heap[w1.heap.size]? = some (.cells #[.int .i64 a, .int .i64 b, .int .i64 p, .int .i64 q] 70 (0, 0)) ∧
        Hid (ms[segI (fun i => decide ((ms.getD i (0, 0)).2 * D ≤ N)) k]? = some (a, b) ∧ ms[segI (fun i => decide ((ms.getD i (0, 0)).2 * D ≤ N)) k + 1]? = some (p, q))) (fun i _ => ms.length - 1 - 1 - (intOf i).toNat)
    case atStart => exact ⟨0, a0, b0, p0, q0, by omega, rfl, World.grownBy.refl _ _, heap_alloc_new w1 _, HM0.out, HM1.out⟩
    case round =>
      obtain ⟨k, a, b, p, q, hk, rfl, hg, hb8, hpq⟩ := hrel
      obtain ⟨k5, k6, hBw⟩ := (FIN.out wr k a b p q hg hb8).out
      have hz2 := hg.size
      have hz3 : (w1.alloc (.cells #[.int .i64 a0, .int .i64 b0, .int .i64 p0, .int .i64 q0] 70)).heap.size = w1.heap.size + 1 := by simp
      rw [hz3] at hz2
      clear hz3
      by_cases hlt : k < ms.length - 1 - 1
      · obtain ⟨a1, b1, hx⟩ := getM_of_lt (show k + 1 < ms.length by omega)
        obtain ⟨a2, b2, hy⟩ := getM_of_lt (show k + 1 + 1 < ms.length by omega)
        have hc := HQ.out (k + 1) _ _ hx hy
        have old : ∀ j v, w1.cell? ⟨bl, j, none⟩ = some v → wr.cell? ⟨bl, j, none⟩ = some v := fun j v h =>
          (only_cell hg (p := ⟨bl, j, none⟩) (by simp; omega) (by simp; omega)).trans ((World.cell?_alloc_lt w1 _ ⟨bl, j, none⟩ hbk).trans h)
        have g0 : wr.cell? ⟨bl, off + 4 + k * 4, none⟩ = some (.int .i64 a1) := by rw [show off + 4 + k * 4 = off + (k + 1) * 4 by omega]; exact old _ _ hc.1
        have g1 : wr.cell? ⟨bl, off + 4 + k * 4 + 1, none⟩ = some (.int .i64 b1) := by rw [show off + 4 + k * 4 = off + (k + 1) * 4 by omega]; exact old _ _ hc.2.1
        have g2 : wr.cell? ⟨bl, off + 4 + k * 4 + 2, none⟩ = some (.int .i64 a2) := by rw [show off + 4 + k * 4 = off + (k + 1) * 4 by omega]; exact old _ _ hc.2.2.1
        have g3 : wr.cell? ⟨bl, off + 4 + k * 4 + 3, none⟩ = some (.int .i64 b2) := by rw [show off + 4 + k * 4 = off + (k + 1) * 4 by omega]; exact old _ _ hc.2.2.2
        have hab := vk_at HV.out hx
        have HX := Lib.hid hx
        have HY := Lib.hid hy
        have HG := Lib.hid hg
        have HB8 := Lib.hid hb8
        have HK := Lib.hid k5
        clear hx hy hc old hg hb8 k5 k6
        go_wp2
        clear g0 g1 g2 g3
        have h5 : (wr.alloc (.cells #[.int .i64 a1, .int .i64 b1, .int .i64 a2, .int .i64 b2] 70)).heap[w.heap.size]? = some (.cells #[.int .i64 N, .int .i64 D] 36 (0, 0)) := (Below.heap_alloc _ _ _ (by omega)).trans HK.out
        have h8 : (wr.alloc (.cells #[.int .i64 a1, .int .i64 b1, .int .i64 a2, .int .i64 b2] 70)).heap[w1.heap.size]? = some (.cells #[.int .i64 a, .int .i64 b, .int .i64 p, .int .i64 q] 70 (0, 0)) := (Below.heap_alloc _ _ _ (by omega)).trans HB8.out
        have h10 : (wr.alloc (.cells #[.int .i64 a1, .int .i64 b1, .int .i64 a2, .int .i64 b2] 70)).heap[wr.heap.size]? = some (.cells #[.int .i64 a1, .int .i64 b1, .int .i64 a2, .int .i64 b2] 70 (0, 0)) := heap_alloc_new wr _
        have hgr := only_alloc HG.out (.cells #[.int .i64 a1, .int .i64 b1, .int .i64 a2, .int .i64 b2] 70)
        have hzz : wr.heap.size < (wr.alloc (.cells #[.int .i64 a1, .int .i64 b1, .int .i64 a2, .int .i64 b2] 70)).heap.size := by simp
        have hzw : w.heap.size < wr.heap.size := by omega
        generalize wr.alloc (.cells #[.int .i64 a1, .int .i64 b1, .int .i64 a2, .int .i64 b2] 70) = W at h5 h8 h10 hgr hzz ⊢
        generalize wr.heap.size = nb at h10 hzz hzw hz2 ⊢
        clear hBw HG HB8 HK wr
        have f0 : W.cell? ⟨nb, 0, none⟩ = some (.int .i64 a1) := cell_of_row W nb 0 _ _ _ h10
        have f1 : W.cell? ⟨nb, 1, none⟩ = some (.int .i64 b1) := cell_of_row W nb 1 _ _ _ h10
        have f2 : W.cell? ⟨nb, 2, none⟩ = some (.int .i64 a2) := cell_of_row W nb 2 _ _ _ h10
        have f3 : W.cell? ⟨nb, 3, none⟩ = some (.int .i64 b2) := cell_of_row W nb 3 _ _ _ h10
        have f4 : W.cell? ⟨w.heap.size, 0, none⟩ = some (.int .i64 N) := cell_of_row W w.heap.size 0 _ _ _ h5
        have f5 : W.cell? ⟨w.heap.size, 1, none⟩ = some (.int .i64 D) := cell_of_row W w.heap.size 1 _ _ _ h5
        have H8 := Lib.hid h8
        have HGR := Lib.hid hgr
        clear h5 h8 h10 hgr
        have hm1 := mul_tick (a := b1) (D := D) (by omega) (by omega) hD0 hD1
        have iw : IntKind.i64.wrap (b1 * D) = b1 * D := IntWalk.i64_in _ (by omega)
        by_cases ht : b1 * D ≤ N
        · have ht1 : decide (b1 * D ≤ N) = true := decide_eq_true ht
          have hseg := Lib.hid (segI_yes (p := fun i => decide ((ms.getD i (0, 0)).2 * D ≤ N)) (k := k) (by show decide _ = true; rw [getDM HX.out]; exact ht1))
          go_region_held3 (fun w' => w'.cell? ⟨nb, 0, none⟩ = some (.int .i64 a1) ∧ w'.cell? ⟨nb, 1, none⟩ = some (.int .i64 b1) ∧ w'.cell? ⟨nb, 2, none⟩ = some (.int .i64 a2) ∧ w'.cell? ⟨nb, 3, none⟩ = some (.int .i64 b2) ∧ w'.cell? ⟨w.heap.size, 0, none⟩ = some (.int .i64 N) ∧ w'.cell? ⟨w.heap.size, 1, none⟩ = some (.int .i64 D))
            (first | go_keep | exact ⟨(hB3.cell (p := ⟨nb, 0, none⟩) hzz).trans f0, (hB3.cell (p := ⟨nb, 1, none⟩) hzz).trans f1, (hB3.cell (p := ⟨nb, 2, none⟩) hzz).trans f2, (hB3.cell (p := ⟨nb, 3, none⟩) hzz).trans f3, (hB3.cell (p := ⟨w.heap.size, 0, none⟩) (Nat.lt_trans hzw hzz)).trans f4, (hB3.cell (p := ⟨w.heap.size, 1, none⟩) (Nat.lt_trans hzw hzz)).trans f5⟩)
            ((go_at_call 65; refine (firstTrue_any _ _ _ _ _).mono ?_; rintro e w3 ⟨rfl, hB3⟩))
          have h8' := (hB3.block w1.heap.size (by show _ < W.heap.size; omega)).trans H8.out
          have hgr' := only_below (HGR.out) (w' := w3) ⟨hB3.os, hB3.tape, hB3.output, hB3.size, hB3.block⟩
          have d0 := cell_of_row w3 w1.heap.size 0 _ _ _ h8'
          have d1 := cell_of_row w3 w1.heap.size 1 _ _ _ h8'
          have d2 := cell_of_row w3 w1.heap.size 2 _ _ _ h8'
          have d3 := cell_of_row w3 w1.heap.size 3 _ _ _ h8'
          have e0 := blk_frozen h8' 0
          have e1 := blk_frozen h8' 1
          have e2 := blk_frozen h8' 2
          have e3 := blk_frozen h8' 3
          have H8' := Lib.hid h8'
          have HGR' := Lib.hid hgr'
          clear h8' hgr' iw
          simp at d0 d1 d2 d3
          go_wp2
          go_roundw
          case rel => exact ⟨k + 1, a1, b1, a2, b2, by omega, by go_num, only_setCell (only_setCell (only_setCell (only_setCell HGR'.out (.inl rfl) _) (.inl rfl) _) (.inl rfl) _) (.inl rfl) _, blk_set4 H8'.out, by rw [hseg.out]; exact ⟨HX.out, HY.out⟩⟩
          case measure => simp [intOf]; omega
        · have ht1 : decide (b1 * D ≤ N) = false := decide_eq_false ht
          have hseg := Lib.hid (segI_no (p := fun i => decide ((ms.getD i (0, 0)).2 * D ≤ N)) (k := k) (by show ¬ decide _ = true; rw [getDM HX.out]; simpa using ht))
          go_region_held3 (fun w' => w'.cell? ⟨nb, 0, none⟩ = some (.int .i64 a1) ∧ w'.cell? ⟨nb, 1, none⟩ = some (.int .i64 b1) ∧ w'.cell? ⟨nb, 2, none⟩ = some (.int .i64 a2) ∧ w'.cell? ⟨nb, 3, none⟩ = some (.int .i64 b2) ∧ w'.cell? ⟨w.heap.size, 0, none⟩ = some (.int .i64 N) ∧ w'.cell? ⟨w.heap.size, 1, none⟩ = some (.int .i64 D))
            (first | go_keep | exact ⟨(hB3.cell (p := ⟨nb, 0, none⟩) hzz).trans f0, (hB3.cell (p := ⟨nb, 1, none⟩) hzz).trans f1, (hB3.cell (p := ⟨nb, 2, none⟩) hzz).trans f2, (hB3.cell (p := ⟨nb, 3, none⟩) hzz).trans f3, (hB3.cell (p := ⟨w.heap.size, 0, none⟩) (Nat.lt_trans hzw hzz)).trans f4, (hB3.cell (p := ⟨w.heap.size, 1, none⟩) (Nat.lt_trans hzw hzz)).trans f5⟩)
            ((go_at_call 65; refine (firstTrue_any _ _ _ _ _).mono ?_; rintro e w3 ⟨rfl, hB3⟩))
          have h8' := (hB3.block w1.heap.size (by show _ < W.heap.size; omega)).trans H8.out
          have hgr' := only_below (HGR.out) (w' := w3) ⟨hB3.os, hB3.tape, hB3.output, hB3.size, hB3.block⟩
          have H8' := Lib.hid h8'
          have HGR' := Lib.hid hgr'
          clear h8' hgr' iw
          go_wp2
          go_roundw
          case rel => exact ⟨k + 1, a, b, p, q, by omega, by go_num, HGR'.out, H8'.out, by rw [hseg.out]; exact hpq⟩
          case measure => simp [intOf]; omega
      · obtain rfl : k = ms.length - 1 - 1 := by omega
        have d0 := cell_of_row wr w1.heap.size 0 _ _ _ hb8
        have d1 := cell_of_row wr w1.heap.size 1 _ _ _ hb8
        have d2 := cell_of_row wr w1.heap.size 2 _ _ _ hb8
        have d3 := cell_of_row wr w1.heap.size 3 _ _ _ hb8
        have c0 := cell_of_row wr (w.heap.size + 1) 0 _ _ _ k6
        have c1 := cell_of_row wr (w.heap.size + 1) 1 _ _ _ k6
        have c2 := cell_of_row wr (w.heap.size + 1) 2 _ _ _ k6
        have c3 := cell_of_row wr (w.heap.size + 1) 3 _ _ _ k6
        have e0 := blk_frozen k6 0
        have e1 := blk_frozen k6 1
        have e2 := blk_frozen k6 2
        have e3 := blk_frozen k6 3
        have HZ : Hid (w.heap.size ≤ w.heap.size + 1) := by show _ ≤ _; omega
        clear k5 k6 hb8 hg
        simp at c0 c1 c2 c3 d0 d1 d2 d3
        go_wp2
        exact bodyPost_ret (v := .agg #[.int .i64 a, .int .i64 b, .int .i64 p, .int .i64 q]) (by simp [results, Try.results64, go_sem, c0, c1, c2, c3]) rfl
          ⟨a, b, p, q, rfl, (((hBw.setCell HZ.out _).setCell HZ.out _).setCell HZ.out _).setCell HZ.out _, hpq⟩
end Go.Proofs.Ytjghlfagdleglaa
