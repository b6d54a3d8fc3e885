/-
  Contracts: firnref01.line.
-/
import Derived.Test.YtjghlfagdleglaaBack
namespace Go.Proofs.Ytjghlfagdleglaa
open Go.RowKit

theorem cell_drew' (w : World) (p : Addr) : w.drew.cell? p = w.cell? p := rfl
theorem same2_0 {w : World} {g : Nat} {x y u : Value} (h : w.cell? ⟨g, 0, none⟩ = some u) : ((w.setCell ⟨g, 0, none⟩ x).setCell ⟨g, 1, none⟩ y).cell? ⟨g, 0, none⟩ = some x := by
  rw [World.cell?_setCell_other _ _ _ _ (by simp)]; exact World.cell?_setCell_same _ _ _ h
theorem same2_1 {w : World} {g : Nat} {x y u : Value} (h : w.cell? ⟨g, 1, none⟩ = some u) : ((w.setCell ⟨g, 0, none⟩ x).setCell ⟨g, 1, none⟩ y).cell? ⟨g, 1, none⟩ = some y :=
  World.cell?_setCell_same _ _ _ ((World.cell?_setCell_other _ _ _ _ (by simp)).trans h)
theorem set22 {w : World} {g g' : Nat} {t : TypeId} {x0 x1 y0 y1 a b p q : Value} (h : w.heap[g]? = some (.cells #[x0, x1] t (0, 0))) (h' : w.heap[g']? = some (.cells #[y0, y1] t (0, 0))) (hne : g ≠ g') :
    ((((w.setCell ⟨g, 0, none⟩ a).setCell ⟨g, 1, none⟩ b).setCell ⟨g', 0, none⟩ p).setCell ⟨g', 1, none⟩ q).heap[g]? = some (.cells #[a, b] t (0, 0)) ∧
    ((((w.setCell ⟨g, 0, none⟩ a).setCell ⟨g, 1, none⟩ b).setCell ⟨g', 0, none⟩ p).setCell ⟨g', 1, none⟩ q).heap[g']? = some (.cells #[p, q] t (0, 0)) := by
  refine ⟨?_, ?_⟩
  · rw [Below.heap_setCell _ _ _ _ hne, Below.heap_setCell _ _ _ _ hne, blk_set (blk_set h 0 a) 1 b]; rfl
  · have h2 : ((w.setCell ⟨g, 0, none⟩ a).setCell ⟨g, 1, none⟩ b).heap[g']? = some (.cells #[y0, y1] t (0, 0)) := by
      rw [Below.heap_setCell _ _ _ _ hne.symm, Below.heap_setCell _ _ _ _ hne.symm]; exact h'
    rw [blk_set (blk_set h2 0 p) 1 q]; rfl
theorem segI_all {p : Nat → Bool} : ∀ {k : Nat}, (∀ j, 1 ≤ j → j ≤ k → p j = true) → segI p k = k
  | 0, _ => rfl
  | k + 1, h => segI_yes (h (k + 1) (by omega) (by omega))
theorem segI_cut {p : Nat → Bool} {i : Nat} : ∀ {k : Nat}, i ≤ k → (∀ j, 1 ≤ j → j ≤ i → p j = true) → (∀ j, i < j → j ≤ k → p j = false) → segI p k = i
  | 0, h, _, _ => by obtain rfl : i = 0 := by omega
                     rfl
  | k + 1, h, h1, h2 => by
    rcases Nat.lt_or_ge i (k + 1) with hlt | hge
    · rw [segI_no (by rw [h2 (k + 1) hlt (by omega)]; simp)]
      exact segI_cut (by omega) h1 (fun j a b => h2 j a (by omega))
    · obtain rfl : i = k + 1 := by omega
      exact segI_all h1
theorem asc_mono {ms : List (Int × Int)} (hv : vkB ms = true) : ∀ {j i : Nat}, j < i → i < ms.length → (mA ms j).1 < (mA ms i).1 ∧ (mA ms j).2 < (mA ms i).2
  | j, 0, h, _ => by omega
  | j, i + 1, h, hi => by
    obtain ⟨a, b, hx⟩ := getM_of_lt (show i < ms.length by omega)
    obtain ⟨p, q, hy⟩ := getM_of_lt hi
    have hs := vk_lt hv hx hy
    rw [mA_of hy]
    rcases Nat.lt_or_ge j i with h1 | h1
    · have ih := asc_mono hv h1 (by omega)
      rw [mA_of hx] at ih
      simp only at ih ⊢
      omega
    · obtain rfl : j = i := by omega
      rw [mA_of hx]; exact hs
theorem segL_stop {ms : List (Int × Int)} {x : Int} {i : Nat} (hv : vkB ms = true) (h1 : 1 ≤ i) (hi : i < ms.length) (hlow : ∀ j, 1 ≤ j → j < i → (mA ms j).1 ≤ x) (hx : x < (mA ms i).1) : segL ms x 1 = i - 1 := by
  refine segI_cut (by omega) (fun j a b => ?_) (fun j a b => ?_)
  · have := hlow j a (by omega)
    simp only [mA] at this
    simpa using this
  · have : x < (mA ms j).1 := by
      rcases Nat.lt_or_ge i j with h | h
      · have := (asc_mono hv h (by omega)).1; omega
      · obtain rfl : i = j := by omega
        exact hx
    simp only [mA] at this
    simpa using this
theorem segL_end {ms : List (Int × Int)} {x : Int} {i : Nat} (hn : 2 ≤ ms.length) (hi : i = ms.length) (hlow : ∀ j, 1 ≤ j → j < i → (mA ms j).1 ≤ x) : segL ms x 1 = i - 2 := by
  subst hi
  refine segI_all (fun j a b => ?_)
  have := hlow j a (by omega)
  simp only [mA] at this
  simpa using this

set_option maxRecDepth 100000 in
set_option maxHeartbeats 3200000 in
theorem refLine_any (ms : List (Int × Int)) (A : Option Addr) (c : Nat) (x : Int) (w : World) (h : Clk w A c ms) (hv : vkB ms = true) :
    Calls Try.prog 71 #[.slice A ms.length c, .int .i64 x] w fun e w' => ∃ a b p q : Int, e = .returned (.tuple #[.agg #[.int .i64 a, .int .i64 b], .agg #[.int .i64 p, .int .i64 q]]) ∧ Below w.heap.size w w' ∧
      Hid (ms[segL ms x 1]? = some (a, b) ∧ ms[segL ms x 1 + 1]? = some (p, q)) := by
  obtain ⟨hn2, hn30⟩ := vk_parts hv
  have HV := Lib.hid hv
  obtain ⟨bl, off, rfl, hbk, hcells⟩ := h.marks.open_ (by omega)
  have HC := Lib.hid hcells
  have hcap := h.le
  clear hv h hcells
  go_enter Try.func71, Try.ntmps71
  go_wp2
  go_loopw [6] (fun i wr => ∃ (k : Nat) (x0 x1 y0 y1 : Int), 1 ≤ k ∧ k ≤ ms.length ∧ i = .int .i64 k ∧ Below w.heap.size w wr ∧ wr.heap[w.heap.size]? = some (.cells #[.int .i64 x0, .int .i64 x1] 61 (0, 0)) ∧ wr.heap[w.heap.size + 1]? = some (.cells #[.int .i64 y0, .int .i64 y1] 61 (0, 0)) ∧
      Hid ((1 < k → ms[k - 2]? = some (x0, x1) ∧ ms[k - 1]? = some (y0, y1)) ∧ ∀ j, 1 ≤ j → j < k → (mA ms j).1 ≤ x)) (fun i _ => ms.length - (intOf i).toNat)
  case atStart => exact ⟨1, 0, 0, 0, 0, by omega, by omega, rfl, (by repeat (first | with_reducible exact Below.refl _ _ | with_reducible assumption | refine below_drewN ?_ _ | with_reducible refine Below.drew ?_ | (refine Below.setCell ?_ (by first | (simp; done) | (simp; omega) | omega) _) | (refine Below.alloc ?_ (by first | (simp; done) | (simp; omega) | omega) _))), (Below.heap_alloc _ _ _ (by simp)).trans (heap_alloc_new w _), by rw [show w.heap.size + 1 = (w.alloc (.cells #[.int .i64 0, .int .i64 0] 61)).heap.size by simp]; exact heap_alloc_new _ _, fun h => absurd h (by omega), fun j a b => absurd b (by omega)⟩
  case round =>
    have n10 : w.heap.size + 1 ≠ w.heap.size := by omega
    have n01 : w.heap.size ≠ w.heap.size + 1 := by omega
    obtain ⟨k, x0, x1, y0, y1, hk1, hk, rfl, hB, hg, hg', hpq⟩ := hrel
    have c0 := cell_of_row wr _ 0 _ _ _ hg
    have c1 := cell_of_row wr _ 1 _ _ _ hg
    have c2 := cell_of_row wr _ 0 _ _ _ hg'
    have c3 := cell_of_row wr _ 1 _ _ _ hg'
    have e0 := blk_frozen hg 0
    have e1 := blk_frozen hg 1
    have e2 := blk_frozen hg' 0
    have e3 := blk_frozen hg' 1
    simp at c0 c1 c2 c3
    have HG := Lib.hid hg
    have HG' := Lib.hid hg'
    clear hg hg'
    by_cases hlt : k < ms.length
    · obtain ⟨a, b, hx⟩ := getM_of_lt (show k - 1 < ms.length by omega)
      obtain ⟨p, q, hy⟩ := getM_of_lt hlt
      have f0 := (hB.cell (p := ⟨bl, off + (k - 1) * 2, none⟩) hbk).trans (HC.out _ _ hx).1
      have f1 := (hB.cell (p := ⟨bl, off + (k - 1) * 2 + 1, none⟩) hbk).trans (HC.out _ _ hx).2
      have f2 := (hB.cell (p := ⟨bl, off + k * 2, none⟩) hbk).trans (HC.out _ _ hy).1
      have f3 := (hB.cell (p := ⟨bl, off + k * 2 + 1, none⟩) hbk).trans (HC.out _ _ hy).2
      have HX := Lib.hid hx
      have HY := Lib.hid hy
      clear hx hy
      have i0 : (0 : Int) ≤ (k : Int) := by omega
      have i1 : (k : Int) < (ms.length : Int) := by omega
      have i3 : (0 : Int) ≤ (k : Int) - 1 := by omega
      have i4 : (k : Int) - 1 < (ms.length : Int) := by omega
      have i7 : (1 : Int) ≤ (k : Int) := by omega
      have i8 : (k : Int) ≤ (ms.length : Int) := by omega
      have i2 : IntKind.i64.wrap ((k : Int) - 1) = (k : Int) - 1 := IntWalk.i64_in _ (by omega)
      have i5 : ((k : Int) - 1).toNat = k - 1 := by omega
      have hne : bl ≠ w.heap.size := by omega
      have hne2 : bl ≠ w.heap.size + 1 := by omega
      go_wp2
      go_region_held3 (fun w' => w'.cell? ⟨bl, off + (k - 1) * 2, none⟩ = some (.int .i64 a) ∧ w'.cell? ⟨bl, off + (k - 1) * 2 + 1, none⟩ = some (.int .i64 b) ∧ w'.cell? ⟨bl, off + k * 2, none⟩ = some (.int .i64 p) ∧ w'.cell? ⟨bl, off + k * 2 + 1, none⟩ = some (.int .i64 q))
        (refine ⟨?_, ?_, ?_, ?_⟩ <;> (repeat (first | rw [cell_drew'] | rw [cell_far2 (p := ⟨bl, _, none⟩) hne] | rw [cell_far2 (p := ⟨bl, _, none⟩) hne2])) <;> with_reducible assumption)
        ((fail))
      clear i2 i5
      obtain ⟨g0, g1⟩ := set22 (a := .int .i64 a) (b := .int .i64 b) (p := .int .i64 p) (q := .int .i64 q) HG.out HG'.out (by omega)
      have hBW : Below w.heap.size w ((((wr.setCell ⟨w.heap.size, 0, none⟩ (.int .i64 a)).setCell ⟨w.heap.size, 1, none⟩ (.int .i64 b)).setCell ⟨w.heap.size + 1, 0, none⟩ (.int .i64 p)).setCell ⟨w.heap.size + 1, 1, none⟩ (.int .i64 q)) := by
        refine Below.setCell (Below.setCell (Below.setCell (Below.setCell hB ?_ _) ?_ _) ?_ _) ?_ _ <;> simp
      generalize (((wr.setCell ⟨w.heap.size, 0, none⟩ (.int .i64 a)).setCell ⟨w.heap.size, 1, none⟩ (.int .i64 b)).setCell ⟨w.heap.size + 1, 0, none⟩ (.int .i64 p)).setCell ⟨w.heap.size + 1, 1, none⟩ (.int .i64 q) = W at *
      clear c0 c1 c2 c3 e0 e1 e2 e3 f0 f1 f2 f3 HG HG' hB
      have c0 := cell_of_row W _ 0 _ _ _ g0
      have c1 := cell_of_row W _ 1 _ _ _ g0
      have c2 := cell_of_row W _ 0 _ _ _ g1
      have c3 := cell_of_row W _ 1 _ _ _ g1
      have e0 := blk_frozen g0 0
      have e1 := blk_frozen g0 1
      have e2 := blk_frozen g1 0
      have e3 := blk_frozen g1 1
      simp at c0 c1 c2 c3
      have HG := Lib.hid g0
      have HG' := Lib.hid g1
      clear g0 g1
      by_cases hxp : x < p
      · have hs := Lib.hid (segL_stop HV.out hk1 hlt hpq.out.2 (by rw [mA_of HY.out]; exact hxp))
        go_wp2
        go_region_held3 (fun w' => w'.cell? ⟨w.heap.size, 0, none⟩ = some (.int .i64 a) ∧ w'.cell? ⟨w.heap.size, 1, none⟩ = some (.int .i64 b) ∧ w'.cell? ⟨w.heap.size + 1, 0, none⟩ = some (.int .i64 p) ∧ w'.cell? ⟨w.heap.size + 1, 1, none⟩ = some (.int .i64 q))
          ((simp only [cell_drew']; first | with_reducible exact ⟨c0, c1, c2, c3⟩ | with_reducible exact ⟨same2_0 c0, same2_1 c1, (cell_far2 (p := ⟨w.heap.size + 1, _, none⟩) n10).trans c2, (cell_far2 (p := ⟨w.heap.size + 1, _, none⟩) n10).trans c3⟩ | with_reducible exact ⟨(cell_far2 (p := ⟨w.heap.size, _, none⟩) n01).trans (same2_0 c0), (cell_far2 (p := ⟨w.heap.size, _, none⟩) n01).trans (same2_1 c1), same2_0 ((cell_far2 (p := ⟨w.heap.size + 1, _, none⟩) n10).trans c2), same2_1 ((cell_far2 (p := ⟨w.heap.size + 1, _, none⟩) n10).trans c3)⟩))
          ((fail))
        go_wp2
        refine bodyPost_ret (v := .tuple #[.agg #[.int .i64 a, .int .i64 b], .agg #[.int .i64 p, .int .i64 q]]) (by simp [results, Try.results71, go_sem, c0, c1, c2, c3]) rfl
          ⟨a, b, p, q, rfl, by refine Below.drew (Below.setCell (Below.setCell (Below.setCell (Below.setCell hBW.drew ?_ _) ?_ _) ?_ _) ?_ _) <;> simp, ?_⟩
        show ms[segL ms x 1]? = _ ∧ ms[segL ms x 1 + 1]? = _
        rw [hs.out, show k - 1 + 1 = k by omega]
        exact ⟨HX.out, HY.out⟩
      · go_wp2
        go_roundw
        case rel =>
          refine ⟨k + 1, a, b, p, q, by omega, by omega, by go_num, hBW.drew, HG.out, HG'.out, fun _ => ⟨HX.out, by rw [Nat.add_sub_cancel]; exact HY.out⟩, fun j h1 h2 => ?_⟩
          rcases Nat.lt_or_ge j k with h | h
          · exact hpq.out.2 j h1 h
          · obtain rfl : j = k := by omega
            rw [mA_of HY.out]; exact Int.not_lt.1 hxp
        case measure => simp [intOf]; omega
    · obtain rfl : k = ms.length := by omega
      obtain ⟨h1, h2⟩ := hpq.out.1 (by omega)
      have hs := Lib.hid (segL_end hn2 rfl hpq.out.2)
      go_wp2
      go_region_held3 (fun w' => w'.cell? ⟨w.heap.size, 0, none⟩ = some (.int .i64 x0) ∧ w'.cell? ⟨w.heap.size, 1, none⟩ = some (.int .i64 x1) ∧ w'.cell? ⟨w.heap.size + 1, 0, none⟩ = some (.int .i64 y0) ∧ w'.cell? ⟨w.heap.size + 1, 1, none⟩ = some (.int .i64 y1))
        ((simp only [cell_drew']; first | with_reducible exact ⟨c0, c1, c2, c3⟩ | with_reducible exact ⟨same2_0 c0, same2_1 c1, (cell_far2 (p := ⟨w.heap.size + 1, _, none⟩) n10).trans c2, (cell_far2 (p := ⟨w.heap.size + 1, _, none⟩) n10).trans c3⟩ | with_reducible exact ⟨(cell_far2 (p := ⟨w.heap.size, _, none⟩) n01).trans (same2_0 c0), (cell_far2 (p := ⟨w.heap.size, _, none⟩) n01).trans (same2_1 c1), same2_0 ((cell_far2 (p := ⟨w.heap.size + 1, _, none⟩) n10).trans c2), same2_1 ((cell_far2 (p := ⟨w.heap.size + 1, _, none⟩) n10).trans c3)⟩))
        ((fail))
      go_wp2
      refine bodyPost_ret (v := .tuple #[.agg #[.int .i64 x0, .int .i64 x1], .agg #[.int .i64 y0, .int .i64 y1]]) (by simp [results, Try.results71, go_sem, c0, c1, c2, c3]) rfl
        ⟨x0, x1, y0, y1, rfl, by refine Below.drew (Below.setCell (Below.setCell (Below.setCell (Below.setCell hB ?_ _) ?_ _) ?_ _) ?_ _) <;> simp, ?_⟩
      show ms[segL ms x 1]? = _ ∧ ms[segL ms x 1 + 1]? = _
      rw [hs.out, show ms.length - 2 + 1 = ms.length - 1 by omega]
      exact ⟨h1, h2⟩
end Go.Proofs.Ytjghlfagdleglaa
