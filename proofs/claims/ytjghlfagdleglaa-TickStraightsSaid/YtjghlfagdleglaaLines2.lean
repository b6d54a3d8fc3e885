/-
  Contract: lines.
-/
import Derived.Test.YtjghlfagdleglaaLines
import Derived.Deep.RegionHeld3
namespace Go.Proofs.Ytjghlfagdleglaa
open Go.RowKit

theorem own_quads {w : World} {base : Nat} {v : Value} {qs : List Quad} (h : w.ownsRow base 70 4 v qs.length (qs.flatMap mk4)) (hn : 0 < qs.length) :
    ∃ g cap, v = .slice (some ⟨g, 0, none⟩) qs.length cap ∧ qs.length ≤ cap ∧ Quads w (some ⟨g, 0, none⟩) qs := by
  rcases h.2 with ⟨rfl, h0⟩ | ⟨g, cap, cur, rfl, _, _, h1, _⟩
  · omega
  · exact ⟨g, cap, rfl, h1, Reads.of_own h⟩

set_option maxRecDepth 100000 in
set_option maxHeartbeats 800000 in
theorem lines_any (ms : List (Int × Int)) (A : Option Addr) (c : Nat) (w : World) (h : Clk w A c ms) (hn2 : 2 ≤ ms.length) (hn30 : ms.length ≤ 30) :
    Calls Try.prog 80 #[.slice A ms.length c] w fun e w' => ∃ (bl off c' : Nat) (qs : List Quad), e = .returned (.slice (some ⟨bl, off, none⟩) qs.length c') ∧ Quads w' (some ⟨bl, off, none⟩) qs ∧ Below w.heap.size w w' ∧ qs.length ≤ c' ∧ Hid (qs = segs ms (ms.length - 1)) := by
  obtain ⟨bl, off, rfl, hbk, hcells⟩ := h.marks.open_ (by omega)
  have HC := Lib.hid hcells
  have hcap := h.le
  have hc2 : ms.length - 1 ≤ c - 1 := by omega
  have hc1 : c ≠ 1 := by omega
  clear h hcells
  obtain ⟨i0, hi0, hz0, hz1, hz2⟩ := info_parts line_info
  have HI := Lib.hid (And.intro hi0 (And.intro hz0 (And.intro hz1 hz2)))
  clear hi0 hz0 hz1 hz2
  go_enter Try.func80, Try.ntmps80
  go_wp2
  go_loopw [3, 9] (fun v i wr => ∃ k : Nat, k ≤ ms.length - 1 ∧ i = .int .i64 k ∧ wr.ownsRow w.heap.size 70 4 v k ((segs ms k).flatMap mk4) ∧ Below w.heap.size w wr) (fun _ i _ => ms.length - 1 - (intOf i).toNat)
  case atStart => exact ⟨0, Nat.zero_le _, rfl, World.ownsRow_nil _ _ _ _, Below.refl _ _⟩
  case round =>
    obtain ⟨k, hk, rfl, hown, hB⟩ := hrel
    by_cases hlt : k < ms.length - 1
    · obtain ⟨a, b, hx⟩ := getM_of_lt (show k < ms.length by omega)
      obtain ⟨p, q, hy⟩ := getM_of_lt (show k + 1 < ms.length by omega)
      have e1 := (hB.cell (p := ⟨bl, off + k * 2, none⟩) hbk).trans (HC.out k _ hx).1
      have e2 := (hB.cell (p := ⟨bl, off + k * 2 + 1, none⟩) hbk).trans (HC.out k _ hx).2
      have e3 : wr.cell? ⟨bl, off + 2 + k * 2, none⟩ = some (.int .i64 p) := by
        rw [show off + 2 + k * 2 = off + (k + 1) * 2 by omega]
        exact (hB.cell (p := ⟨bl, off + (k + 1) * 2, none⟩) hbk).trans (HC.out (k + 1) _ hy).1
      have e4 : wr.cell? ⟨bl, off + 2 + k * 2 + 1, none⟩ = some (.int .i64 q) := by
        rw [show off + 2 + k * 2 + 1 = off + (k + 1) * 2 + 1 by omega]
        exact (hB.cell (p := ⟨bl, off + (k + 1) * 2 + 1, none⟩) hbk).trans (HC.out (k + 1) _ hy).2
      have hs := Lib.hid (segs_succ hx hy)
      clear hx hy
      have hz := hB.size
      have hbw : bl < wr.heap.size := Nat.lt_of_lt_of_le hbk hB.size
      have i0' : (0 : Int) ≤ (k : Int) := by omega
      have i1 : (k : Int) < (ms.length : Int) := by omega
      go_wp2
      have hB1 : Below w.heap.size w (wr.alloc (.cells #[.int .i64 p, .int .i64 q] 61)) := (by repeat (first | with_reducible exact Below.refl _ _ | with_reducible assumption | refine below_drewN ?_ _ | with_reducible refine Below.drew ?_ | (refine Below.setCell ?_ (by first | (simp; done) | (simp; omega) | omega) _) | (refine Below.alloc ?_ (by first | (simp; done) | (simp; omega) | omega) _)))
      have hblk : (wr.alloc (.cells #[.int .i64 p, .int .i64 q] 61)).heap[wr.heap.size]? = some (.cells #[.int .i64 p, .int .i64 q] 61 (0, 0)) := heap_alloc_new wr _
      have hown1 := hown.alloc (.cells #[.int .i64 p, .int .i64 q] 61)
      have f1 := (World.cell?_alloc_lt wr (.cells #[.int .i64 p, .int .i64 q] 61) ⟨bl, off + k * 2, none⟩ hbw).trans e1
      have f2 := (World.cell?_alloc_lt wr (.cells #[.int .i64 p, .int .i64 q] 61) ⟨bl, off + k * 2 + 1, none⟩ hbw).trans e2
      have hnb : wr.heap.size < (wr.alloc (.cells #[.int .i64 p, .int .i64 q] 61)).heap.size := by simp
      generalize wr.alloc (.cells #[.int .i64 p, .int .i64 q] 61) = W1 at hB1 hblk hown1 f1 f2 hnb ⊢
      clear e1 e2 e3 e4 hown
      generalize wr.heap.size = nb at hblk hnb hz hbw ⊢
      clear hB wr
      have f3 : W1.cell? ⟨nb, 0, none⟩ = some (.int .i64 p) := cell_of_row W1 nb 0 _ _ _ hblk
      have f4 : W1.cell? ⟨nb, 1, none⟩ = some (.int .i64 q) := cell_of_row W1 nb 1 _ _ _ hblk
      have HOWN := Lib.hid hown1
      have HBLK := Lib.hid hblk
      have hz1 := hB1.size
      have HNE := Lib.hid (own_ne hown1 hblk (by decide))
      clear hown1 hblk
      go_region_held3 (fun w' => w'.cell? ⟨bl, off + k * 2, none⟩ = some (.int .i64 a) ∧ w'.cell? ⟨bl, off + k * 2 + 1, none⟩ = some (.int .i64 b) ∧ w'.cell? ⟨nb, 0, none⟩ = some (.int .i64 p) ∧ w'.cell? ⟨nb, 1, none⟩ = some (.int .i64 q))
        (first | go_keep | exact ⟨(hB2.cell (p := ⟨bl, off + k * 2, none⟩) hbk).trans f1, (hB2.cell (p := ⟨bl, off + k * 2 + 1, none⟩) hbk).trans f2, cell_of_row w2 nb 0 _ _ _ ((hfar nb hnb HNE.out).trans HBLK.out), cell_of_row w2 nb 1 _ _ _ ((hfar nb hnb HNE.out).trans HBLK.out)⟩)
        ((refine step_app W1 rfl (.tmp 14) (.tmp 21) 88 rfl w.heap.size 70 i0 _ 4 32 Try.underlying88 HI.out.1 HI.out.2.1 HI.out.2.2.1 HI.out.2.2.2 rfl (by decide) (by decide) _ k _ [.int .i64 a, .int .i64 b, .int .i64 p, .int .i64 q] rfl HOWN.out rfl rfl (by intro u hu; simp at hu; rcases hu with rfl | rfl | rfl | rfl <;> rfl) (by omega) hz1 ?_; intro v2 w2 hown2 hB2 hfar))
      go_wp2
      go_roundw
      case rel => exact ⟨k + 1, by omega, by go_num, by rw [hs.out, List.flatMap_append]; exact hown2, hB1.trans hB2⟩
      case measure => simp [intOf]; omega
    · obtain rfl : k = ms.length - 1 := by omega
      go_wp2
      go_ret
      obtain ⟨g, cap, rfl, hle, hq⟩ := own_quads (qs := segs ms (ms.length - 1)) (by rw [segs_len]; exact hown) (by rw [segs_len]; omega)
      refine ⟨g, 0, cap, segs ms (ms.length - 1), by rw [segs_len]; rfl, hq, hB, hle, rfl⟩

/-- What lineOf picks: the last index from 1 to k at which p holds, or else 0. -/
def segI (p : Nat → Bool) : Nat → Nat
  | 0 => 0
  | k + 1 => if p (k + 1) then k + 1 else segI p k
theorem segI_le (p : Nat → Bool) : ∀ k, segI p k ≤ k
  | 0 => Nat.le_refl _
  | k + 1 => by
    unfold segI
    have := segI_le p k
    split <;> omega
theorem segI_yes {p : Nat → Bool} {k : Nat} (h : p (k + 1) = true) : segI p (k + 1) = k + 1 := by rw [segI, if_pos h]
theorem segI_no {p : Nat → Bool} {k : Nat} (h : ¬ p (k + 1) = true) : segI p (k + 1) = segI p k := by rw [segI, if_neg h]
end Go.Proofs.Ytjghlfagdleglaa
