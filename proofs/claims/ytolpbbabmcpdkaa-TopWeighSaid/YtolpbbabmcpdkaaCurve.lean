/-
  Contract: curve (weigh).
-/
import Derived.Test.YtolpbbabmcpdkaaRow
import Derived.Test.YtolpbbabmcpdkaaPts
import Derived.Test.YtolpbbabmcpdkaaJoined
set_option linter.unusedVariables false
set_option linter.unusedSimpArgs false
namespace Go.Proofs.Ytolpbbabmcpdkaa
open Go.RowKit Go.Shelf

theorem three_new (w : World) (xs ys zs : Array Value) (s t r : TypeId) : ∃ W0, W0 = ((w.alloc (.cells xs s)).alloc (.cells ys t)).alloc (.cells zs r) ∧ W0.heap.size = w.heap.size + 3 ∧ Hid (Below w.heap.size w W0) ∧ Hid (W0.heap[w.heap.size]? = some (.cells xs s (0, 0))) ∧ Hid (W0.heap[w.heap.size + 1]? = some (.cells ys t (0, 0))) ∧ Hid (W0.heap[w.heap.size + 2]? = some (.cells zs r (0, 0))) := by
  obtain ⟨W1, h1, hB, a0, a1, z0, z1⟩ := two_new w xs ys s t
  have hs : W1.heap.size = w.heap.size + 2 := by rw [h1]; simp
  refine ⟨_, rfl, by simp, ?_, ?_, ?_, ?_⟩
  · rw [← h1]; exact Below.alloc hB.out hB.out.size _
  · rw [← h1]; exact (Below.heap_alloc W1 _ _ z0).trans a0.out
  · rw [← h1]; exact (Below.heap_alloc W1 _ _ z1).trans a1.out
  · rw [← h1, ← hs]; exact heap_alloc_new W1 _

/-- The weights of an outcome, in a world behind the first one. -/
theorem Od.at2 {ns ss : List Int} (h : Od ns ss) {w wr : World} {A B : Option Addr} (hA : Ints w A ns) (hB : Ints w B ss) (hW : Below w.heap.size w wr) {a : Nat} (ha : a < ns.length) :
    ∃ (ad bd : Addr) (x y : Int), A = some ad ∧ B = some bd ∧ wr.cell? (ad.add a) = some (.int .i64 x) ∧ wr.cell? (bd.add a) = some (.int .i64 y) ∧ (ad.add a).block < w.heap.size ∧ (bd.add a).block < w.heap.size ∧ Hid (ns.getD a 0 = x) ∧ Hid (ss.getD a 0 = y) ∧ 0 ≤ x ∧ x ≤ 1000 ∧ 0 ≤ y ∧ y ≤ 1000 := by
  obtain ⟨ad, x, e1, k1, h1, c1⟩ := hA.get ha
  obtain ⟨bd, y, e2, k2, h2, c2⟩ := hB.get (show a < ss.length by rw [← h.len]; exact ha)
  have b1 := h.nb x (List.mem_of_getElem? h1.out)
  have b2 := h.sb y (List.mem_of_getElem? h2.out)
  have m1 : (ad.add a).block < w.heap.size := by rw [block_of_add]; exact k1
  have m2 : (bd.add a).block < w.heap.size := by rw [block_of_add]; exact k2
  exact ⟨ad, bd, x, y, e1, e2, (hW.cell m1).trans c1, (hW.cell m2).trans c2, m1, m2, getD_of h1.out, getD_of h2.out, b1.1, b1.2, b2.1, b2.2⟩

set_option maxRecDepth 100000 in
set_option maxHeartbeats 2000000 in
theorem curve_own (ns ss : List Int) (A B : Option Addr) (c d : Nat) (ho : Od ns ss) (w : World) (hA : Ints w A ns) (hB : Ints w B ss) :
    Calls Try.prog 89 #[.agg #[.slice A ns.length c, .slice B ss.length d, .int .i64 ns.sum, .int .i64 ss.sum]] w fun e w' => ∃ A' c', e = .returned (.slice A' (ns.length + 1) c') ∧ Clk w' A' c' (cvL ns ss (ns.length + 1)) ∧ Below w.heap.size w w' ∧ (∀ x, A' = some x → w.heap.size ≤ x.block) := by
  obtain ⟨W0, hW0, hs0, HW, H0, H1, H2⟩ := three_new w #[.slice A ns.length c, .slice B ss.length d, .int .i64 ns.sum, .int .i64 ss.sum] #[.int .i64 0, .int .i64 0] #[.int .i64 0, .int .i64 0] 67 88 88
  have HA := Lib.hid hA
  have HB := Lib.hid hB
  have hn1 := ho.pos
  have hn2 := ho.le
  have HS0 := Lib.hid hs0
  clear hA hB hs0
  have HP0 : Hid (W0.ownsRow (w.heap.size + 2) 88 2 (.slice (some ⟨w.heap.size + 2, 0, none⟩) 1 1) 1 ((cvL ns ss 1).flatMap mk2)) := Lib.hid ⟨rfl, .inr ⟨w.heap.size + 2, 1, _, rfl, Nat.le_refl _, H2.out, Nat.le_refl _, by unfold maxLen; omega, rfl, rfl⟩⟩
  go_enter Try.func89, Try.ntmps89
  go_wp2_with (go_at_call 73; refine (row_own ns ss A B c d ho _ (HA.out.below (by repeat (first | with_reducible exact Below.refl _ _ | with_reducible assumption | refine below_drewN ?_ _ | with_reducible refine Below.drew ?_ | (refine Below.setCell ?_ (by first | (simp; done) | (simp; omega) | omega) _) | (refine Below.alloc ?_ (by first | (simp; done) | (simp; omega) | omega) _)))) (HB.out.below (by repeat (first | with_reducible exact Below.refl _ _ | with_reducible assumption | refine below_drewN ?_ _ | with_reducible refine Below.drew ?_ | (refine Below.setCell ?_ (by first | (simp; done) | (simp; omega) | omega) _) | (refine Below.alloc ?_ (by first | (simp; done) | (simp; omega) | omega) _))))).mono ?_; rintro e w1 ⟨gb, rfl, hown1, hB1⟩; rw [← hW0] at hB1 hown1)
  have hge : w.heap.size ≤ W0.heap.size := HW.out.size
  have hgb := hown1.lt gb rfl
  have HR1 := Lib.hid hown1
  have HBB1 := Lib.hid hB1
  have q0 : w.heap.size < W0.heap.size := by rw [HS0.out]; omega
  have q1 : w.heap.size + 1 < W0.heap.size := by rw [HS0.out]; omega
  have q3 : w.heap.size + 2 ≤ W0.heap.size := by rw [HS0.out]; omega
  clear hown1 hB1
  go_loopw [4, 12] (fun v i wr => ∃ k : Nat, k ≤ ns.length ∧ i = .int .i64 k ∧ wr.ownsRow (w.heap.size + 2) 88 2 v (k + 1) ((cvL ns ss (k + 1)).flatMap mk2) ∧ Below w.heap.size w wr ∧ wr.ownsRow W0.heap.size 3 1 (.slice (some ⟨gb, 0, none⟩) ns.length ns.length) ns.length ((rowL ns ss).map (Value.int .i64)) ∧ Hid (wr.heap[w.heap.size]? = some (.cells #[.slice A ns.length c, .slice B ss.length d, .int .i64 ns.sum, .int .i64 ss.sum] 67 (0, 0))) ∧ Hid (wr.heap[w.heap.size + 1]? = some (.cells #[.int .i64 (cvP ns ss k).1, .int .i64 (cvP ns ss k).2] 88 (0, 0)))) (fun _ i _ => ns.length - (intOf i).toNat)
  case atStart => exact ⟨0, Nat.zero_le _, rfl, own_below HP0.out HBB1.out, below_step HW.out HBB1.out, HR1.out, (HBB1.out.block _ q0).trans H0.out, (HBB1.out.block _ q1).trans H1.out⟩
  case round =>
    clear HP0 HR1 HBB1 H0 H1 H2 HW
    obtain ⟨k, hk, rfl, hown, hW, hrow, H0, H1⟩ := hrel
    have HO := Lib.hid hown
    have HRW := Lib.hid hrow
    have HW := Lib.hid hW
    by_cases hlt : k < ns.length
    · obtain ⟨a, ha, hra, hpa⟩ := row_get (ns := ns) (ss := ss) hlt
      obtain ⟨ad, bd, x, y, rfl, rfl, c1, c2, m1, m2, e1, e2, x0, x1, y0, y1⟩ := ho.at2 HA.out HB.out HW.out ha
      have hb2 := cv_bd ho.pr k hk
      have HCV := Lib.hid (cv_succ hpa)
      rw [e1.out, e2.out] at HCV
      obtain ⟨p, hp⟩ : ∃ p, p = (cvP ns ss k).1 := ⟨_, rfl⟩
      obtain ⟨q, hq⟩ : ∃ q, q = (cvP ns ss k).2 := ⟨_, rfl⟩
      rw [← hp, ← hq] at H1 hb2 HCV
      have hr := hrow.cellAt k (by omega)
      rw [List.getElem?_map, hra, Option.map_some] at hr
      have hl := ho.len
      have ha2 : a < ss.length := by omega
      have b0 : World.cell? _ ⟨_, 0, none⟩ = some (.slice (some ad) ns.length c) := blk_cell H0.out 0 rfl
      have b1 : World.cell? _ ⟨_, 1, none⟩ = some (.slice (some bd) ss.length d) := blk_cell H0.out 1 rfl
      have d0 : World.cell? _ ⟨_, 0, none⟩ = some (.int .i64 p) := blk_cell H1.out 0 rfl
      have d1 : World.cell? _ ⟨_, 1, none⟩ = some (.int .i64 q) := blk_cell H1.out 1 rfl
      have j0 := blk_frozen H1.out 0
      have j1 := blk_frozen H1.out 1
      have p0 : 0 ≤ p := hb2.1.1
      have p1 : p ≤ 10000 := by omega
      have q0' : 0 ≤ q := hb2.2.1
      have q1' : q ≤ 10000 := by omega
      clear hb2 hown hrow hW hp hq hra hpa hl
      have c2' := fun v => (cell_set1 wr (g := w.heap.size + 1) (i := 0) (v := v) (p := bd.add a) (by omega)).trans c2
      go_wp2
      go_region
      go_wp2
      go_region
      obtain ⟨W3, hW3⟩ : ∃ W3, ((wr.setCell ⟨w.heap.size + 1, 0, none⟩ (.int .i64 (p + x))).setCell ⟨w.heap.size + 1, 1, none⟩ (.int .i64 (q + y))).drew.drew = W3 := ⟨_, rfl⟩
      have hx0 : Hid (W3.heap[w.heap.size]? = some (.cells #[.slice (some ad) ns.length c, .slice (some bd) ss.length d, .int .i64 ns.sum, .int .i64 ss.sum] 67 (0, 0))) := Lib.hid (by rw [← hW3]; exact (heap_setCell_other _ _ _ _ (by simp)).trans ((heap_setCell_other _ _ _ _ (by simp)).trans H0.out))
      have hx1 : Hid (W3.heap[w.heap.size + 1]? = some (.cells #[.int .i64 (p + x), .int .i64 (q + y)] 88 (0, 0))) := Lib.hid (by rw [← hW3]; exact heap_setCell_same _ _ 1 _ _ _ (heap_setCell_same _ _ 0 _ _ _ H1.out))
      have hx2 := Lib.hid (World.ownsRow.drew (World.ownsRow.drew (ownsRow_setCell_below (ownsRow_setCell_below HO.out (a := ⟨w.heap.size + 1, 0, none⟩) (Nat.lt_succ_self _) (.int .i64 (p + x))) (a := ⟨w.heap.size + 1, 1, none⟩) (Nat.lt_succ_self _) (.int .i64 (q + y)))))
      rw [hW3] at hx2
      have hx3 := Lib.hid (World.ownsRow.drew (World.ownsRow.drew (ownsRow_setCell_below (ownsRow_setCell_below HRW.out (a := ⟨w.heap.size + 1, 0, none⟩) q1 (.int .i64 (p + x))) (a := ⟨w.heap.size + 1, 1, none⟩) q1 (.int .i64 (q + y)))))
      rw [hW3] at hx3
      have hx4 : Hid (Below w.heap.size w W3) := Lib.hid (by rw [← hW3]; exact Below.drew (Below.drew (Below.setCell (Below.setCell HW.out (Nat.le_succ _) _) (Nat.le_succ _) _)))
      have hsz3 : w.heap.size + 2 ≤ W3.heap.size := by
        have := (Array.getElem?_eq_some_iff.1 hx1.out).1
        omega
      rw [hW3]
      clear hW3 H0 H1 HO HRW HW b0 b1 d0 d1 j0 j1 c1 c2 c2'
      have d0 : World.cell? _ ⟨_, 0, none⟩ = some (.int .i64 (p + x)) := blk_cell hx1.out 0 rfl
      have d1 : World.cell? _ ⟨_, 1, none⟩ = some (.int .i64 (q + y)) := blk_cell hx1.out 1 rfl
      go_wp2_with (at_builtin; refine wp_app_lay _ rfl (.tmp 36) (.tmp 38) rfl (w.heap.size + 2) _ (k + 1) _ _ _ rfl hx2.out rfl (by omega) hsz3 ?_; intro v2 w2 hown2 hB2 hfar)
      go_roundw
      case rel => exact ⟨k + 1, by omega, by go_num, by rw [cvL_succ, HCV.out]; exact hown2, hx4.out.trans (hB2.mono (by omega)), own_far hx3.out hfar (own_sep hx3.out hx2.out (by decide)), (hB2.block _ (by omega)).trans hx0.out, by rw [HCV.out]; exact (hB2.block _ (by omega)).trans hx1.out⟩
      case measure => simp [intOf]; omega
    · obtain rfl : k = ns.length := by omega
      have hbs := own_base hown
      obtain ⟨A', c', rfl, hC⟩ := own_layers hown
      rw [cvL_len]
      go_wp2
      go_ret
      exact ⟨A', c', rfl, hC, HW.out, fun x hx => Nat.le_trans (by omega) (hbs _ _ _ rfl x hx)⟩
end Go.Proofs.Ytolpbbabmcpdkaa
