/-
  Contract: the function literal of amid (track).
-/
import Derived.Test.YtoilbgngefleiaaJoined
import Derived.Test.YtoilbgngefleiaaMinMax
import Derived.Deep.RegionHeld3
import Derived.Deep.AppendLies
import Derived.Deep.RegionLaw
import Derived.BigRegion
namespace Go.Proofs.Ytoilbgngefleiaa
open Go Go.RowKit Go.Shelf

/-- The line parallel to that through two points, in the middle between all points. -/
def amL (ms : List (Int × Int)) (x : (Int × Int) × (Int × Int)) : Ln :=
  (2 * thA x.1 x.2, 2 * thB x.1 x.2 + minL (ms.map (rsI (thA x.1 x.2) (thB x.1 x.2) (thD x.1 x.2))) + maxL (ms.map (rsI (thA x.1 x.2) (thB x.1 x.2) (thD x.1 x.2))), 2 * thD x.1 x.2)
theorem kwrap (n : Int) (h : -9223372036854775808 ≤ n ∧ n ≤ 9223372036854775807) : IntKind.i64.wrap n = n := by rw [IntKind.wrap_i64]; omega
theorem th_bd {p q : Int × Int} (hp : ptB p = true) (hq : ptB q = true) (h : p.1 ≠ q.1) : (-2000 ≤ thA p q ∧ thA p q ≤ 2000) ∧ (1 ≤ thD p q ∧ thD p q ≤ 200) ∧ (-400000 ≤ thB p q ∧ thB p q ≤ 400000) := by
  by_cases hlt : q.1 < p.1
  · have := up_bd hq hp hlt
    simp only [thA, thB, thD, if_pos hlt, upB]
    omega
  · have := up_bd hp hq (by omega)
    simp only [thA, thB, thD, if_neg hlt, upB]
    omega
theorem th_ln {p q : Int × Int} (hp : ptB p = true) (hq : ptB q = true) (h : p.1 ≠ q.1) : LnB (thA p q) (thB p q) (thD p q) := by
  have := th_bd hp hq h
  unfold LnB
  omega
theorem rs_small {a b d : Int} {q : Int × Int} (ha : -2000 ≤ a ∧ a ≤ 2000) (hb : -400000 ≤ b ∧ b ≤ 400000) (hd : 1 ≤ d ∧ d ≤ 200) (hq : ptB q = true) : -800000 ≤ rsI a b d q ∧ rsI a b d q ≤ 800000 := by
  obtain ⟨⟨x0, x1⟩, y0, y1⟩ := pt_parts hq
  have h1 := mulBox (X := 1000) (Y := 200) y0 y1 (show -200 ≤ d by omega) hd.2
  have h2 := mulBox (X := 100) (Y := 2000) x0 x1 ha.1 ha.2
  unfold rsI
  omega
theorem am_bd {ms : List (Int × Int)} (hne : 0 < ms.length) (hpt : ∀ q ∈ ms, ptB q = true) {p q : Int × Int} (hp : ptB p = true) (hq : ptB q = true) (h : p.1 ≠ q.1) :
    (-800000 ≤ minL (ms.map (rsI (thA p q) (thB p q) (thD p q))) ∧ minL (ms.map (rsI (thA p q) (thB p q) (thD p q))) ≤ 800000) ∧ (-800000 ≤ maxL (ms.map (rsI (thA p q) (thB p q) (thD p q))) ∧ maxL (ms.map (rsI (thA p q) (thB p q) (thD p q))) ≤ 800000) := by
  have hb := th_bd hp hq h
  have hall : ∀ z ∈ ms.map (rsI (thA p q) (thB p q) (thD p q)), -800000 ≤ z ∧ z ≤ 800000 := fun z hz => by
    obtain ⟨y, hy, rfl⟩ := List.mem_map.1 hz
    exact rs_small hb.1 hb.2.2 hb.2.1 (hpt y hy)
  exact ⟨minL_box (by simpa using hne) hall, maxL_box (by simpa using hne) hall⟩
theorem am_ln {ms : List (Int × Int)} (hne : 0 < ms.length) (hpt : ∀ q ∈ ms, ptB q = true) {x : (Int × Int) × (Int × Int)} (hp : ptB x.1 = true) (hq : ptB x.2 = true) (h : x.1.1 ≠ x.2.1) : LnB (amL ms x).1 (amL ms x).2.1 (amL ms x).2.2 := by
  have h1 := th_bd hp hq h
  have h2 := am_bd hne hpt hp hq h
  unfold LnB amL
  simp only
  omega

set_option maxRecDepth 100000 in
set_option maxHeartbeats 2000000 in
theorem amid_any (ms : List (Int × Int)) (A : Option Addr) (c : Nat) (w : World) (B : Nat) (h : Clk w A c ms) (hv : viP ms = true) (hB : B < w.heap.size) (c0 : w.cell? ⟨B, 0, none⟩ = some (.slice A ms.length c)) :
    MadeAt 113 #[.pointer (some ⟨B, 0, none⟩)] (amL ms) w := by
  intro W x hW hp hq hne
  obtain ⟨⟨p0, p1⟩, ⟨q0, q1⟩⟩ := x
  obtain ⟨⟨hn1, hn2⟩, hpt, _⟩ := vi_parts hv
  have c1 := (hW.cell (p := ⟨B, 0, none⟩) hB).trans c0
  have hBW : B < W.heap.size := Nat.lt_of_lt_of_le hB hW.size
  have HC := Lib.hid (h.below hW)
  have hbd := th_bd hp hq hne
  have hmm := am_bd (by omega) hpt hp hq hne
  have HLN := Lib.hid (th_ln hp hq hne)
  have HALL : Hid (ms.all ptB = true) := Lib.hid (List.all_eq_true.2 hpt)
  obtain ⟨a, ha⟩ : ∃ a, thA (p0, p1) (q0, q1) = a := ⟨_, rfl⟩
  obtain ⟨b, hb⟩ : ∃ b, thB (p0, p1) (q0, q1) = b := ⟨_, rfl⟩
  obtain ⟨d, hd⟩ : ∃ d, thD (p0, p1) (q0, q1) = d := ⟨_, rfl⟩
  simp only [ha, hb, hd] at hbd hmm HLN
  obtain ⟨mn, hmn⟩ : ∃ m, minL (ms.map (rsI a b d)) = m := ⟨_, rfl⟩
  obtain ⟨mx, hmx⟩ : ∃ m, maxL (ms.map (rsI a b d)) = m := ⟨_, rfl⟩
  simp only [hmn, hmx] at hmm
  have HR : Hid (lnV (amL ms ((p0, p1), (q0, q1))) = .agg #[.int .i64 (2 * a), .int .i64 (2 * b + mn + mx), .int .i64 (2 * d)]) := Lib.hid (by simp only [amL, lnV, ha, hb, hd, hmn, hmx])
  have HTH : Hid (∀ V, Calls Try.prog 81 #[.agg #[.int .i64 p0, .int .i64 p1], .agg #[.int .i64 q0, .int .i64 q1]] V fun e w' => e = .returned (.agg #[.int .i64 a, .int .i64 b, .int .i64 d]) ∧ Below V.heap.size V w') := Lib.hid fun V => by
    have := through_any p0 p1 q0 q1 V hp hq hne
    rw [ha, hb, hd] at this
    exact this
  have HMN := Lib.hid hmn
  have HMX := Lib.hid hmx
  clear hmn hmx ha hb hd hp hq hne hv h hW hpt c0
  show Calls Try.prog 113 #[.agg #[.int .i64 p0, .int .i64 p1], .agg #[.int .i64 q0, .int .i64 q1], .pointer (some ⟨B, 0, none⟩)] W _
  go_enter Try.func113, Try.ntmps113
  go_wp2_with (first
    | (go_at_call 81; refine (HTH.out _).mono ?_; rintro e w1 ⟨rfl, hB1⟩; have hW1 : Below W.heap.size W w1 := Below.trans (by repeat (first | with_reducible exact Below.refl _ _ | with_reducible assumption | refine below_drewN ?_ _ | with_reducible refine Below.drew ?_ | (refine Below.setCell ?_ (by first | (simp; done) | (simp; omega) | omega) _) | (refine Below.alloc ?_ (by first | (simp; done) | (simp; omega) | omega) _))) (hB1.mono (by first | (simp; done) | (simp; omega) | omega)); have hz1 : W.heap.size + 1 + 1 < w1.heap.size := (by have := hB1.size; simp at this; omega); have hr1 : w1.heap[W.heap.size + 1 + 1]? = some (.cells #[.int .i64 0, .int .i64 0, .int .i64 0] 24 (0, 0)) := (hB1.block _ (by simp)).trans (by simpa using heap_alloc_new ((W.alloc (.cells #[.int .i64 p0, .int .i64 p1] 54)).alloc (.cells #[.int .i64 q0, .int .i64 q1] 54)) (.cells #[.int .i64 0, .int .i64 0, .int .i64 0] 24)); have c2 : (w1.alloc (.cells #[.int .i64 a, .int .i64 b, .int .i64 d] 24)).cell? ⟨B, 0, none⟩ = some (.slice A ms.length c) := (World.cell?_alloc_lt w1 _ ⟨B, 0, none⟩ (Nat.lt_of_lt_of_le hBW hW1.size)).trans ((hW1.cell (p := ⟨B, 0, none⟩) hBW).trans c1))
    | (go_at_call 58; refine (rests_any ms A c a b d _ ((HC.out.marks.below hW1).below ((Below.refl _ _).alloc (Nat.le_refl _) _)) (by omega) HLN.out HALL.out).mono ?_; rintro e w2 ⟨A2, c22, zs, rfl, hO2, hB2, hzs⟩)
    | fail)
  have hW2 : Below W.heap.size W w2 := hW1.trans (((Below.refl W.heap.size w1).alloc hW1.size _).trans (hB2.mono (by simp; have := hW1.size; omega)))
  have hz2 : w1.heap.size < w2.heap.size := by have := hB2.size; simp at this; omega
  have hr2 : w2.heap[W.heap.size + 1 + 1]? = some (.cells #[.int .i64 0, .int .i64 0, .int .i64 0] 24 (0, 0)) := ((hB2.block _ (by simp; omega)).trans (Below.heap_alloc w1 _ _ hz1)).trans hr1
  have hx2 : w2.heap[w1.heap.size]? = some (.cells #[.int .i64 a, .int .i64 b, .int .i64 d] 24 (0, 0)) := (hB2.block _ (by simp)).trans (heap_alloc_new w1 _)
  have HZ : Hid (zs = ms.map (rsI a b d)) := Lib.hid hzs.out
  have hzl : zs.length ≤ 1000 := by rw [HZ.out, List.length_map]; omega
  have hzp : 0 < zs.length := by rw [HZ.out, List.length_map]; omega
  have HO2 := Lib.hid hO2
  have HMN2 : Hid (minL zs = mn) := Lib.hid (by rw [HZ.out]; exact HMN.out)
  have HMX2 : Hid (maxL zs = mx) := Lib.hid (by rw [HZ.out]; exact HMX.out)
  have HW2 := Lib.hid hW2
  obtain ⟨g6, hg6⟩ : ∃ g, w1.heap.size = g := ⟨_, rfl⟩
  obtain ⟨g5, hg5⟩ : ∃ g, W.heap.size + 1 + 1 = g := ⟨_, rfl⟩
  rw [hg5] at hz1 hr2
  simp only [hg6] at hx2 hz2 hz1 ⊢
  simp only [hg5]
  have HG5 := Lib.hid hg5
  have x0 : w2.cell? ⟨g6, 0, none⟩ = some (.int .i64 a) := by rw [cell_of_row w2 _ 0 _ _ (0, 0) hx2]; rfl
  have x1 : w2.cell? ⟨g6, 1, none⟩ = some (.int .i64 b) := by rw [cell_of_row w2 _ 1 _ _ (0, 0) hx2]; rfl
  have x2 : w2.cell? ⟨g6, 2, none⟩ = some (.int .i64 d) := by rw [cell_of_row w2 _ 2 _ _ (0, 0) hx2]; rfl
  have y0 : w2.cell? ⟨g5, 0, none⟩ = some (.int .i64 0) := by rw [cell_of_row w2 _ 0 _ _ (0, 0) hr2]; rfl
  have y1 : w2.cell? ⟨g5, 1, none⟩ = some (.int .i64 0) := by rw [cell_of_row w2 _ 1 _ _ (0, 0) hr2]; rfl
  have y2 : w2.cell? ⟨g5, 2, none⟩ = some (.int .i64 0) := by rw [cell_of_row w2 _ 2 _ _ (0, 0) hr2]; rfl
  have f0 := blk_frozen hr2 0
  have f1 := blk_frozen hr2 1
  have f2 := blk_frozen hr2 2
  have HR2 := Lib.hid hr2
  clear hO2 hzs hB1 hB2 hW1 hW2 c1 c2 hr1 hg5 hg6 hr2 hx2
  have HCN : Hid (Calls Try.prog 114 #[.slice A2 zs.length c22] w2.drew fun e w' => e = .returned (.int .i64 mn) ∧ w' = w2.drew) := Lib.hid ((min_any zs A2 c22 w2.drew (show Ints w2.drew A2 zs from HO2.out.ints) hzl hzp).mono fun e w' ⟨he, hw⟩ => ⟨by rw [he, HMN2.out], hw.symm⟩)
  have HCX : Hid (Calls Try.prog 115 #[.slice A2 zs.length c22] w2.drew fun e w' => e = .returned (.int .i64 mx) ∧ w' = w2.drew) := Lib.hid ((max_any zs A2 c22 w2.drew (show Ints w2.drew A2 zs from HO2.out.ints) hzl hzp).mono fun e w' ⟨he, hw⟩ => ⟨by rw [he, HMX2.out], hw.symm⟩)
  refine wp_region_still_tail 16 (by kernel_rfl) (by kernel_rfl) ?_
  simp only [List.take_succ_cons, List.take_zero, List.drop_succ_cons, List.drop_zero]
  iterate 7 still_step
  still_call HCN.out
  iterate 2 still_step
  still_call HCX.out
  iterate 5 still_step
  refine wpStill_nil ?_
  have v1 : IntKind.i64.wrap (2 * a) = 2 * a := kwrap _ (by omega)
  have v2 : IntKind.i64.wrap (2 * b) = 2 * b := kwrap _ (by omega)
  have v3 : IntKind.i64.wrap (2 * b + mn) = 2 * b + mn := kwrap _ (by omega)
  have v4 : IntKind.i64.wrap (2 * b + mn + mx) = 2 * b + mn + mx := kwrap _ (by omega)
  have v5 : IntKind.i64.wrap (2 * d) = 2 * d := kwrap _ (by omega)
  simp only [v1, v2, v3, v4, v5]
  change wpList _ _ _ _ _ w2.drew
  have hHR : w2.drew.heap[g5]? = some (.cells #[.int .i64 0, .int .i64 0, .int .i64 0] 24 (0, 0)) := HR2.out
  refine wpList_store_row rfl 24 (.tmp 5) (.tmp 29) rfl g5 #[.int .i64 (2 * a), .int .i64 (2 * b + mn + mx), .int .i64 (2 * d)] rfl rfl 24 _ hHR (by kernel_rfl) (by kernel_rfl) (by kernel_rfl) ?_
  refine row_world3 W.heap.size W _ _ g6 _ _ _ hHR (below_drewN HW2.out 1) (by have := HG5.out; omega) (by omega) (fun X hX1 hX3 hX2 => ?_)
  have r0 : X.cell? ⟨g5, 0, none⟩ = some (.int .i64 (2 * a)) := by rw [cell_of_row X _ 0 _ _ (0, 0) hX1]; rfl
  have r1 : X.cell? ⟨g5, 1, none⟩ = some (.int .i64 (2 * b + mn + mx)) := by rw [cell_of_row X _ 1 _ _ (0, 0) hX1]; rfl
  have r2 : X.cell? ⟨g5, 2, none⟩ = some (.int .i64 (2 * d)) := by rw [cell_of_row X _ 2 _ _ (0, 0) hX1]; rfl
  clear v1 v2 v3 v4 v5
  go_wp2
  exact bodyPost_ret (v := lnV (amL ms ((p0, p1), (q0, q1)))) (by rw [HR.out]; simp [results, Try.results113, go_sem, r0, r1, r2]) rfl ⟨rfl, hX2⟩
end Go.Proofs.Ytoilbgngefleiaa
