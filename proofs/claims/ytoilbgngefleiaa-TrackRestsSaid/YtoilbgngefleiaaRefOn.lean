/-
  Contract: On (firnref05).
-/
import Derived.Test.YtoilbgngefleiaaRefV
import Derived.Test.YtoilbgngefleiaaOnT
namespace Go.Proofs.Ytoilbgngefleiaa
open Go Go.RowKit Go.Shelf

set_option maxRecDepth 100000 in
set_option maxHeartbeats 1000000 in
theorem refOn_any (ms : List (Int × Int)) (A : Option Addr) (c : Nat) (a b d : Int) (w : World) (h : Clk w A c ms) :
    Calls Try.prog 29 #[.slice A ms.length c, .agg #[.int .i64 a, .int .i64 b, .int .i64 d]] w fun e w' => ∃ (A' : Option Addr) (c' : Nat) (ys : List Int), e = .returned (.tuple #[.slice A' ys.length c', .int .i64 (ckE ms a b d)]) ∧ Out w' A' c' ys ∧ Below w.heap.size w w' ∧ Hid (ys = onV ms a b d) := by
  obtain ⟨k, hk⟩ : ∃ k, ckE ms a b d = k := ⟨_, rfl⟩
  obtain ⟨W0, hW0⟩ : ∃ W0, w.alloc (.cells #[.int .i64 a, .int .i64 b, .int .i64 d] 24) = W0 := ⟨_, rfl⟩
  have hB0 : Below w.heap.size w W0 := by rw [← hW0]; exact (Below.refl _ _).alloc (Nat.le_refl _) _
  have hz : W0.heap.size = w.heap.size + 1 := by rw [← hW0]; simp
  have g0 : W0.heap[w.heap.size]? = some (.cells #[.int .i64 a, .int .i64 b, .int .i64 d] 24 (0, 0)) := by rw [← hW0]; exact heap_alloc_new _ _
  have y0 : W0.cell? ⟨w.heap.size, 0, none⟩ = some (.int .i64 a) := by rw [cell_of_row W0 _ 0 _ _ (0, 0) g0]; rfl
  have y1 : W0.cell? ⟨w.heap.size, 1, none⟩ = some (.int .i64 b) := by rw [cell_of_row W0 _ 1 _ _ (0, 0) g0]; rfl
  have y2 : W0.cell? ⟨w.heap.size, 2, none⟩ = some (.int .i64 d) := by rw [cell_of_row W0 _ 2 _ _ (0, 0) g0]; rfl
  have HH := Lib.hid (h.below hB0)
  have HB0 := Lib.hid hB0
  have HG0 := Lib.hid g0
  have HCK : Hid (Calls Try.prog 60 #[.slice A ms.length c, .agg #[.int .i64 a, .int .i64 b, .int .i64 d]] W0 fun e w' => e = .returned (.int .i64 k) ∧ Below W0.heap.size W0 w') := Lib.hid (by
    have q := asked_any ms A c a b d W0 (h.below hB0).marks h.len
    rw [hk] at q
    exact q)
  have HK := Lib.hid hk
  clear h hB0 g0
  rw [hk]
  clear hk
  by_cases h0 : k = 0
  · subst h0
    have HV := Lib.hid (ck_zero HK.out)
    have hn := (vi_parts HV.out.1).1.2
    have HALL : Hid (ms.all ptB = true) := Lib.hid (List.all_eq_true.2 (vi_parts HV.out.1).2.1)
    go_enter Try.func29, Try.ntmps29
    go_wp2_with (first
      | (go_at_call 60; refine HCK.out.mono ?_; rintro e w1 ⟨rfl, hB1⟩; have g0 := Lib.hid ((hB1.block _ (by omega)).trans HG0.out); have x0 : w1.cell? ⟨w.heap.size, 0, none⟩ = some (.int .i64 a) := (by rw [cell_of_row w1 _ 0 _ _ (0, 0) g0.out]; rfl); have x1 : w1.cell? ⟨w.heap.size, 1, none⟩ = some (.int .i64 b) := (by rw [cell_of_row w1 _ 1 _ _ (0, 0) g0.out]; rfl); have x2 : w1.cell? ⟨w.heap.size, 2, none⟩ = some (.int .i64 d) := (by rw [cell_of_row w1 _ 2 _ _ (0, 0) g0.out]; rfl))
      | fail)
    have HW1 := Lib.hid (below_step HB0.out hB1)
    have hs1 : w.heap.size + 1 ≤ w1.heap.size := by have := hB1.size; omega
    have HH1 := Lib.hid (HH.out.below hB1)
    have HAL : Hid (∀ q ∈ ms, ptB q = true) := Lib.hid (vi_parts HV.out.1).2.1
    have HLN := Lib.hid (ln_of HV.out.2)
    have HL2 : Hid ((ms.map (rsI a b d)).length = ms.length) := Lib.hid (List.length_map _)
    clear x0 x1 x2 y0 y1 y2 hB1
    go_loopw [7, 18] (fun v i wr => ∃ k m : Nat, k ≤ ms.length ∧ i = .int .i64 k ∧ Hid (m = (zeroL (ms.map (rsI a b d)) k).length) ∧ m ≤ k ∧ Hid (wr.ownsRow w1.heap.size 3 1 v m ((zeroL (ms.map (rsI a b d)) k).map (Value.int .i64))) ∧ Hid (Below w1.heap.size w1 wr)) (fun _ i _ => ms.length - (intOf i).toNat)
    case atStart => exact ⟨0, 0, Nat.zero_le _, rfl, rfl, Nat.le_refl _, World.ownsRow_nil _ _ _ _, Lib.hid (Below.refl _ _)⟩
    case round =>
      obtain ⟨k, m, hk, rfl, hm, hmk, HOW, HB⟩ := hrel
      have hsz := HB.out.size
      by_cases hlt : k < ms.length
      · obtain ⟨bl, off, rfl, hbk, hcells⟩ := HH1.out.marks.open_ (show 0 < ms.length by omega)
        obtain ⟨x, y, hxy⟩ := getM_of_lt hlt
        have HP : Hid (ptB (x, y) = true) := Lib.hid (HAL.out _ (List.mem_of_getElem? hxy))
        have c0 := (HB.out.cell (p := ⟨bl, off + k * 2, none⟩) hbk).trans (by simpa using (hcells k _ hxy).1)
        have c1 := (HB.out.cell (p := ⟨bl, off + k * 2 + 1, none⟩) hbk).trans (by simpa using (hcells k _ hxy).2)
        have hz : (ms.map (rsI a b d))[k]? = some (rsI a b d (x, y)) := by rw [List.getElem?_map, hxy]; rfl
        obtain ⟨r, hr⟩ : ∃ r, rsI a b d (x, y) = r := ⟨_, rfl⟩
        rw [hr] at hz
        have HRC : Hid (∀ V, Calls Try.prog 61 #[.agg #[.int .i64 x, .int .i64 y], .agg #[.int .i64 a, .int .i64 b, .int .i64 d]] V fun e w' => e = .returned (.int .i64 r) ∧ Below V.heap.size V w') := Lib.hid fun V => by
          have := refRest_any x y a b d V HLN.out HP.out
          rw [hr] at this
          exact this
        have g5 := Lib.hid ((HB.out.block _ (by omega)).trans g0.out)
        have x0 : wr.cell? ⟨w.heap.size, 0, none⟩ = some (.int .i64 a) := by rw [cell_of_row wr _ 0 _ _ (0, 0) g5.out]; rfl
        have x1 : wr.cell? ⟨w.heap.size, 1, none⟩ = some (.int .i64 b) := by rw [cell_of_row wr _ 1 _ _ (0, 0) g5.out]; rfl
        have x2 : wr.cell? ⟨w.heap.size, 2, none⟩ = some (.int .i64 d) := by rw [cell_of_row wr _ 2 _ _ (0, 0) g5.out]; rfl
        have hbw : bl < wr.heap.size := by omega
        have hww : w.heap.size < wr.heap.size := by omega
        have HA0 : Hid (Below wr.heap.size wr (wr.alloc (.cells #[.int .i64 x, .int .i64 y] 54))) := Lib.hid ((Below.refl _ _).alloc (Nat.le_refl _) _)
        have HZ := Lib.hid hz
        clear hcells hxy hz hr
        by_cases hr0 : r = 0
        · subst hr0
          have HN := Lib.hid (zeroL_yes HZ.out)
          go_wp2_with (first
            | (go_at_call 61; refine (HRC.out _).mono ?_; rintro e w2 ⟨rfl, hB2⟩; have hB3 := below_step HA0.out hB2; have hown2 := own_below HOW.out hB3)
            | (at_builtin; refine wp_app_int _ rfl (.tmp 27) (.tmp 29) rfl w1.heap.size _ m _ _ rfl hown2 rfl (by omega) (by have := hB3.size; omega) ?_; intro v2 w4 hown4 hB4)
            | fail)
          go_roundw
          case rel => exact ⟨k + 1, m + 1, by omega, by go_num, Lib.hid (by rw [HN.out, List.length_append, ← hm.out]; rfl), by omega, Lib.hid (by rw [HN.out]; exact hown4), Lib.hid (HB.out.trans ((hB3.mono hsz).trans hB4))⟩
          case measure => simp [intOf]; omega
        · have t0 : (r == 0) = false := by simpa using hr0
          have HN := Lib.hid (zeroL_no HZ.out hr0)
          go_wp2_with (first
            | (go_at_call 61; refine (HRC.out _).mono ?_; rintro e w2 ⟨rfl, hB2⟩; have hB3 := below_step HA0.out hB2; have hown2 := own_below HOW.out hB3)
            | fail)
          go_roundw
          case rel => exact ⟨k + 1, m, by omega, by go_num, Lib.hid (by rw [HN.out, ← hm.out]), by omega, Lib.hid (by rw [HN.out]; exact hown2), Lib.hid (HB.out.trans (hB3.mono hsz))⟩
          case measure => simp [intOf]; omega
      · obtain rfl : k = ms.length := by omega
        obtain rfl := hm.out
        obtain ⟨A', c', rfl, hI⟩ := own_ints HOW.out
        have HI := Lib.hid hI
        have HF : Hid (Below w.heap.size w wr) := Lib.hid (HW1.out.trans (HB.out.mono (by omega)))
        clear hI
        go_wp2
        go_ret2
        exact ⟨A', c', _, rfl, HI.out, HF.out, Lib.hid (by rw [onV, if_pos HK.out])⟩
  · have t1 : (k == 0) = false := by simpa using h0
    have t2 : (k != 0) = true := by simpa using h0
    have HN : Hid ([] = onV ms a b d) := Lib.hid (by rw [onV, if_neg (by rw [HK.out]; exact h0)])
    go_enter Try.func29, Try.ntmps29
    go_wp2_with (go_at_call 60; refine HCK.out.mono ?_; rintro e w1 ⟨rfl, hB1⟩)
    go_ret2
    exact ⟨none, 0, [], rfl, Out.nil_, below_step HB0.out hB1, HN⟩
end Go.Proofs.Ytoilbgngefleiaa
