/-
  Contract: Rests (firnref05).
-/
import Derived.Test.YtoilbgngefleiaaRefV
import Derived.Test.YtoilbgngefleiaaRestsT
import Derived.Deep.RegionHeld3
namespace Go.Proofs.Ytoilbgngefleiaa
open Go Go.RowKit Go.Shelf

section
variable {ops : Array Oper} {o : Oper} {a : Act} {K : Act → World → Prop} {Q : Exit → Act → World → Prop} {E : Prop}
theorem step_app0 {P : Program} (w : World) (hgd : o.guard = none) (s x : Operand) (t : TypeId)
    (ho : o.op = .call { callee := .builtin .append, args := #[s, x], argTypes := #[t, t] })
    (base : Nat) (e : TypeId) (i : TypeInfo) (zero : Value) (size bytes : Nat) (ht : P.underlying t = some (.slice e)) (hi : P.info? e = some i) (hz : i.zero = some zero)
    (hsize : i.size = size) (hby : i.bytes = bytes) (hzs : zero.cells.size = size) (hsz : 0 < size) (hb64 : bytes ≤ 64)
    (v : Value) (n : Nat) (xs : List Value) (cs : List Value) (hs : a.eval s = v) (hown : w.ownsRow base e size v n xs)
    (hx : a.eval x = .slice (some ⟨w.heap.size, 0, none⟩) 1 1) (hl : cs.length = size) (h1 : ∀ u ∈ cs, u.oneCell' = true)
    (hn : n ≤ 1000000) (hbase : base ≤ w.heap.size)
    (h : ∀ v' w', w'.ownsRow base e size v' (n + 1) (xs ++ cs) → Below base w w' → (∀ g, g < w.heap.size → v.ownBlock ≠ some g → w'.heap[g]? = w.heap[g]?) → K (a.put o.dst v') w') :
    if Region.wanted o (yielded ops a.tmps) = true then Oper.wp P o a (w.alloc (.cells cs.toArray e)) K Q else E := by
  have hw : Region.wanted o (yielded ops a.tmps) = true := by simp [Region.wanted, hgd]
  rw [if_pos hw]
  refine wp_append_own _ s x t ho base e i zero size bytes ht hi hz hsize hby hzs hsz v n xs hs (hown.alloc _) ⟨w.heap.size, 0, none⟩ 1 1 cs hx (by omega)
    (cells_new w cs e) h1 (by unfold maxLen; omega) ?_ (by simp; omega) ?_
  · have : (n + 1) * bytes ≤ (n + 1) * 64 := Nat.mul_le_mul_left _ hb64
    omega
  · intro v' w' ho' hg _
    refine h v' w' ho' (((Below.refl base w).alloc hbase _).grown hg (by simp; omega) ?_) ?_
    · intro k hk
      exact (hown.lt k hk).1
    · intro g hg1 hg2
      exact (hg.block g (by simp; omega) (fun e => hg2 e.symm)).trans (Below.heap_alloc w _ g hg1)
theorem step_app_ratio (w : World) (hgd : o.guard = none) (s x : Operand)
    (ho : o.op = .call { callee := .builtin .append, args := #[s, x], argTypes := #[27, 27] })
    (base : Nat) (v : Value) (n : Nat) (xs : List (Int × Int)) (y z : Int) (hs : a.eval s = v) (hown : w.ownsRow base 34 2 v n (xs.flatMap mk2))
    (hx : a.eval x = .slice (some ⟨w.heap.size, 0, none⟩) 1 1) (hn : n ≤ 1000000) (hbase : base ≤ w.heap.size)
    (h : ∀ v' w', w'.ownsRow base 34 2 v' (n + 1) ((xs ++ [(y, z)]).flatMap mk2) → Below base w w' → (∀ g, g < w.heap.size → v.ownBlock ≠ some g → w'.heap[g]? = w.heap[g]?) → K (a.put o.dst v') w') :
    if Region.wanted o (yielded ops a.tmps) = true then Oper.wp Try.prog o a (w.alloc (.cells #[.int .i64 y, .int .i64 z] 34)) K Q else E := by
  obtain ⟨i0, hi0, hz0, hz1, hz2⟩ := info_parts ratio_info
  refine step_app0 w hgd s x 27 ho base 34 i0 (.agg #[.int .i64 0, .int .i64 0]) 2 16 Try.underlying27 hi0 hz0 hz1 hz2 rfl (by decide) (by decide) v n _ [.int .i64 y, .int .i64 z] hs hown hx rfl ?_ hn hbase ?_
  · intro t ht; simp at ht; rcases ht with rfl | rfl <;> rfl
  · intro v' w' h1 h2 h3
    exact h v' w' (by rw [List.flatMap_append]; exact h1) h2 h3
end

set_option maxRecDepth 100000 in
set_option maxHeartbeats 1000000 in
theorem refRests_any (ms : List (Int × Int)) (A : Option Addr) (c : Nat) (a b d : Int) (w : World) (h : Clk w A c ms) :
    Calls Try.prog 18 #[.slice A ms.length c, .agg #[.int .i64 a, .int .i64 b, .int .i64 d]] w fun e w' => ∃ (A' : Option Addr) (c' : Nat) (ys : List (Int × Int)), e = .returned (.tuple #[.slice A' ys.length c', .int .i64 (ckE ms a b d)]) ∧ Clk w' A' c' ys ∧ Below w.heap.size w w' ∧ Hid (ys = rstV ms a b d) := by
  obtain ⟨k, hk⟩ : ∃ k, ckE ms a b d = k := ⟨_, rfl⟩
  obtain ⟨W0, hW0⟩ : ∃ W0, w.alloc (.cells #[.int .i64 a, .int .i64 b, .int .i64 d] 24) = W0 := ⟨_, rfl⟩
  have hB0 : Below w.heap.size w W0 := by rw [← hW0]; exact (Below.refl _ _).alloc (Nat.le_refl _) _
  have hz : W0.heap.size = w.heap.size + 1 := by rw [← hW0]; simp
  have g0 : W0.heap[w.heap.size]? = some (.cells #[.int .i64 a, .int .i64 b, .int .i64 d] 24 (0, 0)) := by rw [← hW0]; exact heap_alloc_new _ _
  have y0 : W0.cell? ⟨w.heap.size, 0, none⟩ = some (.int .i64 a) := by rw [cell_of_row W0 _ 0 _ _ (0, 0) g0]; rfl
  have y1 : W0.cell? ⟨w.heap.size, 1, none⟩ = some (.int .i64 b) := by rw [cell_of_row W0 _ 1 _ _ (0, 0) g0]; rfl
  have y2 : W0.cell? ⟨w.heap.size, 2, none⟩ = some (.int .i64 d) := by rw [cell_of_row W0 _ 2 _ _ (0, 0) g0]; rfl
  have HH := Lib.hid (h.below hB0)
  have HB0 := Lib.hid hB0
  have HG0 := Lib.hid g0
  have HCK : Hid (Calls Try.prog 60 #[.slice A ms.length c, .agg #[.int .i64 a, .int .i64 b, .int .i64 d]] W0 fun e w' => e = .returned (.int .i64 k) ∧ Below W0.heap.size W0 w') := Lib.hid (by
    have q := asked_any ms A c a b d W0 (h.below hB0).marks h.len
    rw [hk] at q
    exact q)
  have HK := Lib.hid hk
  clear h hB0 g0
  rw [hk]
  clear hk
  by_cases h0 : k = 0
  · subst h0
    have HV := Lib.hid (ck_zero HK.out)
    have hn := (vi_parts HV.out.1).1.2
    have HALL : Hid (ms.all ptB = true) := Lib.hid (List.all_eq_true.2 (vi_parts HV.out.1).2.1)
    go_enter Try.func18, Try.ntmps18
    go_wp2_with (first
      | (go_at_call 60; refine HCK.out.mono ?_; rintro e w1 ⟨rfl, hB1⟩; have g0 := Lib.hid ((hB1.block _ (by omega)).trans HG0.out); have x0 : w1.cell? ⟨w.heap.size, 0, none⟩ = some (.int .i64 a) := (by rw [cell_of_row w1 _ 0 _ _ (0, 0) g0.out]; rfl); have x1 : w1.cell? ⟨w.heap.size, 1, none⟩ = some (.int .i64 b) := (by rw [cell_of_row w1 _ 1 _ _ (0, 0) g0.out]; rfl); have x2 : w1.cell? ⟨w.heap.size, 2, none⟩ = some (.int .i64 d) := (by rw [cell_of_row w1 _ 2 _ _ (0, 0) g0.out]; rfl))
      | fail)
    have HW1 := Lib.hid (below_step HB0.out hB1)
    have hs1 : w.heap.size + 1 ≤ w1.heap.size := by have := hB1.size; omega
    have HH1 := Lib.hid (HH.out.below hB1)
    have HAL : Hid (∀ q ∈ ms, ptB q = true) := Lib.hid (vi_parts HV.out.1).2.1
    have HLN := Lib.hid (ln_of HV.out.2)
    have hdd : 1 ≤ d ∧ d ≤ 100000 := (ln_of HV.out.2).2.2
    clear x0 x1 x2 y0 y1 y2 hB1
    go_loopw [7, 18] (fun v i wr => ∃ k : Nat, k ≤ ms.length ∧ i = .int .i64 k ∧ Hid (wr.ownsRow w1.heap.size 34 2 v k (((ms.take k).map (rstR a b d)).flatMap mk2)) ∧ Hid (Below w1.heap.size w1 wr)) (fun _ i _ => ms.length - (intOf i).toNat)
    case atStart => exact ⟨0, Nat.zero_le _, rfl, World.ownsRow_nil _ _ _ _, Lib.hid (Below.refl _ _)⟩
    case round =>
      obtain ⟨k, hk, rfl, HOW, HB⟩ := hrel
      have hsz := HB.out.size
      by_cases hlt : k < ms.length
      · obtain ⟨bl, off, rfl, hbk, hcells⟩ := HH1.out.marks.open_ (show 0 < ms.length by omega)
        obtain ⟨x, y, hxy⟩ := getM_of_lt hlt
        have HP : Hid (ptB (x, y) = true) := Lib.hid (HAL.out _ (List.mem_of_getElem? hxy))
        have c0 := (HB.out.cell (p := ⟨bl, off + k * 2, none⟩) hbk).trans (by simpa using (hcells k _ hxy).1)
        have c1 := (HB.out.cell (p := ⟨bl, off + k * 2 + 1, none⟩) hbk).trans (by simpa using (hcells k _ hxy).2)
        obtain ⟨r, hr⟩ : ∃ r, rsI a b d (x, y) = r := ⟨_, rfl⟩
        have hrb := (rs_box HLN.out HP.out).2.2
        change -1200000000 ≤ rsI a b d (x, y) ∧ rsI a b d (x, y) ≤ 1200000000 at hrb
        rw [hr] at hrb
        have HRC : Hid (∀ V, Calls Try.prog 61 #[.agg #[.int .i64 x, .int .i64 y], .agg #[.int .i64 a, .int .i64 b, .int .i64 d]] V fun e w' => e = .returned (.int .i64 r) ∧ Below V.heap.size V w') := Lib.hid fun V => by
          have := refRest_any x y a b d V HLN.out HP.out
          rw [hr] at this
          exact this
        obtain ⟨p, hp⟩ : ∃ p, lowN r d = p := ⟨_, rfl⟩
        obtain ⟨q, hq⟩ : ∃ q, lowD r d = q := ⟨_, rfl⟩
        have HRT : Hid (∀ V, Calls Try.prog 55 #[.int .i64 r, .int .i64 d] V fun e w' => e = .returned (.agg #[.int .i64 p, .int .i64 q]) ∧ Below V.heap.size V w') := Lib.hid fun V => by
          have := refRatio_any r d V (by omega) (by omega) (by omega) (by omega)
          rw [hp, hq] at this
          exact this
        have HN : Hid ((ms.take (k + 1)).map (rstR a b d) = (ms.take k).map (rstR a b d) ++ [(p, q)]) := Lib.hid (by rw [take_snoc hxy, List.map_append, List.map_cons, List.map_nil, rstR, hr, hp, hq])
        have g5 := Lib.hid ((HB.out.block _ (by omega)).trans g0.out)
        have hbw : bl < wr.heap.size := by omega
        have hww : w.heap.size < wr.heap.size := by omega
        have hA0 : Below wr.heap.size wr (wr.alloc (.cells #[.int .i64 x, .int .i64 y] 54)) := (Below.refl _ _).alloc (Nat.le_refl _) _
        obtain ⟨W2, hW2⟩ : ∃ W2, wr.alloc (.cells #[.int .i64 x, .int .i64 y] 54) = W2 := ⟨_, rfl⟩
        have HOA := Lib.hid (own_below HOW.out hA0)
        have d0 : W2.cell? ⟨wr.heap.size, 0, none⟩ = some (.int .i64 x) := by rw [← hW2]; exact cell_of_row _ _ 0 _ _ _ (heap_alloc_new wr _)
        have d1 : W2.cell? ⟨wr.heap.size, 1, none⟩ = some (.int .i64 y) := by rw [← hW2]; exact cell_of_row _ _ 1 _ _ _ (heap_alloc_new wr _)
        have g6 := (hA0.block _ hww).trans g5.out
        have hz2 : W2.heap.size = wr.heap.size + 1 := by rw [← hW2]; simp
        rw [hW2] at g6 HOA hA0
        have x0 : W2.cell? ⟨w.heap.size, 0, none⟩ = some (.int .i64 a) := by rw [cell_of_row W2 _ 0 _ _ (0, 0) g6]; rfl
        have x1 : W2.cell? ⟨w.heap.size, 1, none⟩ = some (.int .i64 b) := by rw [cell_of_row W2 _ 1 _ _ (0, 0) g6]; rfl
        have x2 : W2.cell? ⟨w.heap.size, 2, none⟩ = some (.int .i64 d) := by rw [cell_of_row W2 _ 2 _ _ (0, 0) g6]; rfl
        have HA0 := Lib.hid hA0
        have b1 : wr.heap.size < W2.heap.size := by omega
        have b2 : w.heap.size < W2.heap.size := by omega
        have b3 : w1.heap.size ≤ W2.heap.size := by omega
        have G2 := Lib.hid g6
        have G1 : Hid (W2.heap[wr.heap.size]? = some (.cells #[.int .i64 x, .int .i64 y] 54 (0, 0))) := Lib.hid (by rw [← hW2]; exact heap_alloc_new wr _)
        have B1 := Lib.hid b1
        have B2 := Lib.hid b2
        have N1 : Hid (u7.ownBlock ≠ some wr.heap.size) := Lib.hid (fun e => by have := (HOW.out.lt _ e).2; omega)
        have N2 : Hid (u7.ownBlock ≠ some w.heap.size) := Lib.hid (fun e => by have := (HOW.out.lt _ e).1; omega)
        clear hcells hxy hr hp hq hA0 g6 hz2
        go_wp2
        try rw [hW2]
        clear hW2 c0 c1
        go_region_held3 (fun w' => w'.cell? ⟨wr.heap.size, 0, none⟩ = some (.int .i64 x) ∧ w'.cell? ⟨wr.heap.size, 1, none⟩ = some (.int .i64 y) ∧ w'.cell? ⟨w.heap.size, 0, none⟩ = some (.int .i64 a) ∧ w'.cell? ⟨w.heap.size, 1, none⟩ = some (.int .i64 b) ∧ w'.cell? ⟨w.heap.size, 2, none⟩ = some (.int .i64 d))
          ((first
            | with_reducible exact ⟨d0, d1, x0, x1, x2⟩
            | exact ⟨d0, d1, x0, x1, x2⟩
            | exact ⟨(World.cell?_alloc_lt _ _ _ b1).trans d0, (World.cell?_alloc_lt _ _ _ b1).trans d1, (World.cell?_alloc_lt _ _ _ b2).trans x0, (World.cell?_alloc_lt _ _ _ b2).trans x1, (World.cell?_alloc_lt _ _ _ b2).trans x2⟩
            | exact trivial))
          ((first
            | (go_at_call 61; refine (HRC.out _).mono ?_; rintro e w4 ⟨rfl, hB4⟩; have d0 := (hB4.cell (p := ⟨wr.heap.size, 0, none⟩) b1).trans d0; have d1 := (hB4.cell (p := ⟨wr.heap.size, 1, none⟩) b1).trans d1; have x0 := (hB4.cell (p := ⟨w.heap.size, 0, none⟩) b2).trans x0; have x1 := (hB4.cell (p := ⟨w.heap.size, 1, none⟩) b2).trans x1; have x2 := (hB4.cell (p := ⟨w.heap.size, 2, none⟩) b2).trans x2; have HW4 : Hid (Below W2.heap.size W2 w4) := Lib.hid ((Below.refl W2.heap.size W2).drew.trans hB4); have b1 : wr.heap.size < w4.heap.size := Nat.lt_of_lt_of_le b1 hB4.size; have b2 : w.heap.size < w4.heap.size := Nat.lt_of_lt_of_le b2 hB4.size)
            | (go_at_call 55; refine (HRT.out _).mono ?_; rintro e w5 ⟨rfl, hB5⟩; have d0 := (hB5.cell (p := ⟨wr.heap.size, 0, none⟩) b1).trans d0; have d1 := (hB5.cell (p := ⟨wr.heap.size, 1, none⟩) b1).trans d1; have x0 := (hB5.cell (p := ⟨w.heap.size, 0, none⟩) b2).trans x0; have x1 := (hB5.cell (p := ⟨w.heap.size, 1, none⟩) b2).trans x1; have x2 := (hB5.cell (p := ⟨w.heap.size, 2, none⟩) b2).trans x2; have HW5 : Hid (Below W2.heap.size W2 w5) := Lib.hid (HW4.out.trans (hB5.mono HW4.out.size)); have HO5 := Lib.hid (own_below HOA.out HW5.out); have b1 : wr.heap.size < w5.heap.size := Nat.lt_of_lt_of_le b1 hB5.size; have b2 : w.heap.size < w5.heap.size := Nat.lt_of_lt_of_le b2 hB5.size; have b3 := Nat.le_trans b3 HW5.out.size)
            | (refine step_app_ratio w5 rfl (.tmp 22) (.tmp 29) rfl w1.heap.size _ k ((ms.take k).map (rstR a b d)) p q rfl HO5.out rfl (by omega) b3 ?_; intro v6 w6 hown6 hB6 hk6; have q1 := (hk6 _ b1 N1.out).trans ((HW5.out.block _ B1.out).trans G1.out); have q2 := (hk6 _ b2 N2.out).trans ((HW5.out.block _ B2.out).trans G2.out); have d0 : w6.cell? ⟨wr.heap.size, 0, none⟩ = some (.int .i64 x) := (by rw [cell_of_row w6 _ 0 _ _ (0, 0) q1]; rfl); have d1 : w6.cell? ⟨wr.heap.size, 1, none⟩ = some (.int .i64 y) := (by rw [cell_of_row w6 _ 1 _ _ (0, 0) q1]; rfl); have x0 : w6.cell? ⟨w.heap.size, 0, none⟩ = some (.int .i64 a) := (by rw [cell_of_row w6 _ 0 _ _ (0, 0) q2]; rfl); have x1 : w6.cell? ⟨w.heap.size, 1, none⟩ = some (.int .i64 b) := (by rw [cell_of_row w6 _ 1 _ _ (0, 0) q2]; rfl); have x2 : w6.cell? ⟨w.heap.size, 2, none⟩ = some (.int .i64 d) := (by rw [cell_of_row w6 _ 2 _ _ (0, 0) q2]; rfl))))
        go_wp2
        go_roundw
        case rel => exact ⟨k + 1, by omega, by go_num, Lib.hid (by rw [HN.out]; exact hown6), Lib.hid (HB.out.trans (((HA0.out.trans (HW5.out.mono (by have := HA0.out.size; omega))).mono hsz).trans hB6))⟩
        case measure => simp [intOf]; omega
      · obtain rfl : k = ms.length := by omega
        have hown := HOW.out
        rw [List.take_length] at hown
        obtain ⟨A', c', e6, hC⟩ := own_ratios (by rw [show ms.length = (ms.map (rstR a b d)).length by simp] at hown; exact hown)
        subst e6
        have HC := Lib.hid hC
        have HF : Hid (Below w.heap.size w wr) := Lib.hid (HW1.out.trans (HB.out.mono (by omega)))
        clear hC hown
        go_wp2
        go_ret2
        refine ⟨A', c', ms.map (rstR a b d), ?_, HC.out, HF.out, Lib.hid (by rw [rstV, if_pos HK.out])⟩
        rw [List.length_map]
        rfl
  · have t1 : (k == 0) = false := by simpa using h0
    have t2 : (k != 0) = true := by simpa using h0
    have HN : Hid ([] = rstV ms a b d) := Lib.hid (by rw [rstV, if_neg (by rw [HK.out]; exact h0)])
    go_enter Try.func18, Try.ntmps18
    go_wp2_with (go_at_call 60; refine HCK.out.mono ?_; rintro e w1 ⟨rfl, hB1⟩)
    go_ret2
    exact ⟨none, 0, [], rfl, Clk.nil_, below_step HB0.out hB1, HN⟩
end Go.Proofs.Ytoilbgngefleiaa
