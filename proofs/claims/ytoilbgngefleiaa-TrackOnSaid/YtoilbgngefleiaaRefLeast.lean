/-
  Contract: Least (firnref05).
-/
import Derived.Test.YtoilbgngefleiaaLeastM
import Derived.Test.YtoilbgngefleiaaRefThr
import Derived.Deep.CutRange
namespace Go.Proofs.Ytoilbgngefleiaa
open Go.RowKit Go.Shelf
set_option linter.unusedVariables false
set_option linter.unusedSimpArgs false

theorem minF_snoc (f : Ln → Ln → Int) {ls : List Ln} (h : 0 < ls.length) (x : Ln) : minF f (ls ++ [x]) = if f x (minF f ls) < 0 then x else minF f ls := by
  cases ls with
  | nil => simp at h
  | cons a t => simp [minF]
/-- The best of lists of pairs, as the reference keeps it. -/
def bsV (ms : List (Int × Int)) (L : List ((Int × Int) × (Int × Int))) : Int × Int := if 0 < L.length then cosT ms (minF (cmpT (cosT ms)) (L.map thL)) else (0, 0)
theorem bs_first {ms : List (Int × Int)} {L : List ((Int × Int) × (Int × Int))} (x : (Int × Int) × (Int × Int)) (h : ¬ 0 < L.length) : bsV ms (L ++ [x]) = cosT ms (thL x) := by
  obtain rfl : L = [] := List.eq_nil_of_length_eq_zero (by omega)
  simp [bsV, minF]
theorem bs_more {ms : List (Int × Int)} {L : List ((Int × Int) × (Int × Int))} (x : (Int × Int) × (Int × Int)) (h : 0 < L.length) :
    bsV ms (L ++ [x]) = if (cosT ms (thL x)).1 * (bsV ms L).2 < (bsV ms L).1 * (cosT ms (thL x)).2 then cosT ms (thL x) else bsV ms L := by
  have h1 : 0 < (L ++ [x]).length := by simp
  rw [bsV, if_pos h1, List.map_append, List.map_cons, List.map_nil, minF_snoc _ (by rw [List.length_map]; exact h), bsV, if_pos h]
  by_cases hc : cmpT (cosT ms) (thL x) (minF (cmpT (cosT ms)) (L.map thL)) < 0
  · rw [if_pos hc, if_pos (cmpT_neg.1 hc)]
  · rw [if_neg hc, if_neg (fun h => hc (cmpT_neg.2 h))]
theorem bs_all {ms : List (Int × Int)} (hv : viP ms = true) : bsV ms (pairsL ms ms.length) = cosT ms (cheL ms) := by
  rw [bsV, if_pos (pairs_some hv)]; rfl
def lpre (ms : List (Int × Int)) (k : Nat) (b : Int × Int) (m : Nat) : List ((Int × Int) × (Int × Int)) := pairsL ms k ++ pairK b ((ms.take k).take m)
theorem lpre_zero (ms : List (Int × Int)) (k : Nat) (b : Int × Int) : lpre ms k b 0 = pairsL ms k := by simp [lpre, pairK]
theorem lpre_full {ms : List (Int × Int)} {k : Nat} {b : Int × Int} (h : ms[k]? = some b) : lpre ms k b k = pairsL ms (k + 1) := by
  rw [pairsL_succ h, lpre, List.take_take, Nat.min_self]
theorem lpre_no {ms : List (Int × Int)} {k m : Nat} {a b : Int × Int} (hm : m < k) (h : ms[m]? = some a) (he : a.1 = b.1) : lpre ms k b (m + 1) = lpre ms k b m := by
  rw [lpre, pairK_no (by rw [List.getElem?_take_of_lt hm]; exact h) he, lpre]
theorem lpre_yes {ms : List (Int × Int)} {k m : Nat} {a b : Int × Int} (hm : m < k) (h : ms[m]? = some a) (he : a.1 ≠ b.1) : lpre ms k b (m + 1) = lpre ms k b m ++ [(a, b)] := by
  rw [lpre, pairK_yes (by rw [List.getElem?_take_of_lt hm]; exact h) he, lpre, List.append_assoc]
def PrL (ms : List (Int × Int)) (L : List ((Int × Int) × (Int × Int))) : Prop := ∀ x ∈ L, x.1 ∈ ms ∧ x.2 ∈ ms ∧ x.1.1 ≠ x.2.1
theorem th_small {ms : List (Int × Int)} (hv : viP ms = true) {x : (Int × Int) × (Int × Int)} (hx : x.1 ∈ ms ∧ x.2 ∈ ms ∧ x.1.1 ≠ x.2.1) : (0 ≤ (cosT ms (thL x)).1 ∧ (cosT ms (thL x)).1 ≤ 9600000) ∧ (1 ≤ (cosT ms (thL x)).2 ∧ (cosT ms (thL x)).2 ≤ 200) := by
  obtain ⟨_, hpt, _⟩ := vi_parts hv
  obtain ⟨ha, hd, hb⟩ := th_bd (hpt _ hx.1) (hpt _ hx.2.1) hx.2.2
  have hc := small_cost hv ha hb hd
  have h1 := lowD_bd (n := costI ms (thA x.1 x.2) (thB x.1 x.2) (thD x.1 x.2)) (d := thD x.1 x.2) (by omega)
  have h2 := lowN_abs (n := costI ms (thA x.1 x.2) (thB x.1 x.2) (thD x.1 x.2)) (d := thD x.1 x.2) (M := 9600000) (by omega) (by omega) hc.2
  have h3 : 0 ≤ lowN (costI ms (thA x.1 x.2) (thB x.1 x.2) (thD x.1 x.2)) (thD x.1 x.2) := Int.ediv_nonneg hc.1 (Int.natCast_nonneg _)
  exact ⟨⟨h3, h2.2⟩, h1.1, Int.le_trans h1.2 hd.2⟩
theorem bs_small {ms : List (Int × Int)} (hv : viP ms = true) {L : List ((Int × Int) × (Int × Int))} (hL : PrL ms L) : (0 ≤ (bsV ms L).1 ∧ (bsV ms L).1 ≤ 9600000) ∧ (0 ≤ (bsV ms L).2 ∧ (bsV ms L).2 ≤ 200) := by
  unfold bsV
  split
  · rename_i h
    obtain ⟨x, hx, e⟩ := List.mem_map.1 (minF_mem (cmpT (cosT ms)) (ls := L.map thL) (by rw [List.length_map]; exact h))
    rw [← e]
    have := th_small hv (hL x hx)
    exact ⟨this.1, by omega, this.2.2⟩
  · exact ⟨⟨by omega, by omega⟩, by omega, by omega⟩
theorem prL_pre {ms : List (Int × Int)} {k i : Nat} {b : Int × Int} (h : ms[k]? = some b) : PrL ms (pairsL ms k ++ pairK b ((ms.take k).take i)) := fun x hx => by
  obtain ⟨R, hR⟩ := pairs_pre (i := i) h
  exact pairs_mem (by rw [hR, ← List.append_assoc]; exact List.mem_append_left _ hx)

set_option maxRecDepth 100000 in
set_option maxHeartbeats 1000000 in
theorem refLeast_no (ms : List (Int × Int)) (A : Option Addr) (c : Nat) (w : World) (h : Clk w A c ms) (hv : viP ms = false) :
    Calls Try.prog 32 #[.slice A ms.length c] w fun e w' => e = .returned (.tuple #[.agg #[.int .i64 0, .int .i64 0], .int .i64 50]) ∧ Below w.heap.size w w' := by
  have H := Lib.hid h
  have HV := Lib.hid hv
  clear h hv
  obtain ⟨W0, hW0, HW, HG⟩ : ∃ W0, W0 = w.alloc (.cells #[.int .i64 0, .int .i64 0] 34) ∧ Hid (Below w.heap.size w W0) ∧ Hid (Rt W0 w.heap.size (.int .i64 0) (.int .i64 0)) :=
    ⟨_, rfl, Lib.hid ((Below.refl _ _).alloc (Nat.le_refl _) _), Lib.hid (Rt.new _ _ _)⟩
  go_enter Try.func32, Try.ntmps32
  go_upto_region 1 with (fail)
  rw [← hW0]
  clear hW0
  go_wp2_with (first
    | (go_at_call 20; refine (refValid_any ms A c _ (H.out.below HW.out).marks H.out.len).mono ?_; rintro e w1 ⟨rfl, hB1⟩; rw [HV.out]; have HG := Lib.hid (HG.out.below hB1); have g0 := HG.out.c0; have g1 := HG.out.c1; have f0 := HG.out.f 0; have f1 := HG.out.f 1; have HW : Hid (Below w.heap.size w _) := Lib.hid (below_step HW.out hB1); clear hB1)
    | fail)
  exact bodyPost_ret (v := .tuple #[.agg #[.int .i64 0, .int .i64 0], .int .i64 50]) (by simp [results, Try.results32, go_sem, g0, g1]) rfl ⟨rfl, by
    repeat (first | with_reducible exact HW.out | refine Below.setCell ?_ (Nat.le_refl w.heap.size) _)⟩

set_option maxRecDepth 100000 in
set_option maxHeartbeats 8000000 in
theorem refLeast_yes (ms : List (Int × Int)) (A : Option Addr) (c : Nat) (w : World) (h : Clk w A c ms) (hv : viP ms = true) :
    Calls Try.prog 32 #[.slice A ms.length c] w fun e w' => e = .returned (.tuple #[.agg #[.int .i64 (cosT ms (cheL ms)).1, .int .i64 (cosT ms (cheL ms)).2], .int .i64 0]) ∧ Below w.heap.size w w' := by
  obtain ⟨⟨fn, fd⟩, hfv⟩ : ∃ z, cosT ms (cheL ms) = z := ⟨_, rfl⟩
  have HFV := Lib.hid hfv
  rw [hfv]
  clear hfv
  obtain ⟨⟨hn1, hn2⟩, hpt, _⟩ := vi_parts hv
  have H := Lib.hid h
  have HV := Lib.hid hv
  have HPT := Lib.hid hpt
  have HALL : Hid (ms.all ptB = true) := Lib.hid (List.all_eq_true.2 hpt)
  have HCAP := Lib.hid h.le
  have hcapl : ms.length ≤ c := h.le
  have hcm : c ≤ 9223372036854775807 := by have := h.cap; unfold maxLen at this; exact this
  clear h hv hpt
  obtain ⟨W0, hW0, HW, HG⟩ : ∃ W0, W0 = w.alloc (.cells #[.int .i64 0, .int .i64 0] 34) ∧ Hid (Below w.heap.size w W0) ∧ Hid (Rt W0 w.heap.size (.int .i64 0) (.int .i64 0)) :=
    ⟨_, rfl, Lib.hid ((Below.refl _ _).alloc (Nat.le_refl _) _), Lib.hid (Rt.new _ _ _)⟩
  go_enter Try.func32, Try.ntmps32
  go_upto_region 1 with (fail)
  rw [← hW0]
  clear hW0
  go_upto_region 3 with (go_at_call 20; refine (refValid_any ms A c _ (H.out.below HW.out).marks H.out.len).mono ?_; rintro e w1 ⟨rfl, hB1⟩; rw [HV.out]; have HG := Lib.hid (HG.out.below hB1); have HW : Hid (Below w.heap.size w _) := Lib.hid (below_step HW.out hB1); clear hB1)
  have hlt1 : w.heap.size < w1.heap.size := HG.out.lt
  go_upto_region 4 with (fail)
  obtain ⟨W2, hW2, HW, HG, HK⟩ : ∃ W2, w1.alloc (.cells #[.int .i64 0, .int .i64 0] 34) = W2 ∧ Hid (Below w.heap.size w W2) ∧ Hid (Rt W2 w.heap.size (.int .i64 0) (.int .i64 0)) ∧ Hid (Rt W2 w1.heap.size (.int .i64 0) (.int .i64 0)) :=
    ⟨_, rfl, Lib.hid (HW.out.alloc HW.out.size _), Lib.hid (HG.out.alloc _), Lib.hid (Rt.new _ _ _)⟩
  rw [hW2]
  clear hW2
  obtain ⟨gb, hgb⟩ : ∃ g, w1.heap.size = g := ⟨_, rfl⟩
  have hgb1 : w.heap.size < gb := by rw [← hgb]; exact hlt1
  rw [hgb] at HK ⊢
  clear hgb
  go_wp2
  go_loopw [5, 20] (fun s i wr => ∃ k : Nat, k ≤ ms.length ∧ i = .int .i64 k ∧ s = .bool (decide (0 < (pairsL ms k).length)) ∧ Hid (Rt wr w.heap.size (.int .i64 0) (.int .i64 0)) ∧ Hid (Rt wr gb (.int .i64 (bsV ms (pairsL ms k)).1) (.int .i64 (bsV ms (pairsL ms k)).2)) ∧ Hid (Below w.heap.size w wr)) (fun _ i _ => ms.length - (intOf i).toNat)
  case atStart => exact ⟨0, Nat.zero_le _, rfl, rfl, HG, HK, HW⟩
  case round =>
    clear HG HK HW
    obtain ⟨k, hk, rfl, rfl, HG, HK, HW⟩ := hrel
    by_cases hlt : k < ms.length
    · obtain ⟨bl, off, rfl, hbl, hcells⟩ := H.out.marks.open_ (show 0 < ms.length by omega)
      have HCELLS := Lib.hid hcells
      obtain ⟨x, y, hxy⟩ := getM_of_lt hlt
      have HXY := Lib.hid hxy
      have c0 := (HW.out.cell (p := ⟨bl, off + k * 2, none⟩) hbl).trans (by simpa using (hcells k _ hxy).1)
      have c1 := (HW.out.cell (p := ⟨bl, off + k * 2 + 1, none⟩) hbl).trans (by simpa using (hcells k _ hxy).2)
      have hkc : k ≤ c := by omega
      clear hcells hxy
      obtain ⟨fl, hfl⟩ : ∃ b, decide (0 < (pairsL ms k).length) = b := ⟨_, rfl⟩
      have HFL := Lib.hid hfl
      rw [hfl]
      clear hfl
      rename World => wo
      go_upto_region 8 with (fail)
      have HGO := HG
      have HKO := HK
      obtain ⟨W3, hW3, HW, HG, HK, HP⟩ : ∃ W3, wo.alloc (.cells #[.int .i64 x, .int .i64 y] 54) = W3 ∧ Hid (Below w.heap.size w W3) ∧ Hid (Rt W3 w.heap.size (.int .i64 0) (.int .i64 0)) ∧ Hid (Rt W3 gb (.int .i64 (bsV ms (pairsL ms k)).1) (.int .i64 (bsV ms (pairsL ms k)).2)) ∧ Hid (Pt W3 wo.heap.size (.int .i64 x) (.int .i64 y)) :=
        ⟨_, rfl, Lib.hid (HW.out.alloc HW.out.size _), Lib.hid (HG.out.alloc _), Lib.hid (HK.out.alloc _), Lib.hid (Pt.new _ _ _)⟩
      rw [hW3]
      clear hW3 c0 c1
      have hgp1 : w.heap.size < wo.heap.size := HGO.out.lt
      have hgp2 : gb < wo.heap.size := HKO.out.lt
      obtain ⟨gp, hgp⟩ : ∃ g, wo.heap.size = g := ⟨_, rfl⟩
      rw [hgp] at HP hgp1 hgp2 ⊢
      clear hgp
      have HK3 : Hid (Rt W3 gb (.int .i64 (bsV ms (lpre ms k (x, y) 0)).1) (.int .i64 (bsV ms (lpre ms k (x, y) 0)).2)) := Lib.hid (by rw [lpre_zero]; exact HK.out)
      have HFL3 : Hid (Value.bool fl = .bool (decide (0 < (lpre ms k (x, y) 0).length))) := Lib.hid (by rw [lpre_zero, HFL.out])
      go_wp2
      go_loopw [5, 29] (fun s i wr => ∃ m : Nat, m ≤ k ∧ i = .int .i64 m ∧ s = .bool (decide (0 < (lpre ms k (x, y) m).length)) ∧ Hid (Rt wr w.heap.size (.int .i64 0) (.int .i64 0)) ∧ Hid (Rt wr gb (.int .i64 (bsV ms (lpre ms k (x, y) m)).1) (.int .i64 (bsV ms (lpre ms k (x, y) m)).2)) ∧ Hid (Pt wr gp (.int .i64 x) (.int .i64 y)) ∧ Hid (Below w.heap.size w wr)) (fun _ i _ => k - (intOf i).toNat)
      case atStart => exact ⟨0, Nat.zero_le _, rfl, HFL3.out, HG, HK3, HP, HW⟩
      case round =>
        clear HG HK HK3 HFL3 HP HW
        obtain ⟨m, hm, rfl, rfl, HG, HK, HP, HW⟩ := hrel
        obtain ⟨fb, hfb⟩ : ∃ b, decide (0 < (lpre ms k (x, y) m).length) = b := ⟨_, rfl⟩
        have HFB := Lib.hid hfb
        rw [hfb]
        clear hfb
        rename World => wi
        by_cases hlt2 : m < k
        · have hml : m < ms.length := by omega
          obtain ⟨u, v, huv⟩ := getM_of_lt hml
          have HUV := Lib.hid huv
          have c0 := (HW.out.cell (p := ⟨bl, off + m * 2, none⟩) hbl).trans (by simpa using (HCELLS.out m _ huv).1)
          have c1 := (HW.out.cell (p := ⟨bl, off + m * 2 + 1, none⟩) hbl).trans (by simpa using (HCELLS.out m _ huv).2)
          have hsm := bs_small HV.out (show PrL ms (lpre ms k (x, y) m) from prL_pre HXY.out)
          obtain ⟨⟨bn, bd⟩, hbnd⟩ : ∃ z, bsV ms (lpre ms k (x, y) m) = z := ⟨_, rfl⟩
          have HBND := Lib.hid hbnd
          rw [hbnd] at HK hsm
          dsimp only at HK hsm
          clear huv hbnd
          have g0 := HG.out.c0
          have g1 := HG.out.c1
          have k0 := HK.out.c0
          have k1 := HK.out.c1
          have p0 := HP.out.c0
          have p1 := HP.out.c1
          go_upto_region 11 with (fail)
          have qggq : w.heap.size < wi.heap.size := HG.out.lt
          have qkgq : gb < wi.heap.size := HK.out.lt
          have qpgq : gp < wi.heap.size := HP.out.lt
          have qHWgq : w.heap.size ≤ wi.heap.size := HW.out.size
          obtain ⟨X1, hX1, HW, HB, HG, HK, HP⟩ : ∃ X, (wi.alloc (.cells #[.int .i64 u, .int .i64 v] 54)) = X ∧ Hid (Below w.heap.size w X) ∧ Hid (Pt X wi.heap.size (.int .i64 u) (.int .i64 v)) ∧ Hid (Rt X w.heap.size (.int .i64 0) (.int .i64 0)) ∧ Hid (Rt X gb (.int .i64 bn) (.int .i64 bd)) ∧ Hid (Pt X gp (.int .i64 x) (.int .i64 y)) :=
            ⟨_, rfl, Lib.hid (Below.alloc HW.out HW.out.size _), Lib.hid (Pt.new _ _ _), Lib.hid (HG.out.alloc _), Lib.hid (HK.out.alloc _), Lib.hid (HP.out.alloc _)⟩
          rw [hX1]
          clear hX1
          obtain ⟨gq, hgq⟩ : ∃ g, wi.heap.size = g := ⟨_, rfl⟩
          rw [hgq] at HB qggq qkgq qpgq qHWgq
          try rw [hgq]
          clear hgq
          have g0 := HG.out.c0
          have g1 := HG.out.c1
          have k0 := HK.out.c0
          have k1 := HK.out.c1
          have p0 := HP.out.c0
          have p1 := HP.out.c1
          have o0 := HB.out.c0
          have o1 := HB.out.c1
          clear c0 c1
          by_cases hxu : x = u
          · have t1 : (x == u) = true := by simpa using hxu
            have HN := Lib.hid (lpre_no (b := (x, y)) hlt2 HUV.out hxu.symm)
            clear hxu
            go_wp2
            go_roundw
            case rel => exact ⟨m + 1, by omega, by go_num, by rw [HN.out, HFB.out], HG, by rw [HN.out, HBND.out]; exact HK, HP, HW⟩
            case measure => simp [intOf]; omega
          · have t1 : (x == u) = false := by simpa using hxu
            have hpt1 := HPT.out _ (List.mem_of_getElem? HXY.out)
            have hpt2 := HPT.out _ (List.mem_of_getElem? HUV.out)
            have HN := Lib.hid (lpre_yes (b := (x, y)) hlt2 HUV.out (show (u, v).1 ≠ (x, y).1 from fun e => hxu e.symm))
            have hthb := th_bd hpt1 hpt2 (show (x, y).1 ≠ (u, v).1 from hxu)
            have hcsm := small_cost HV.out hthb.1 hthb.2.2 hthb.2.1
            have hts := th_small HV.out (x := ((u, v), (x, y))) ⟨List.mem_of_getElem? HUV.out, List.mem_of_getElem? HXY.out, fun e => hxu e.symm⟩
            have hsym := th_sym (p := (x, y)) (q := (u, v)) hxu
            obtain ⟨a1, ha1⟩ : ∃ z, thA (x, y) (u, v) = z := ⟨_, rfl⟩
            obtain ⟨b1, hb1⟩ : ∃ z, thB (x, y) (u, v) = z := ⟨_, rfl⟩
            obtain ⟨d1, hd1⟩ : ∃ z, thD (x, y) (u, v) = z := ⟨_, rfl⟩
            have HTH : Hid (∀ V : World, Calls Try.prog 71 #[.agg #[.int .i64 x, .int .i64 y], .agg #[.int .i64 u, .int .i64 v]] V fun e w' => e = .returned (.agg #[.int .i64 a1, .int .i64 b1, .int .i64 d1]) ∧ Below V.heap.size V w') := Lib.hid (fun V => by
              have := refThrough_any x y u v V hpt1 hpt2 hxu
              rw [ha1, hb1, hd1] at this
              exact this)
            have HLN : Hid (LnB a1 b1 d1) := Lib.hid (by rw [← ha1, ← hb1, ← hd1]; exact th_ln hpt1 hpt2 hxu)
            have hTL : thL ((u, v), (x, y)) = (a1, b1, d1) := by rw [← hsym, thL, ← ha1, ← hb1, ← hd1]
            rw [ha1, hb1, hd1] at hcsm
            rw [ha1, hb1, hd1] at hthb
            rw [hTL] at hts
            have hcost : cosT ms (a1, b1, d1) = (lowN (costI ms a1 b1 d1) d1, lowD (costI ms a1 b1 d1) d1) := rfl
            rw [hcost] at hts
            dsimp only at hts
            obtain ⟨s, hs⟩ : ∃ z, costI ms a1 b1 d1 = z := ⟨_, rfl⟩
            obtain ⟨rn, hrn⟩ : ∃ z, lowN s d1 = z := ⟨_, rfl⟩
            obtain ⟨rd, hrd⟩ : ∃ z, lowD s d1 = z := ⟨_, rfl⟩
            rw [hs] at hts hcsm hcost
            rw [hrn, hrd] at hts hcost
            have HCO : Hid (cosT ms (thL ((u, v), (x, y))) = (rn, rd)) := Lib.hid (by rw [hTL, hcost])
            have HSU : Hid (∀ V : World, Below w.heap.size w V → Calls Try.prog 67 #[.slice (some ⟨bl, off, none⟩) ms.length c, .agg #[.int .i64 a1, .int .i64 b1, .int .i64 d1]] V fun e w' => e = .returned (.tuple #[.int .i64 s, .int .i64 (widI ms a1 b1 d1)]) ∧ Below V.heap.size V w') := Lib.hid (fun V hV => by
              have := refSums_any ms (some ⟨bl, off, none⟩) c a1 b1 d1 V (H.out.below hV).marks (by omega) HLN.out HALL.out
              rw [hs] at this
              exact this)
            have HRA : Hid (∀ V : World, Calls Try.prog 55 #[.int .i64 s, .int .i64 d1] V fun e w' => e = .returned (.agg #[.int .i64 rn, .int .i64 rd]) ∧ Below V.heap.size V w') := Lib.hid (fun V => by
              have := refRatio_any s d1 V (by omega) (by omega) (by omega) (by omega)
              rw [hrn, hrd] at this
              exact this)
            have bx1 := mulBox (X := 9600000) (Y := 200) (show -9600000 ≤ rn by omega) hts.1.2 (show -200 ≤ bd by omega) hsm.2.2
            have bx2 := mulBox (X := 9600000) (Y := 200) (show -9600000 ≤ bn by omega) hsm.1.2 (show -200 ≤ rd by omega) hts.2.2
            obtain ⟨lb, hlb⟩ : ∃ b, decide (rn * bd < bn * rd) = b := ⟨_, rfl⟩
            have HLB := Lib.hid hlb
            have HLE : Hid (∀ V : World, Calls Try.prog 53 #[.agg #[.int .i64 rn, .int .i64 rd], .agg #[.int .i64 bn, .int .i64 bd]] V fun e w' => e = .returned (.bool lb) ∧ Below V.heap.size V w') := Lib.hid (fun V => by
              have := refLess_any rn rd bn bd V (by omega) (by omega)
              rw [hlb] at this
              exact this)
            have hd1p : 1 ≤ d1 := hthb.2.1.1
            clear hpt1 hpt2 hthb hcsm hts hsym ha1 hb1 hd1 hTL hcost hs hrn hrd bx1 bx2 hlb hxu hsm
            go_upto_region 13 with (go_at_call 71; with_reducible refine (HTH.out _).mono ?_; rintro e v1 ⟨rfl, hB1⟩; have HG := Lib.hid (Rt.below HG.out hB1); have g0 := HG.out.c0; have g1 := HG.out.c1; have HK := Lib.hid (Rt.below HK.out hB1); have k0 := HK.out.c0; have k1 := HK.out.c1; have HP := Lib.hid (Pt.below HP.out hB1); have p0 := HP.out.c0; have p1 := HP.out.c1; have HB := Lib.hid (Pt.below HB.out hB1); have o0 := HB.out.c0; have o1 := HB.out.c1; have HW : Hid (Below w.heap.size w _) := Lib.hid (below_step HW.out hB1); clear hB1)
            have qggl : w.heap.size < v1.heap.size := HG.out.lt
            have qkgl : gb < v1.heap.size := HK.out.lt
            have qpgl : gp < v1.heap.size := HP.out.lt
            have qogl : gq < v1.heap.size := HB.out.lt
            have qHWgl : w.heap.size ≤ v1.heap.size := HW.out.size
            obtain ⟨X2, hX2, HW, HL, HG, HK, HP, HB⟩ : ∃ X, (v1.alloc (.cells #[.int .i64 a1, .int .i64 b1, .int .i64 d1] 24)) = X ∧ Hid (Below w.heap.size w X) ∧ Hid (Lt X v1.heap.size (.int .i64 a1) (.int .i64 b1) (.int .i64 d1)) ∧ Hid (Rt X w.heap.size (.int .i64 0) (.int .i64 0)) ∧ Hid (Rt X gb (.int .i64 bn) (.int .i64 bd)) ∧ Hid (Pt X gp (.int .i64 x) (.int .i64 y)) ∧ Hid (Pt X gq (.int .i64 u) (.int .i64 v)) :=
              ⟨_, rfl, Lib.hid (Below.alloc HW.out HW.out.size _), Lib.hid (Lt.new _ _ _ _), Lib.hid (HG.out.alloc _), Lib.hid (HK.out.alloc _), Lib.hid (HP.out.alloc _), Lib.hid (HB.out.alloc _)⟩
            rw [hX2]
            clear hX2
            obtain ⟨gl, hgl⟩ : ∃ g, v1.heap.size = g := ⟨_, rfl⟩
            rw [hgl] at HL qggl qkgl qpgl qogl qHWgl
            try rw [hgl]
            clear hgl
            have g0 := HG.out.c0
            have g1 := HG.out.c1
            have k0 := HK.out.c0
            have k1 := HK.out.c1
            have p0 := HP.out.c0
            have p1 := HP.out.c1
            have o0 := HB.out.c0
            have o1 := HB.out.c1
            have l0 := HL.out.c0
            have l1 := HL.out.c1
            have l2 := HL.out.c2
            go_upto_region 14 with (go_at_call 67; with_reducible refine (HSU.out _ HW.out).mono ?_; rintro e v2 ⟨rfl, hB2⟩; have HG := Lib.hid (Rt.below HG.out hB2); have g0 := HG.out.c0; have g1 := HG.out.c1; have HK := Lib.hid (Rt.below HK.out hB2); have k0 := HK.out.c0; have k1 := HK.out.c1; have HP := Lib.hid (Pt.below HP.out hB2); have p0 := HP.out.c0; have p1 := HP.out.c1; have HB := Lib.hid (Pt.below HB.out hB2); have o0 := HB.out.c0; have o1 := HB.out.c1; have HL := Lib.hid (Lt.below HL.out hB2); have l0 := HL.out.c0; have l1 := HL.out.c1; have l2 := HL.out.c2; have HW : Hid (Below w.heap.size w _) := Lib.hid (below_step HW.out hB2); clear hB2)
            go_upto_region 15 with (go_at_call 55; with_reducible refine (HRA.out _).mono ?_; rintro e v3 ⟨rfl, hB3⟩; have HG := Lib.hid (Rt.below HG.out hB3); have g0 := HG.out.c0; have g1 := HG.out.c1; have HK := Lib.hid (Rt.below HK.out hB3); have k0 := HK.out.c0; have k1 := HK.out.c1; have HP := Lib.hid (Pt.below HP.out hB3); have p0 := HP.out.c0; have p1 := HP.out.c1; have HB := Lib.hid (Pt.below HB.out hB3); have o0 := HB.out.c0; have o1 := HB.out.c1; have HL := Lib.hid (Lt.below HL.out hB3); have l0 := HL.out.c0; have l1 := HL.out.c1; have l2 := HL.out.c2; have HW : Hid (Below w.heap.size w _) := Lib.hid (below_step HW.out hB3); clear hB3)
            have qggr : w.heap.size < v3.heap.size := HG.out.lt
            have qkgr : gb < v3.heap.size := HK.out.lt
            have qpgr : gp < v3.heap.size := HP.out.lt
            have qogr : gq < v3.heap.size := HB.out.lt
            have qlgr : gl < v3.heap.size := HL.out.lt
            have qHWgr : w.heap.size ≤ v3.heap.size := HW.out.size
            obtain ⟨X3, hX3, HW, HR, HG, HK, HP, HB, HL⟩ : ∃ X, (v3.alloc (.cells #[.int .i64 rn, .int .i64 rd] 34)) = X ∧ Hid (Below w.heap.size w X) ∧ Hid (Rt X v3.heap.size (.int .i64 rn) (.int .i64 rd)) ∧ Hid (Rt X w.heap.size (.int .i64 0) (.int .i64 0)) ∧ Hid (Rt X gb (.int .i64 bn) (.int .i64 bd)) ∧ Hid (Pt X gp (.int .i64 x) (.int .i64 y)) ∧ Hid (Pt X gq (.int .i64 u) (.int .i64 v)) ∧ Hid (Lt X gl (.int .i64 a1) (.int .i64 b1) (.int .i64 d1)) :=
              ⟨_, rfl, Lib.hid (Below.alloc HW.out HW.out.size _), Lib.hid (Rt.new _ _ _), Lib.hid (HG.out.alloc _), Lib.hid (HK.out.alloc _), Lib.hid (HP.out.alloc _), Lib.hid (HB.out.alloc _), Lib.hid (HL.out.alloc _)⟩
            rw [hX3]
            clear hX3
            obtain ⟨gr, hgr⟩ : ∃ g, v3.heap.size = g := ⟨_, rfl⟩
            rw [hgr] at HR qggr qkgr qpgr qogr qlgr qHWgr
            try rw [hgr]
            clear hgr
            have g0 := HG.out.c0
            have g1 := HG.out.c1
            have k0 := HK.out.c0
            have k1 := HK.out.c1
            have p0 := HP.out.c0
            have p1 := HP.out.c1
            have o0 := HB.out.c0
            have o1 := HB.out.c1
            have l0 := HL.out.c0
            have l1 := HL.out.c1
            have l2 := HL.out.c2
            have r0 := HR.out.c0
            have r1 := HR.out.c1
            cases fb with
            | false =>
              have HN0 : Hid (¬ 0 < (lpre ms k (x, y) m).length) := Lib.hid (of_decide_eq_false HFB.out)
              go_upto_region 16 with (fail)
              have g0 := HG.out.c0
              have g1 := HG.out.c1
              have k0 := HK.out.c0
              have k1 := HK.out.c1
              have kf0 := HK.out.f 0
              have kf1 := HK.out.f 1
              have p0 := HP.out.c0
              have p1 := HP.out.c1
              have o0 := HB.out.c0
              have o1 := HB.out.c1
              have l0 := HL.out.c0
              have l1 := HL.out.c1
              have l2 := HL.out.c2
              have r0 := HR.out.c0
              have r1 := HR.out.c1
              go_upto_region 17 with (fail)
              obtain ⟨X4, hX4, HW, HG, HK, HP, HB, HL, HR⟩ : ∃ X, ((X3.setCell ⟨gb, 0, none⟩ (.int .i64 rn)).setCell ⟨gb, 1, none⟩ (.int .i64 rd)) = X ∧ Hid (Below w.heap.size w X) ∧ Hid (Rt X w.heap.size (.int .i64 0) (.int .i64 0)) ∧ Hid (Rt X gb (.int .i64 rn) (.int .i64 rd)) ∧ Hid (Pt X gp (.int .i64 x) (.int .i64 y)) ∧ Hid (Pt X gq (.int .i64 u) (.int .i64 v)) ∧ Hid (Lt X gl (.int .i64 a1) (.int .i64 b1) (.int .i64 d1)) ∧ Hid (Rt X gr (.int .i64 rn) (.int .i64 rd)) :=
                ⟨_, rfl, Lib.hid (st2_below HW.out (by omega)), Lib.hid (HG.out.other2 (by omega)), Lib.hid (HK.out.set), Lib.hid (HP.out.other2 (by omega)), Lib.hid (HB.out.other2 (by omega)), Lib.hid (HL.out.other2 (by omega)), Lib.hid (HR.out.other2 (by omega))⟩
              rw [hX4]
              clear hX4
              have g0 := HG.out.c0
              have g1 := HG.out.c1
              have k0 := HK.out.c0
              have k1 := HK.out.c1
              have kf0 := HK.out.f 0
              have kf1 := HK.out.f 1
              have p0 := HP.out.c0
              have p1 := HP.out.c1
              have o0 := HB.out.c0
              have o1 := HB.out.c1
              have l0 := HL.out.c0
              have l1 := HL.out.c1
              have l2 := HL.out.c2
              have r0 := HR.out.c0
              have r1 := HR.out.c1
              go_wp2
              go_roundw
              case rel => exact ⟨m + 1, by omega, by go_num, by rw [HN.out]; simp, HG, by rw [HN.out, bs_first _ HN0.out, HCO.out]; exact HK, HP, HW⟩
              case measure => simp [intOf]; omega
            | true =>
              have HN0 : Hid (0 < (lpre ms k (x, y) m).length) := Lib.hid (of_decide_eq_true HFB.out)
              cases lb with
              | true =>
                go_upto_region 16 with (go_at_call 53; with_reducible refine (HLE.out _).mono ?_; rintro e v4 ⟨rfl, hB4⟩; have HG := Lib.hid (Rt.below HG.out hB4); have g0 := HG.out.c0; have g1 := HG.out.c1; have HK := Lib.hid (Rt.below HK.out hB4); have k0 := HK.out.c0; have k1 := HK.out.c1; have HP := Lib.hid (Pt.below HP.out hB4); have p0 := HP.out.c0; have p1 := HP.out.c1; have HB := Lib.hid (Pt.below HB.out hB4); have o0 := HB.out.c0; have o1 := HB.out.c1; have HL := Lib.hid (Lt.below HL.out hB4); have l0 := HL.out.c0; have l1 := HL.out.c1; have l2 := HL.out.c2; have HR := Lib.hid (Rt.below HR.out hB4); have r0 := HR.out.c0; have r1 := HR.out.c1; have HW : Hid (Below w.heap.size w _) := Lib.hid (below_step HW.out hB4); clear hB4)
                have g0 := HG.out.c0
                have g1 := HG.out.c1
                have k0 := HK.out.c0
                have k1 := HK.out.c1
                have kf0 := HK.out.f 0
                have kf1 := HK.out.f 1
                have p0 := HP.out.c0
                have p1 := HP.out.c1
                have o0 := HB.out.c0
                have o1 := HB.out.c1
                have l0 := HL.out.c0
                have l1 := HL.out.c1
                have l2 := HL.out.c2
                have r0 := HR.out.c0
                have r1 := HR.out.c1
                go_upto_region 17 with (fail)
                obtain ⟨X4, hX4, HW, HG, HK, HP, HB, HL, HR⟩ : ∃ X, ((v4.setCell ⟨gb, 0, none⟩ (.int .i64 rn)).setCell ⟨gb, 1, none⟩ (.int .i64 rd)) = X ∧ Hid (Below w.heap.size w X) ∧ Hid (Rt X w.heap.size (.int .i64 0) (.int .i64 0)) ∧ Hid (Rt X gb (.int .i64 rn) (.int .i64 rd)) ∧ Hid (Pt X gp (.int .i64 x) (.int .i64 y)) ∧ Hid (Pt X gq (.int .i64 u) (.int .i64 v)) ∧ Hid (Lt X gl (.int .i64 a1) (.int .i64 b1) (.int .i64 d1)) ∧ Hid (Rt X gr (.int .i64 rn) (.int .i64 rd)) :=
                  ⟨_, rfl, Lib.hid (st2_below HW.out (by omega)), Lib.hid (HG.out.other2 (by omega)), Lib.hid (HK.out.set), Lib.hid (HP.out.other2 (by omega)), Lib.hid (HB.out.other2 (by omega)), Lib.hid (HL.out.other2 (by omega)), Lib.hid (HR.out.other2 (by omega))⟩
                rw [hX4]
                clear hX4
                have g0 := HG.out.c0
                have g1 := HG.out.c1
                have k0 := HK.out.c0
                have k1 := HK.out.c1
                have kf0 := HK.out.f 0
                have kf1 := HK.out.f 1
                have p0 := HP.out.c0
                have p1 := HP.out.c1
                have o0 := HB.out.c0
                have o1 := HB.out.c1
                have l0 := HL.out.c0
                have l1 := HL.out.c1
                have l2 := HL.out.c2
                have r0 := HR.out.c0
                have r1 := HR.out.c1
                go_wp2
                go_roundw
                case rel => exact ⟨m + 1, by omega, by go_num, by rw [HN.out]; simp, HG, by rw [HN.out, bs_more _ HN0.out, HCO.out, HBND.out, if_pos (of_decide_eq_true HLB.out)]; exact HK, HP, HW⟩
                case measure => simp [intOf]; omega
              | false =>
                go_upto_region 17 with (go_at_call 53; with_reducible refine (HLE.out _).mono ?_; rintro e v4 ⟨rfl, hB4⟩; have HG := Lib.hid (Rt.below HG.out hB4); have g0 := HG.out.c0; have g1 := HG.out.c1; have HK := Lib.hid (Rt.below HK.out hB4); have k0 := HK.out.c0; have k1 := HK.out.c1; have HP := Lib.hid (Pt.below HP.out hB4); have p0 := HP.out.c0; have p1 := HP.out.c1; have HB := Lib.hid (Pt.below HB.out hB4); have o0 := HB.out.c0; have o1 := HB.out.c1; have HL := Lib.hid (Lt.below HL.out hB4); have l0 := HL.out.c0; have l1 := HL.out.c1; have l2 := HL.out.c2; have HR := Lib.hid (Rt.below HR.out hB4); have r0 := HR.out.c0; have r1 := HR.out.c1; have HW : Hid (Below w.heap.size w _) := Lib.hid (below_step HW.out hB4); clear hB4)
                go_wp2
                go_roundw
                case rel => exact ⟨m + 1, by omega, by go_num, by rw [HN.out]; simp, HG, by rw [HN.out, bs_more _ HN0.out, HCO.out, HBND.out, if_neg (of_decide_eq_false HLB.out)]; exact HK, HP, HW⟩
                case measure => simp [intOf]; omega
        · obtain rfl : m = k := by omega
          have HN := Lib.hid (lpre_full HXY.out)
          go_wp2
          go_roundw
          case rel => exact ⟨m + 1, by omega, by go_num, by rw [← HN.out, HFB.out], HG, by rw [← HN.out]; exact HK, HW⟩
          case measure => simp [intOf]; omega
    · obtain rfl : k = ms.length := by omega
      have HKF : Hid (Rt wr gb (.int .i64 fn) (.int .i64 fd)) := Lib.hid (by have := HK.out; rw [bs_all HV.out, HFV.out] at this; exact this)
      have k0 := HKF.out.c0
      have k1 := HKF.out.c1
      have g0 := HG.out.c0
      have g1 := HG.out.c1
      have gf0 := HG.out.f 0
      have gf1 := HG.out.f 1
      go_wp2
      exact bodyPost_ret (v := .tuple #[.agg #[.int .i64 fn, .int .i64 fd], .int .i64 0]) (by simp [results, Try.results32, go_sem, g0, g1]) rfl ⟨rfl, by
        repeat (first | with_reducible exact HW.out | refine Below.setCell ?_ (Nat.le_refl w.heap.size) _)⟩
end Go.Proofs.Ytoilbgngefleiaa
