/-
  Contract: proof (track): what it tells are weights that prove the cost of a best line.
-/
import Derived.Test.YtoilbgngefleiaaWei3
import Derived.Test.YtoilbgngefleiaaRestsT
import Derived.Deep.CutRange
namespace Go.Proofs.Ytoilbgngefleiaa
open Go.RowKit Go.Shelf

theorem own_out {w : World} {base g n c : Nat} {xs : List Int} (h : w.ownsRow base 3 1 (.slice (some ⟨g, 0, none⟩) n c) n (xs.map (Value.int .i64))) : Out w (some ⟨g, 0, none⟩) c xs ∧ base ≤ g ∧ g < w.heap.size := by
  obtain ⟨A, c2, e, hO⟩ := own_ints h
  injection e with e1 e2 e3
  subst e1
  subst e3
  exact ⟨hO, h.lt g rfl⟩
theorem own_drew3 {w : World} {base : Nat} {e : TypeId} {size n : Nat} {v : Value} {xs : List Value} (h : w.ownsRow base e size v n xs) : w.drew.ownsRow base e size v n xs := h
theorem ch_len (ms : List (Int × Int)) (fs : List Int) : (chL ms fs).length = fs.length := by simp [chL]
theorem on_pos {ms : List (Int × Int)} {a b d : Int} (h2 : ∃ p ∈ ms, rsI a b d p = 0) : 0 < (zeroL (ms.map (rsI a b d)) ms.length).length := by
  obtain ⟨p, hp, h0⟩ := h2
  obtain ⟨j, hj, e⟩ := List.getElem_of_mem hp
  refine List.length_pos_of_mem (a := (j : Int)) ?_
  unfold zeroL
  refine List.mem_map.2 ⟨j, List.mem_filter.2 ⟨List.mem_range.2 hj, ?_⟩, rfl⟩
  rw [rs_at ms a b d hj, List.getD_eq_getElem?_getD, List.getElem?_eq_getElem hj]
  simpa [e] using h0
def wpL (fs : List Int) (s r l : Int) : List (Int × Int) := (List.range fs.length).map fun j => (fs.getD j 0, lnA fs.length s j * r + lnA fs.length s (fs.length - 1 - j) * l)
theorem wp_next (fs : List Int) (s r l : Int) (W : List Int) {k : Nat} (hk : k < fs.length) : stW W ((wpL fs s r l).take (k + 1)) = (stW W ((wpL fs s r l).take k)).set (fs.getD k 0).toNat (lnA fs.length s k * r + lnA fs.length s (fs.length - 1 - k) * l) := by
  have : (wpL fs s r l)[k]? = some (fs.getD k 0, lnA fs.length s k * r + lnA fs.length s (fs.length - 1 - k) * l) := by unfold wpL; rw [List.getElem?_map, List.getElem?_range hk]; rfl
  rw [take_snoc this, stW_snoc]

set_option maxRecDepth 100000 in
set_option maxHeartbeats 16000000 in
theorem proof_any (ms : List (Int × Int)) (A : Option Addr) (cap : Nat) (a b d : Int) (w : World) (h : Clk w A cap ms) (hn1 : 2 ≤ ms.length) (hn : ms.length ≤ 12) (hv : ∀ q ∈ ms, ptB q = true) (hL : LnB a b d) {th : Int × Int → Int × Int → Int × Int × Int} (hb : BestTh ms th a b d)
    (h2 : ∃ p ∈ ms, ∃ q ∈ ms, p.1 ≠ q.1 ∧ rsI a b d p = 0 ∧ rsI a b d q = 0) :
    Calls Try.prog 77 #[.slice A ms.length cap, .agg #[.int .i64 a, .int .i64 b, .int .i64 d]] w fun e w' => ∃ (A' : Option Addr) (c' : Nat) (ws : List Int) (m : Int), e = .returned (.tuple #[.slice A' ws.length c', .int .i64 m]) ∧ Out w' A' c' ws ∧ Below w.heap.size w w' ∧ Hid (Cert ms ws m a b d) := by
  obtain ⟨i0, hi0, hz0, hz1, hz2⟩ := info_parts int_info
  have HI := Lib.hid (And.intro hi0 (And.intro hz0 (And.intro hz1 hz2)))
  clear hi0 hz0 hz1 hz2
  have hX : ∀ q ∈ ms, -100 ≤ q.1 ∧ q.1 ≤ 100 := fun q hq => (pt_parts (hv q hq)).1
  have HX := Lib.hid hX
  have HALL : Hid (ms.all ptB = true) := Lib.hid (List.all_eq_true.2 hv)
  have HBEST := Lib.hid hb
  have HTWO := Lib.hid h2
  have HL := Lib.hid hL
  have HPOS : Hid (0 < (zeroL (ms.map (rsI a b d)) ms.length).length) := Lib.hid (on_pos (by obtain ⟨p, hp, _, _, _, h0, _⟩ := h2; exact ⟨p, hp, h0⟩))
  have hd0 : 1 ≤ d := hL.2.2.1
  have HD0 := Lib.hid hd0
  obtain ⟨sd, hsd⟩ : ∃ sd, sdL ms a b d = sd := ⟨_, rfl⟩
  have HSD := Lib.hid hsd
  have HSL : Hid (sd.length = ms.length) := Lib.hid (by rw [← hsd, sd_len])
  have HSB : Hid (∀ z ∈ sd, -1 ≤ z ∧ z ≤ 1) := Lib.hid (by rw [← hsd]; exact sd_bd)
  obtain ⟨T, hT⟩ : ∃ T, siT ms a b d = T := ⟨_, rfl⟩
  obtain ⟨U, hU⟩ : ∃ U, siU ms a b d = U := ⟨_, rfl⟩
  have HT := Lib.hid hT
  have HU := Lib.hid hU
  have HSUM : Hid (∀ (W : World) (g c : Nat), Marks W A ms → Ints W (some ⟨g, 0, none⟩) sd → Calls Try.prog 76 #[.slice A ms.length cap, .slice (some ⟨g, 0, none⟩) ms.length c] W fun e w' => e = .returned (.tuple #[.int .i64 T, .int .i64 U]) ∧ W = w') := Lib.hid (fun W g c h1 h3 => by
    have := sums_any ms sd A (some ⟨g, 0, none⟩) cap c W h1 h3 (by rw [← hsd, sd_len]; exact Nat.le_refl _) hn hX (fun z hz => by have := HSB.out z hz; omega)
    rw [← hsd, sd_sum, sd_tur, sd_len, hT, hU] at this
    exact this)
  clear hX hv hb h2 hL hd0 hsd hT hU
  obtain ⟨W0, hW0⟩ : ∃ W0, W0 = (w.alloc (.cells #[.slice A ms.length cap] 22)).alloc (.cells #[.int .i64 a, .int .i64 b, .int .i64 d] 24) := ⟨_, rfl⟩
  have hs0 : W0.heap.size = w.heap.size + 2 := by rw [hW0]; simp
  have hBW : Below w.heap.size w W0 := by rw [hW0]; exact ((Below.refl _ _).alloc (Nat.le_refl _) _).alloc (by simp) _
  have HC0 : Hid (∀ W, Below W0.heap.size W0 W → W.cell? ⟨w.heap.size, 0, none⟩ = some (.slice A ms.length cap) ∧ W.cell? ⟨w.heap.size + 1, 0, none⟩ = some (.int .i64 a) ∧ W.cell? ⟨w.heap.size + 1, 1, none⟩ = some (.int .i64 b) ∧ W.cell? ⟨w.heap.size + 1, 2, none⟩ = some (.int .i64 d) ∧ Clk W A cap ms) := Lib.hid (fun W hW => by
    have g0 : W0.heap[w.heap.size]? = some (.cells #[.slice A ms.length cap] 22 (0, 0)) := by rw [hW0]; exact (Below.heap_alloc _ _ _ (by simp)).trans (heap_alloc_new w _)
    have g1 : W0.heap[w.heap.size + 1]? = some (.cells #[.int .i64 a, .int .i64 b, .int .i64 d] 24 (0, 0)) := by rw [hW0]; simpa using heap_alloc_new (w.alloc (.cells #[.slice A ms.length cap] 22)) (.cells #[.int .i64 a, .int .i64 b, .int .i64 d] 24)
    have k0 := (hW.block _ (by omega)).trans g0
    have k1 := (hW.block _ (by omega)).trans g1
    exact ⟨blk_cell k0 0 rfl, blk_cell k1 0 rfl, blk_cell k1 1 rfl, blk_cell k1 2 rfl, (h.below hBW).below hW⟩)
  have HBW := Lib.hid hBW
  obtain ⟨B0, hB0⟩ : ∃ B0, W0.heap.size = B0 := ⟨_, rfl⟩
  have hB02 : w.heap.size + 2 = B0 := by omega
  have HB02 := Lib.hid hB02
  have HB0 := Lib.hid hB0
  clear h hBW hs0 hB02
  rw [hB0] at HC0
  clear hB0
  go_enter Try.func77, Try.ntmps77
  go_upto_region 1 with (fail)
  rw [← hW0]
  clear hW0
  obtain ⟨p0, x0, x1, x2, _⟩ := HC0.out W0 (Below.refl _ _)
  go_upto_region 2 with (at_make; refine wpList_make_full _ rfl _ _ 37 rfl B0 3 i0 (.int .i64 0) 1 Try.underlying37 HI.out.1 HI.out.2.1 HI.out.2.2.1 _ _ _ _ ms.length rfl rfl rfl rfl (by rw [HI.out.2.2.2]; omega) (by unfold maxLen; omega) (by rw [HB0.out]; exact Nat.le_refl _) ?_; intro w1 hown1 hg1)
  rw [HB0.out] at hown1 ⊢
  have hB1 : Below B0 W0 w1 := (Below.refl _ _).grown hg1 (by rw [HB0.out]; exact Nat.le_refl _) (by simp)
  have hS1 : B0 < w1.heap.size := (hown1.lt B0 rfl).2
  rw [made_zero] at hown1
  have HR1 : Hid (w1.ownsRow B0 3 1 (.slice (some ⟨B0, 0, none⟩) ms.length ms.length) ms.length ((fillZ sd 0).map (Value.int .i64))) := Lib.hid (by rw [fillZ_zero, HSL.out]; exact hown1)
  clear hg1 hown1 p0 x0 x1 x2
  obtain ⟨p0, x0, x1, x2, _⟩ := HC0.out w1 hB1
  have HB1 := Lib.hid hB1
  clear hB1
  go_wp2_with (go_at_call 58; refine (rests_own ms A cap a b d _ (HC0.out _ HB1.out).2.2.2.2.marks (by omega) HL.out HALL.out).mono ?_; rintro e w2 ⟨A2, c2, zs, rfl, ho2, hB2, hzs⟩)
  have HZL : Hid (zs.length = ms.length) := Lib.hid (by rw [hzs.out, List.length_map])
  have hzl := HZL.out
  rw [hzl] at ho2 ⊢
  obtain ⟨g2, c3, e3, hg2, hg2l⟩ := own_form ho2 (by omega)
  injection e3 with e3 _ e4
  subst e3
  subst e4
  have HR2 := Lib.hid ho2
  have HW2 : Hid (Below B0 W0 w2) := Lib.hid (HB1.out.trans (hB2.mono (by omega)))
  have HR1 := Lib.hid (own_below HR1.out hB2)
  have HNE : Hid (B0 < g2) := Lib.hid (by omega)
  clear ho2 hB2 hzl p0 x0 x1 x2
  go_loopw [33] (fun i wr => ∃ k : Nat, k ≤ ms.length ∧ i = .int .i64 k ∧ Hid (wr.ownsRow B0 3 1 (.slice (some ⟨B0, 0, none⟩) ms.length ms.length) ms.length ((fillZ sd k).map (Value.int .i64))) ∧ Hid (wr.ownsRow w1.heap.size 3 1 (.slice (some ⟨g2, 0, none⟩) ms.length c2) ms.length (zs.map (Value.int .i64))) ∧ Hid (Below B0 W0 wr)) (fun i _ => ms.length - (intOf i).toNat)
  case atStart => exact ⟨0, Nat.zero_le _, rfl, HR1, HR2, HW2⟩
  case round =>
    clear HR1 HR2 HW2
    obtain ⟨k, hk, rfl, HR1, HR2, HW⟩ := hrel
    by_cases hlt : k < ms.length
    · have c0 := HR2.out.cellAt k (by omega)
      have c1 := HR1.out.cellAt k (by omega)
      obtain ⟨z, hz⟩ : ∃ z, zs.getD k 0 = z := ⟨_, rfl⟩
      obtain ⟨y, hy⟩ : ∃ y, (fillZ sd k).getD k 0 = y := ⟨_, rfl⟩
      rw [List.getElem?_map, get_of_getD (by rw [HZL.out]; exact hlt), Option.map_some, hz] at c0
      rw [List.getElem?_map, get_of_getD (by rw [fillZ_len sd (by rw [HSL.out]; exact hk), HSL.out]; exact hlt), Option.map_some, hy] at c1
      have hf := HR1.out.frozenAt k
      obtain ⟨s, hs⟩ : ∃ s, cmpV z 0 = s := ⟨_, rfl⟩
      have HS := Lib.hid hs
      have HSK : Hid (sd[k]? = some s) := Lib.hid (by
        rw [get_of_getD (by rw [HSL.out]; exact hlt), ← HSD.out, sd_getD ms a b d hlt, ← hs, ← hz, hzs.out, rs_at ms a b d hlt])
      clear hz hy hs
      go_wp2_with (go_at_call 100; refine (cmpInt_any z 0 _).mono ?_; rintro e w' ⟨rfl, rfl⟩; rw [HS.out])
      go_roundw
      case rel => exact ⟨k + 1, by omega, by go_num, Lib.hid (by rw [← fillZ_set HSK.out, List.map_set]; exact (HR1.out.stored k _).1), Lib.hid (own_other HR2.out ⟨B0, k, none⟩ _ (by simp [Value.ownBlock]; have := HNE.out; omega)), Lib.hid (HW.out.setCell (Nat.le_refl _) _)⟩
      case measure => simp [intOf]; omega
    · obtain rfl : k = ms.length := by omega
      have HSO : Hid (Out wr (some ⟨B0, 0, none⟩) ms.length sd) := Lib.hid (own_out (by have := HR1.out; rwa [← HSL.out, fillZ_full, HSL.out] at this)).1
      clear HR1 HR2 hlt hk
      obtain ⟨p0, x0, x1, x2, _⟩ := HC0.out wr HW.out
      obtain ⟨B1, hB1⟩ : ∃ B1, wr.heap.size = B1 := ⟨_, rfl⟩
      have HB1 := Lib.hid hB1
      have hB01 : B0 ≤ B1 := by have := HW.out.size; rw [HB0.out, hB1] at this; exact this
      clear hB1
      go_upto_region 9 with (first
        | (go_at_call 76; refine (HSUM.out _ B0 _ (HC0.out _ HW.out).2.2.2.2.marks HSO.out.ints).mono ?_; rintro e w' ⟨rfl, rfl⟩)
        | (go_at_call 69; refine (on_own ms A cap a b d _ (HC0.out _ HW.out).2.2.2.2.marks (by omega) HL.out HALL.out).mono ?_; rintro e w3 ⟨v3, ys, rfl, ho3, hB3, hys⟩))
      obtain ⟨n, hnl⟩ : ∃ n, ys.length = n := ⟨_, rfl⟩
      rw [hnl] at ho3
      have hn0 : 0 < n := by rw [← hnl, hys.out]; exact HPOS.out
      have hn12 : n ≤ ms.length := by rw [← hnl, hys.out]; exact zeroL_len _ _
      obtain ⟨gf, cf, rfl, hgf, hgfl⟩ := own_form ho3 hn0
      have HR3 := Lib.hid ho3
      have HBE3 := Lib.hid hB3
      have HNL := Lib.hid hnl
      have HW3 : Hid (Below B0 W0 w3) := Lib.hid (HW.out.trans (hB3.mono (by rw [HB1.out]; exact hB01)))
      have HMEM : Hid (∀ z ∈ ys, ∃ j : Nat, z = j ∧ j < ms.length) := Lib.hid (by
        intro z hz
        rw [hys.out] at hz
        obtain ⟨j, e, hj, _⟩ := zero_mem hz
        exact ⟨j, e, hj⟩)
      have HCMP : Hid (CmpAt 102 #[.pointer (some ⟨w.heap.size, 0, none⟩)] (fun z => (ptK ms z).1) ys wr.heap.size wr) := Lib.hid (byX_cmp ms A cap w.heap.size wr (HC0.out _ HW.out).2.2.2.2.marks (by omega) (by have := HB02.out; have := HB1.out; omega) p0 ys HMEM.out)
      have eg : Hid (∀ args w, (callFunc 102 args).run Try.prog w = .ok (.enter 102 args) w) := Lib.hid (enters_of Try.func102 (by kernel_rfl) rfl)
      clear ho3 hB3 hnl p0 x0 x1 x2
      go_upto_region 10 with (go_at_call 101; refine (sortFunc_any 102 #[.pointer (some ⟨w.heap.size, 0, none⟩)] (fun z => (ptK ms z).1) eg.out ys n gf cf wr.heap.size wr _ hn0 (by omega) HNL.out HR3.out HBE3.out HCMP.out).mono ?_; rintro e w4 ⟨rfl, fs, ho4, hB4, hP4⟩)
      have HFL : Hid (fs.length = n) := Lib.hid (hP4.out.1.length_eq.trans HNL.out)
      have HON : Hid (OnL ms a b d fs) := Lib.hid ⟨hP4.out.1.trans (by rw [hys.out]), fun i j hij hj => by
        rcases Nat.lt_or_eq_of_le hij with h | h
        · exact hP4.out.2 i j h (by rw [← HFL.out]; exact hj)
        · rw [h]; exact Int.le_refl _⟩
      have HFM : Hid (∀ z ∈ fs, ∃ j : Nat, z = j ∧ j < ms.length) := Lib.hid (fun z hz => HMEM.out z (hP4.out.1.mem_iff.1 hz))
      have HFO : Hid (Out w4 (some ⟨gf, 0, none⟩) cf fs) := Lib.hid (own_out ho4).1
      have HSO := Lib.hid (HSO.out.below (by rw [← HB1.out] at *; exact hB4))
      have HW4 : Hid (Below B0 W0 w4) := Lib.hid (HW.out.trans (hB4.mono (by rw [HB1.out]; exact hB01)))
      obtain ⟨hTn, hMU, hUL⟩ := best_cert (by have := HD0.out; omega) HBEST.out HON.out HTWO.out
      rw [HFL.out, HT.out] at hTn hMU hUL
      rw [HU.out] at hMU hUL
      obtain ⟨s, hs⟩ : ∃ s, -T = s := ⟨_, rfl⟩
      rw [hs] at hTn hMU hUL
      have hM0 := lean_box HON.out (by rw [HFL.out]; omega) HX.out (f := lnA n s) (fun j => ln_bd _ _ _)
      have hL0 := lean_box HON.out (by rw [HFL.out]; omega) HX.out (f := fun j => lnA n s (n - 1 - j)) (fun j => ln_bd _ _ _)
      rw [HFL.out] at hM0 hL0
      obtain ⟨M, hM⟩ : ∃ M, sm (fun j => lnA n s j * xK ms fs j) (List.range n) = M := ⟨_, rfl⟩
      obtain ⟨L, hLL⟩ : ∃ L, sm (fun j => lnA n s (n - 1 - j) * xK ms fs j) (List.range n) = L := ⟨_, rfl⟩
      rw [hM] at hM0 hMU
      rw [hLL] at hL0 hUL
      have HM := Lib.hid hM
      have HLL := Lib.hid hLL
      have HSS := Lib.hid hs
      have ws : IntKind.i64.wrap (-T) = s := by rw [← hs]; exact IntWalk.i64_in _ (by omega)
      have HCS : Hid (∀ (W : World) (A' : Option Addr) (c' : Nat) (g c : Nat), Clk W A' c' (chL ms fs) → Ints W (some ⟨g, 0, none⟩) (rightL n s) → Calls Try.prog 76 #[.slice A' n c', .slice (some ⟨g, 0, none⟩) n c] W fun e w' => (∃ t, e = .returned (.tuple #[.int .i64 t, .int .i64 M])) ∧ W = w') := Lib.hid (fun W A' c' g c h1 h3 => by
        have := sums_any (chL ms fs) (rightL n s) A' (some ⟨g, 0, none⟩) c' c W h1.marks h3 (by rw [right_len, ch_len, HFL.out]; exact Nat.le_refl _) (by rw [ch_len, HFL.out]; omega) (fun q hq => by
          obtain ⟨z, hz, rfl⟩ := List.mem_map.1 hq
          obtain ⟨j, rfl, hj⟩ := HFM.out z hz
          exact HX.out _ (by unfold ptK; rw [Int.toNat_natCast]; exact getD_mem' _ hj)) (fun z hz => by
          obtain ⟨j, _, rfl⟩ := List.mem_map.1 hz
          have := ln_bd n s j
          omega)
        rw [right_len, ch_len, HFL.out] at this
        have e6 := ch_tur ms fs (lnA n s)
        rw [HFL.out] at e6
        rw [show turL (chL ms fs) (rightL n s) = M from e6.trans HM.out] at this
        exact this.mono fun e w' he => ⟨⟨_, he.1⟩, he.2⟩)
      have HCT : Hid (∀ (W : World) (A' : Option Addr) (c' : Nat) (g c : Nat), Clk W A' c' (chL ms fs) → Ints W (some ⟨g, 0, none⟩) (leftL n s) → Calls Try.prog 76 #[.slice A' n c', .slice (some ⟨g, 0, none⟩) n c] W fun e w' => (∃ t, e = .returned (.tuple #[.int .i64 t, .int .i64 L])) ∧ W = w') := Lib.hid (fun W A' c' g c h1 h3 => by
        have := sums_any (chL ms fs) (leftL n s) A' (some ⟨g, 0, none⟩) c' c W h1.marks h3 (by rw [left_len, ch_len, HFL.out]; exact Nat.le_refl _) (by rw [ch_len, HFL.out]; omega) (fun q hq => by
          obtain ⟨z, hz, rfl⟩ := List.mem_map.1 hq
          obtain ⟨j, rfl, hj⟩ := HFM.out z hz
          exact HX.out _ (by unfold ptK; rw [Int.toNat_natCast]; exact getD_mem' _ hj)) (fun z hz => by
          obtain ⟨j, _, rfl⟩ := List.mem_map.1 hz
          have := ln_bd n s (n - 1 - j)
          omega)
        rw [left_len, ch_len, HFL.out] at this
        have e6 := ch_tur ms fs (fun j => lnA n s (n - 1 - j))
        rw [HFL.out] at e6
        rw [show turL (chL ms fs) (leftL n s) = L from e6.trans HLL.out] at this
        exact this.mono fun e w' he => ⟨⟨_, he.1⟩, he.2⟩)
      have HCH : Hid (∀ W : World, Marks W A ms → Ints W (some ⟨gf, 0, none⟩) fs → Calls Try.prog 106 #[.slice A ms.length cap, .slice (some ⟨gf, 0, none⟩) n cf] W fun e w' => ∃ (A' : Option Addr) (c' : Nat), e = .returned (.slice A' n c') ∧ Clk w' A' c' (chL ms fs) ∧ Below W.heap.size W w') := Lib.hid (fun W h1 h3 => by
        have := chosen_any ms fs A (some ⟨gf, 0, none⟩) cap cf W h1 h3 (by omega) (by rw [HFL.out]; omega) HFM.out
        rw [ch_len, HFL.out] at this
        exact this)
      clear ho4 hB4 hs hM hLL HR3 HBE3 HCMP eg
      go_upto_region 11 with (go_at_call 103; refine (leaning_any n s _ hn0 (by omega) hTn.1 hTn.2).mono ?_; rintro e w5 ⟨c5, rfl, ho5, hB5⟩)
      obtain ⟨gr, hgr⟩ : ∃ g, w4.heap.size = g := ⟨_, rfl⟩
      rw [hgr] at ho5 ⊢
      have HRO : Hid (Out w5 (some ⟨gr, 0, none⟩) c5 (rightL n s)) := Lib.hid (own_out ho5).1
      have HSO := Lib.hid (HSO.out.below hB5)
      have HFO := Lib.hid (HFO.out.below hB5)
      have HW5 : Hid (Below B0 W0 w5) := Lib.hid (HW4.out.trans (hB5.mono (by have := HW4.out.size; rw [HB0.out] at this; exact this)))
      have HCL : Hid (Calls Try.prog 104 #[.slice (some ⟨gr, 0, none⟩) n c5] w5 fun e w' => ∃ g c', e = .returned (.slice (some ⟨g, 0, none⟩) n c') ∧ w'.ownsRow w5.heap.size 3 1 (.slice (some ⟨g, 0, none⟩) n c') n ((rightL n s).map (Value.int .i64)) ∧ Below w5.heap.size w5 w') := Lib.hid (by
        have := clone_own (rightL n s) (some ⟨gr, 0, none⟩) c5 w5 HRO.out.ints (by rw [right_len]; exact hn0) (by rw [right_len]; omega)
        rw [right_len] at this
        exact this)
      clear ho5 hB5 hgr
      go_upto_region 12 with (go_at_call 104; refine HCL.out.mono ?_; rintro e w6 ⟨gl, cl, rfl, ho6, hB6⟩)
      have HR6 := Lib.hid ho6
      have HB6 := Lib.hid hB6
      have hB6s : w5.heap.size ≤ w6.heap.size := hB6.size
      clear ho6 hB6
      go_upto_region 13 with (go_at_call 105; refine (reverse_own (rightL n s) n gl cl w5.heap.size _ hn0 (by omega) (right_len n s) hB6s HR6.out).mono ?_; rintro e w7 ⟨rfl, ls, ho7, hB7, hP7⟩)
      have HLS : Hid (ls = leftL n s) := Lib.hid (ext_getD hP7.out.1 (left_len n s) fun j hj => by rw [hP7.out.2 j hj, rightL, map_getD _ (by omega), leftL, map_getD _ hj])
      rw [HLS.out] at ho7
      have hB57 : Below w5.heap.size w5 w7 := HB6.out.trans hB7
      have HLO : Hid (Out w7 (some ⟨gl, 0, none⟩) cl (leftL n s)) := Lib.hid (own_out ho7).1
      have HSO := Lib.hid (HSO.out.below hB57)
      have HFO := Lib.hid (HFO.out.below hB57)
      have HRO := Lib.hid (HRO.out.below hB57)
      have HW7 : Hid (Below B0 W0 w7) := Lib.hid (HW5.out.trans (hB57.mono (by have := HW5.out.size; rw [HB0.out] at this; exact this)))
      clear ho7 hB7 hB57 HR6 HB6 hB6s HCL
      obtain ⟨p0, x0, x1, x2, _⟩ := HC0.out w7 HW7.out
      go_upto_region 14 with (first
        | (go_at_call 106; refine (HCH.out _ (HC0.out _ HW7.out).2.2.2.2.marks HFO.out.ints).mono ?_; rintro e w8 ⟨A8, c8, rfl, ho8, hB8⟩; have HSO := Lib.hid (HSO.out.below hB8); have HFO := Lib.hid (HFO.out.below hB8); have HRO := Lib.hid (HRO.out.below hB8); have HLO := Lib.hid (HLO.out.below hB8); have HCO := Lib.hid ho8; have HW8 : Hid (Below B0 W0 w8) := Lib.hid (HW7.out.trans (hB8.mono (by have := HW7.out.size; rw [HB0.out] at this; exact this))); clear ho8 hB8)
        | (go_at_call 76; refine (HCS.out _ A8 c8 gr c5 HCO.out HRO.out.ints).mono ?_; rintro e w' ⟨⟨t, rfl⟩, rfl⟩))
      clear p0 x0 x1 x2
      obtain ⟨p0, x0, x1, x2, _⟩ := HC0.out w8 HW8.out
      clear HCO
      go_upto_region 15 with (first
        | (go_at_call 106; refine (HCH.out _ (HC0.out _ HW8.out).2.2.2.2.marks HFO.out.ints).mono ?_; rintro e w9 ⟨A9, c9, rfl, ho9, hB9⟩; have HSO := Lib.hid (HSO.out.below hB9); have HFO := Lib.hid (HFO.out.below hB9); have HRO := Lib.hid (HRO.out.below hB9); have HLO := Lib.hid (HLO.out.below hB9); have HCO := Lib.hid ho9; have HW9 : Hid (Below B0 W0 w9) := Lib.hid (HW8.out.trans (hB9.mono (by have := HW8.out.size; rw [HB0.out] at this; exact this))); clear ho9 hB9)
        | (go_at_call 76; refine (HCT.out _ A9 c9 gl cl HCO.out HLO.out.ints).mono ?_; rintro e w' ⟨⟨t2, rfl⟩, rfl⟩))
      clear p0 x0 x1 x2
      obtain ⟨p0, x0, x1, x2, _⟩ := HC0.out w9 HW9.out
      clear HCO HCS HCT HCH HSUM
      obtain ⟨l, hl⟩ : ∃ l, M + U = l := ⟨_, rfl⟩
      obtain ⟨r0, hr0⟩ : ∃ r, -U - L = r := ⟨_, rfl⟩
      have wl : IntKind.i64.wrap (M + U) = l := by rw [← hl]; exact IntWalk.i64_in _ (by omega)
      have wu : IntKind.i64.wrap (-U) = -U := IntWalk.i64_in _ (by omega)
      have wr0 : IntKind.i64.wrap (-U - L) = r0 := by rw [← hr0]; exact IntWalk.i64_in _ (by omega)
      have wm0 : IntKind.i64.wrap (r0 + l) = r0 + l := IntWalk.i64_in _ (by omega)
      have hrb : 0 ≤ r0 ∧ r0 ≤ 2400 ∧ 0 ≤ l ∧ l ≤ 2400 := by omega
      have HR0 := Lib.hid hr0
      have HL0 := Lib.hid hl
      have HMU := Lib.hid hMU
      have HUL := Lib.hid hUL
      have HTN := Lib.hid hTn
      clear hl hr0 hM0 hL0 hMU hUL hTn ws
      by_cases hz : r0 + l = 0
      · have t1 : (r0 + l == 0) = true := by simpa using hz
        have HRR : Hid ((1 : Int) = if -U - L + (M + U) = 0 then 1 else -U - L) := Lib.hid (by rw [HR0.out, HL0.out, if_pos hz])
        have hrb1 : (0 : Int) ≤ 1 ∧ (1 : Int) ≤ 2400 := by omega
        go_upto_region 18 with (fail)
        clear wm0 t1
        obtain ⟨m, hm⟩ : ∃ m, 1 + l = m := ⟨_, rfl⟩
        have wm : IntKind.i64.wrap (1 + l) = m := by rw [hm]; exact IntWalk.i64_in _ (by omega)
        have hmb : 0 ≤ m ∧ m ≤ 4800 := by omega
        have HMM := Lib.hid hm
        clear hm hz
        go_upto_region 20 with (at_make; refine wpList_make_full _ rfl _ _ 37 rfl w9.heap.size 3 i0 (.int .i64 0) 1 Try.underlying37 HI.out.1 HI.out.2.1 HI.out.2.2.1 _ _ _ _ ms.length rfl rfl rfl rfl (by rw [HI.out.2.2.2]; omega) (by unfold maxLen; omega) (Nat.le_refl _) ?_; intro w10 hown10 hg10)
        have hB10 : Below w9.heap.size w9 w10 := (Below.refl _ _).grown hg10 (Nat.le_refl _) (by simp)
        rw [made_zero] at hown10
        obtain ⟨us, hus⟩ : ∃ us, (ms.map fun q => cmpV (rsI a b d q) 0 * m) = us := ⟨_, rfl⟩
        have HUL0 : Hid (us.length = ms.length) := Lib.hid (by rw [← hus, List.length_map])
        have HUS := Lib.hid hus
        obtain ⟨gw, hgw⟩ : ∃ g, w9.heap.size = g := ⟨_, rfl⟩
        rw [hgw] at hown10 ⊢
        have HGW := Lib.hid hgw
        have HR10 : Hid (w10.ownsRow gw 3 1 (.slice (some ⟨gw, 0, none⟩) ms.length ms.length) ms.length ((fillZ us 0).map (Value.int .i64))) := Lib.hid (by rw [fillZ_zero, HUL0.out]; exact hown10)
        have HB10 : Hid (Below gw w9 w10) := Lib.hid (by rw [← HGW.out]; exact hB10)
        clear hown10 hg10 hB10 hus hgw p0 x0 x1 x2
        go_wp2
        go_loopw [100] (fun i wr => ∃ k : Nat, k ≤ ms.length ∧ i = .int .i64 k ∧ Hid (wr.ownsRow gw 3 1 (.slice (some ⟨gw, 0, none⟩) ms.length ms.length) ms.length ((fillZ us k).map (Value.int .i64))) ∧ Hid (Below gw w9 wr)) (fun i _ => ms.length - (intOf i).toNat)
        case atStart => exact ⟨0, Nat.zero_le _, rfl, HR10, HB10⟩
        case round =>
          clear HR10 HB10
          obtain ⟨k, hk, rfl, HR, HB⟩ := hrel
          by_cases hlt : k < ms.length
          · obtain ⟨ad, z, e1, hbk, hz, hc⟩ := HSO.out.ints.get (show k < sd.length by rw [HSL.out]; exact hlt)
            injection e1 with e1
            subst e1
            have c0 := (HB.out.cell (p := (⟨B0, 0, none⟩ : Addr).add k) (by rw [block_of_add, ← HGW.out]; exact hbk)).trans hc
            rw [add_mk, Nat.zero_add] at c0
            have c1 := HR.out.cellAt k (by omega)
            obtain ⟨y, hy⟩ : ∃ y, (fillZ us k).getD k 0 = y := ⟨_, rfl⟩
            rw [List.getElem?_map, get_of_getD (by rw [fillZ_len us (by rw [HUL0.out]; exact hk), HUL0.out]; exact hlt), Option.map_some, hy] at c1
            have hf := HR.out.frozenAt k
            have zb := HSB.out z (List.mem_of_getElem? hz.out)
            obtain ⟨x, hx⟩ : ∃ x, z * m = x := ⟨_, rfl⟩
            have hxb : -4800 ≤ x ∧ x ≤ 4800 := by
              rw [← hx]
              rcases (show z = -1 ∨ z = 0 ∨ z = 1 by omega) with h | h | h <;> rw [h] <;> omega
            have wx : IntKind.i64.wrap (z * m) = x := by rw [hx]; exact IntWalk.i64_in _ (by omega)
            have HUK : Hid (us[k]? = some x) := Lib.hid (by
              have e2 : z = cmpV (rsI a b d (ms.getD k (0, 0))) 0 := by
                have := hz.out
                rw [get_of_getD (by rw [HSL.out]; exact hlt), ← HSD.out, sd_getD ms a b d hlt] at this
                exact (Option.some.inj this).symm
              rw [← HUS.out, List.getElem?_map, List.getElem?_eq_getElem hlt, Option.map_some, ← hx, e2, List.getD_eq_getElem?_getD, List.getElem?_eq_getElem hlt, Option.getD_some])
            clear hc hx hy zb
            go_wp2
            go_roundw
            case rel => exact ⟨k + 1, by omega, by go_num, Lib.hid (by rw [← fillZ_set HUK.out, List.map_set]; exact (HR.out.stored k _).1), Lib.hid (HB.out.setCell (Nat.le_refl _) _)⟩
            case measure => simp [intOf]; omega
          · obtain rfl : k = ms.length := by omega
            have HRW : Hid (wr.ownsRow gw 3 1 (.slice (some ⟨gw, 0, none⟩) ms.length ms.length) ms.length ((stW us ((wpL fs s 1 l).take 0)).map (Value.int .i64))) := Lib.hid (by have := HR.out; rwa [← HUL0.out, fillZ_full, HUL0.out] at this)
            have HBW2 := Lib.hid HB.out
            clear HR HB hlt hk
            go_wp2
            rename World => wo
            go_loopw [114] (fun i wr => ∃ k : Nat, k ≤ n ∧ i = .int .i64 k ∧ Hid (wr.ownsRow gw 3 1 (.slice (some ⟨gw, 0, none⟩) ms.length ms.length) ms.length ((stW us ((wpL fs s 1 l).take k)).map (Value.int .i64))) ∧ Hid (Below gw w9 wr)) (fun i _ => n - (intOf i).toNat)
            case atStart => exact ⟨0, Nat.zero_le _, rfl, HRW, HBW2⟩
            case round =>
              clear HRW HBW2
              obtain ⟨k, hk, rfl, HR, HB⟩ := hrel
              by_cases hlt : k < n
              · obtain ⟨ad, z, e1, hbk, hz, hc⟩ := HFO.out.ints.get (show k < fs.length by rw [HFL.out]; exact hlt)
                injection e1 with e1
                subst e1
                have c0 := (HB.out.cell (p := (⟨gf, 0, none⟩ : Addr).add k) (by rw [block_of_add, ← HGW.out]; exact hbk)).trans hc
                obtain ⟨ad, zr, e1, hbr, hzr, hcr⟩ := HRO.out.ints.get (show k < (rightL n s).length by rw [right_len]; exact hlt)
                injection e1 with e1
                subst e1
                have c1 := (HB.out.cell (p := (⟨gr, 0, none⟩ : Addr).add k) (by rw [block_of_add, ← HGW.out]; exact hbr)).trans hcr
                obtain ⟨ad, zl, e1, hbl, hzl, hcl⟩ := HLO.out.ints.get (show k < (leftL n s).length by rw [left_len]; exact hlt)
                injection e1 with e1
                subst e1
                have c2 := (HB.out.cell (p := (⟨gl, 0, none⟩ : Addr).add k) (by rw [block_of_add, ← HGW.out]; exact hbl)).trans hcl
                rw [add_mk, Nat.zero_add] at c0 c1 c2
                obtain ⟨j, rfl, hj⟩ := HFM.out z (List.mem_of_getElem? hz.out)
                have c3 := HR.out.cellAt j (by omega)
                obtain ⟨y, hy⟩ : ∃ y, (stW us ((wpL fs s 1 l).take k)).getD j 0 = y := ⟨_, rfl⟩
                rw [List.getElem?_map, get_of_getD (by rw [stW_len, HUL0.out]; exact hj), Option.map_some, hy] at c3
                have hf := HR.out.frozenAt j
                have er : zr = lnA n s k := by
                  have := hzr.out
                  rw [get_of_getD (by rw [right_len]; exact hlt), rightL, map_getD _ hlt] at this
                  exact (Option.some.inj this).symm
                have el : zl = lnA n s (n - 1 - k) := by
                  have := hzl.out
                  rw [get_of_getD (by rw [left_len]; exact hlt), leftL, map_getD _ hlt] at this
                  exact (Option.some.inj this).symm
                have b1 := ln_bd n s k
                have b2 := ln_bd n s (n - 1 - k)
                rw [← er] at b1
                rw [← el] at b2
                have hx1 : zr * 1 = zr := Int.mul_one zr
                obtain ⟨x2, hx2⟩ : ∃ x, zl * l = x := ⟨_, rfl⟩
                have hxb2 : -2400 ≤ x2 ∧ x2 ≤ 2400 := by
                  rw [← hx2]
                  rcases (show zl = -1 ∨ zl = 0 ∨ zl = 1 by omega) with h | h | h <;> rw [h] <;> omega
                have wx2 : IntKind.i64.wrap (zl * l) = x2 := by rw [hx2]; exact IntWalk.i64_in _ (by omega)
                have HNX : Hid (stW us ((wpL fs s 1 l).take (k + 1)) = (stW us ((wpL fs s 1 l).take k)).set j (zr + x2)) := Lib.hid (by
                  have e5 : fs.getD k 0 = (j : Int) := by
                    have := hz.out
                    rw [get_of_getD (by rw [HFL.out]; exact hlt)] at this
                    exact Option.some.inj this
                  rw [wp_next fs s 1 l us (by rw [HFL.out]; exact hlt), e5, Int.toNat_natCast, HFL.out, ← er, ← el, hx1, hx2])
                clear hc hcr hcl hx1 hx2 hy er el b2
                go_wp2
                skip
                go_region
                go_wp2
                go_roundw
                case rel => exact ⟨k + 1, by omega, by go_num, Lib.hid (by rw [HNX.out, List.map_set]; exact own_drew3 (World.ownsRow.stored HR.out j _).1), Lib.hid (Below.drew (Below.setCell (p := ⟨gw, j, none⟩) HB.out (Nat.le_refl _) _))⟩
                case measure => simp [intOf]; omega
              · obtain rfl : k = n := by omega
                have HRF : Hid (wr.ownsRow gw 3 1 (.slice (some ⟨gw, 0, none⟩) ms.length ms.length) ms.length ((stW us (wpL fs s 1 l)).map (Value.int .i64))) := Lib.hid (by
                  have := HR.out
                  rwa [List.take_of_length_le (by unfold wpL; rw [List.length_map, List.length_range, HFL.out]; exact Nat.le_refl _)] at this)
                have HOUT := Lib.hid (own_out HRF.out).1
                have HLEN : Hid ((stW us (wpL fs s 1 l)).length = ms.length) := Lib.hid (by rw [stW_len, HUL0.out])
                have HCERT : Hid (Cert ms (stW us (wpL fs s 1 l)) m a b d) := Lib.hid (by
                  have hfl := HFL.out
                  have := cert_of (T := T) (U := U) (M := M) (L := L) (r := 1) (l := l) (m := m) HON.out hn HX.out HT.out.symm HU.out.symm (by rw [hfl, HSS.out]; exact HM.out.symm) (by rw [hfl, HSS.out]; exact HLL.out.symm) (by rw [hfl, HSS.out]; exact HTN.out) HMU.out HUL.out HL0.out.symm HRR.out HMM.out.symm
                  rw [HSS.out, HUS.out] at this
                  exact this)
                have HFIN : Hid (Below w.heap.size w wr) := Lib.hid (HBW.out.trans ((HW9.out.trans (HB.out.mono (by have := HW9.out.size; rw [HB0.out] at this; rw [← HGW.out]; exact this))).mono (by have := HB02.out; omega)))
                clear HR hlt hk
                go_wp2
                go_ret2
                exact ⟨some ⟨gw, 0, none⟩, ms.length, _, m, by rw [HLEN.out]; rfl, HOUT.out, HFIN.out, HCERT⟩
      · have t1 : (r0 + l == 0) = false := by simpa using hz
        have HRR : Hid (r0 = if -U - L + (M + U) = 0 then 1 else -U - L) := Lib.hid (by rw [HR0.out, HL0.out, if_neg hz])
        have hrb1 : 0 ≤ r0 ∧ r0 ≤ 2400 := by omega
        go_upto_region 18 with (fail)
        clear wm0 t1
        obtain ⟨m, hm⟩ : ∃ m, r0 + l = m := ⟨_, rfl⟩
        have wm : IntKind.i64.wrap (r0 + l) = m := by rw [hm]; exact IntWalk.i64_in _ (by omega)
        have hmb : 0 ≤ m ∧ m ≤ 4800 := by omega
        have HMM := Lib.hid hm
        clear hm hz
        go_upto_region 20 with (at_make; refine wpList_make_full _ rfl _ _ 37 rfl w9.heap.size 3 i0 (.int .i64 0) 1 Try.underlying37 HI.out.1 HI.out.2.1 HI.out.2.2.1 _ _ _ _ ms.length rfl rfl rfl rfl (by rw [HI.out.2.2.2]; omega) (by unfold maxLen; omega) (Nat.le_refl _) ?_; intro w10 hown10 hg10)
        have hB10 : Below w9.heap.size w9 w10 := (Below.refl _ _).grown hg10 (Nat.le_refl _) (by simp)
        rw [made_zero] at hown10
        obtain ⟨us, hus⟩ : ∃ us, (ms.map fun q => cmpV (rsI a b d q) 0 * m) = us := ⟨_, rfl⟩
        have HUL0 : Hid (us.length = ms.length) := Lib.hid (by rw [← hus, List.length_map])
        have HUS := Lib.hid hus
        obtain ⟨gw, hgw⟩ : ∃ g, w9.heap.size = g := ⟨_, rfl⟩
        rw [hgw] at hown10 ⊢
        have HGW := Lib.hid hgw
        have HR10 : Hid (w10.ownsRow gw 3 1 (.slice (some ⟨gw, 0, none⟩) ms.length ms.length) ms.length ((fillZ us 0).map (Value.int .i64))) := Lib.hid (by rw [fillZ_zero, HUL0.out]; exact hown10)
        have HB10 : Hid (Below gw w9 w10) := Lib.hid (by rw [← HGW.out]; exact hB10)
        clear hown10 hg10 hB10 hus hgw p0 x0 x1 x2
        go_wp2
        go_loopw [100] (fun i wr => ∃ k : Nat, k ≤ ms.length ∧ i = .int .i64 k ∧ Hid (wr.ownsRow gw 3 1 (.slice (some ⟨gw, 0, none⟩) ms.length ms.length) ms.length ((fillZ us k).map (Value.int .i64))) ∧ Hid (Below gw w9 wr)) (fun i _ => ms.length - (intOf i).toNat)
        case atStart => exact ⟨0, Nat.zero_le _, rfl, HR10, HB10⟩
        case round =>
          clear HR10 HB10
          obtain ⟨k, hk, rfl, HR, HB⟩ := hrel
          by_cases hlt : k < ms.length
          · obtain ⟨ad, z, e1, hbk, hz, hc⟩ := HSO.out.ints.get (show k < sd.length by rw [HSL.out]; exact hlt)
            injection e1 with e1
            subst e1
            have c0 := (HB.out.cell (p := (⟨B0, 0, none⟩ : Addr).add k) (by rw [block_of_add, ← HGW.out]; exact hbk)).trans hc
            rw [add_mk, Nat.zero_add] at c0
            have c1 := HR.out.cellAt k (by omega)
            obtain ⟨y, hy⟩ : ∃ y, (fillZ us k).getD k 0 = y := ⟨_, rfl⟩
            rw [List.getElem?_map, get_of_getD (by rw [fillZ_len us (by rw [HUL0.out]; exact hk), HUL0.out]; exact hlt), Option.map_some, hy] at c1
            have hf := HR.out.frozenAt k
            have zb := HSB.out z (List.mem_of_getElem? hz.out)
            obtain ⟨x, hx⟩ : ∃ x, z * m = x := ⟨_, rfl⟩
            have hxb : -4800 ≤ x ∧ x ≤ 4800 := by
              rw [← hx]
              rcases (show z = -1 ∨ z = 0 ∨ z = 1 by omega) with h | h | h <;> rw [h] <;> omega
            have wx : IntKind.i64.wrap (z * m) = x := by rw [hx]; exact IntWalk.i64_in _ (by omega)
            have HUK : Hid (us[k]? = some x) := Lib.hid (by
              have e2 : z = cmpV (rsI a b d (ms.getD k (0, 0))) 0 := by
                have := hz.out
                rw [get_of_getD (by rw [HSL.out]; exact hlt), ← HSD.out, sd_getD ms a b d hlt] at this
                exact (Option.some.inj this).symm
              rw [← HUS.out, List.getElem?_map, List.getElem?_eq_getElem hlt, Option.map_some, ← hx, e2, List.getD_eq_getElem?_getD, List.getElem?_eq_getElem hlt, Option.getD_some])
            clear hc hx hy zb
            go_wp2
            go_roundw
            case rel => exact ⟨k + 1, by omega, by go_num, Lib.hid (by rw [← fillZ_set HUK.out, List.map_set]; exact (HR.out.stored k _).1), Lib.hid (HB.out.setCell (Nat.le_refl _) _)⟩
            case measure => simp [intOf]; omega
          · obtain rfl : k = ms.length := by omega
            have HRW : Hid (wr.ownsRow gw 3 1 (.slice (some ⟨gw, 0, none⟩) ms.length ms.length) ms.length ((stW us ((wpL fs s r0 l).take 0)).map (Value.int .i64))) := Lib.hid (by have := HR.out; rwa [← HUL0.out, fillZ_full, HUL0.out] at this)
            have HBW2 := Lib.hid HB.out
            clear HR HB hlt hk
            go_wp2
            rename World => wo
            go_loopw [114] (fun i wr => ∃ k : Nat, k ≤ n ∧ i = .int .i64 k ∧ Hid (wr.ownsRow gw 3 1 (.slice (some ⟨gw, 0, none⟩) ms.length ms.length) ms.length ((stW us ((wpL fs s r0 l).take k)).map (Value.int .i64))) ∧ Hid (Below gw w9 wr)) (fun i _ => n - (intOf i).toNat)
            case atStart => exact ⟨0, Nat.zero_le _, rfl, HRW, HBW2⟩
            case round =>
              clear HRW HBW2
              obtain ⟨k, hk, rfl, HR, HB⟩ := hrel
              by_cases hlt : k < n
              · obtain ⟨ad, z, e1, hbk, hz, hc⟩ := HFO.out.ints.get (show k < fs.length by rw [HFL.out]; exact hlt)
                injection e1 with e1
                subst e1
                have c0 := (HB.out.cell (p := (⟨gf, 0, none⟩ : Addr).add k) (by rw [block_of_add, ← HGW.out]; exact hbk)).trans hc
                obtain ⟨ad, zr, e1, hbr, hzr, hcr⟩ := HRO.out.ints.get (show k < (rightL n s).length by rw [right_len]; exact hlt)
                injection e1 with e1
                subst e1
                have c1 := (HB.out.cell (p := (⟨gr, 0, none⟩ : Addr).add k) (by rw [block_of_add, ← HGW.out]; exact hbr)).trans hcr
                obtain ⟨ad, zl, e1, hbl, hzl, hcl⟩ := HLO.out.ints.get (show k < (leftL n s).length by rw [left_len]; exact hlt)
                injection e1 with e1
                subst e1
                have c2 := (HB.out.cell (p := (⟨gl, 0, none⟩ : Addr).add k) (by rw [block_of_add, ← HGW.out]; exact hbl)).trans hcl
                rw [add_mk, Nat.zero_add] at c0 c1 c2
                obtain ⟨j, rfl, hj⟩ := HFM.out z (List.mem_of_getElem? hz.out)
                have c3 := HR.out.cellAt j (by omega)
                obtain ⟨y, hy⟩ : ∃ y, (stW us ((wpL fs s r0 l).take k)).getD j 0 = y := ⟨_, rfl⟩
                rw [List.getElem?_map, get_of_getD (by rw [stW_len, HUL0.out]; exact hj), Option.map_some, hy] at c3
                have hf := HR.out.frozenAt j
                have er : zr = lnA n s k := by
                  have := hzr.out
                  rw [get_of_getD (by rw [right_len]; exact hlt), rightL, map_getD _ hlt] at this
                  exact (Option.some.inj this).symm
                have el : zl = lnA n s (n - 1 - k) := by
                  have := hzl.out
                  rw [get_of_getD (by rw [left_len]; exact hlt), leftL, map_getD _ hlt] at this
                  exact (Option.some.inj this).symm
                have b1 := ln_bd n s k
                have b2 := ln_bd n s (n - 1 - k)
                rw [← er] at b1
                rw [← el] at b2
                obtain ⟨x1, hx1⟩ : ∃ x, zr * r0 = x := ⟨_, rfl⟩
                obtain ⟨x2, hx2⟩ : ∃ x, zl * l = x := ⟨_, rfl⟩
                have hxb1 : -2400 ≤ x1 ∧ x1 ≤ 2400 := by
                  rw [← hx1]
                  rcases (show zr = -1 ∨ zr = 0 ∨ zr = 1 by omega) with h | h | h <;> rw [h] <;> omega
                have hxb2 : -2400 ≤ x2 ∧ x2 ≤ 2400 := by
                  rw [← hx2]
                  rcases (show zl = -1 ∨ zl = 0 ∨ zl = 1 by omega) with h | h | h <;> rw [h] <;> omega
                have wx1 : IntKind.i64.wrap (zr * r0) = x1 := by rw [hx1]; exact IntWalk.i64_in _ (by omega)
                have wx2 : IntKind.i64.wrap (zl * l) = x2 := by rw [hx2]; exact IntWalk.i64_in _ (by omega)
                have HNX : Hid (stW us ((wpL fs s r0 l).take (k + 1)) = (stW us ((wpL fs s r0 l).take k)).set j (x1 + x2)) := Lib.hid (by
                  have e5 : fs.getD k 0 = (j : Int) := by
                    have := hz.out
                    rw [get_of_getD (by rw [HFL.out]; exact hlt)] at this
                    exact Option.some.inj this
                  rw [wp_next fs s r0 l us (by rw [HFL.out]; exact hlt), e5, Int.toNat_natCast, HFL.out, ← er, ← el, hx1, hx2])
                clear hc hcr hcl hx1 hx2 hy er el b1 b2
                go_wp2
                skip
                go_region
                go_wp2
                go_roundw
                case rel => exact ⟨k + 1, by omega, by go_num, Lib.hid (by rw [HNX.out, List.map_set]; exact own_drew3 (World.ownsRow.stored HR.out j _).1), Lib.hid (Below.drew (Below.setCell (p := ⟨gw, j, none⟩) HB.out (Nat.le_refl _) _))⟩
                case measure => simp [intOf]; omega
              · obtain rfl : k = n := by omega
                have HRF : Hid (wr.ownsRow gw 3 1 (.slice (some ⟨gw, 0, none⟩) ms.length ms.length) ms.length ((stW us (wpL fs s r0 l)).map (Value.int .i64))) := Lib.hid (by
                  have := HR.out
                  rwa [List.take_of_length_le (by unfold wpL; rw [List.length_map, List.length_range, HFL.out]; exact Nat.le_refl _)] at this)
                have HOUT := Lib.hid (own_out HRF.out).1
                have HLEN : Hid ((stW us (wpL fs s r0 l)).length = ms.length) := Lib.hid (by rw [stW_len, HUL0.out])
                have HCERT : Hid (Cert ms (stW us (wpL fs s r0 l)) m a b d) := Lib.hid (by
                  have hfl := HFL.out
                  have := cert_of (T := T) (U := U) (M := M) (L := L) (r := r0) (l := l) (m := m) HON.out hn HX.out HT.out.symm HU.out.symm (by rw [hfl, HSS.out]; exact HM.out.symm) (by rw [hfl, HSS.out]; exact HLL.out.symm) (by rw [hfl, HSS.out]; exact HTN.out) HMU.out HUL.out HL0.out.symm HRR.out HMM.out.symm
                  rw [HSS.out, HUS.out] at this
                  exact this)
                have HFIN : Hid (Below w.heap.size w wr) := Lib.hid (HBW.out.trans ((HW9.out.trans (HB.out.mono (by have := HW9.out.size; rw [HB0.out] at this; rw [← HGW.out]; exact this))).mono (by have := HB02.out; omega)))
                clear HR hlt hk
                go_wp2
                go_ret2
                exact ⟨some ⟨gw, 0, none⟩, ms.length, _, m, by rw [HLEN.out]; rfl, HOUT.out, HFIN.out, HCERT⟩
end Go.Proofs.Ytoilbgngefleiaa
