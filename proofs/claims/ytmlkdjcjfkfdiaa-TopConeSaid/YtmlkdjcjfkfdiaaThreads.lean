/-
  Contract: threads (cone): a partition into chains, no more of them than the longest layer has hits.
-/
import Derived.Test.YtmlkdjcjfkfdiaaLead
import Derived.Test.YtmlkdjcjfkfdiaaTabS
import Derived.Test.YtmlkdjcjfkfdiaaByTimeNew
import Derived.BigRegion
import Derived.Test.YtmlkdjcjfkfdiaaCutFrom
import Derived.Deep.CutRange
import Derived.Deep.AppendLies
import Derived.Deep.RegionLaw
namespace Go.Proofs.Ytmlkdjcjfkfdiaa
open Go.RowKit Go.Shelf Go.Maps

theorem all_minus {fr : List Int} {n : Nat} (h : fr.length = n) (hk : ∀ i, i < n → fr[i]? = some (-1)) : fr = List.replicate n (-1) := by
  refine List.ext_getElem? fun i => ?_
  rcases Nat.lt_or_ge i n with h1 | h1
  · rw [hk i h1, List.getElem?_replicate, if_pos h1]
  · rw [List.getElem?_eq_none (by omega), List.getElem?_eq_none (by simpa using h1)]
theorem set_minus {fr : List Int} {k : Nat} (hl : k < fr.length) (h : ∀ i, i < k → fr[i]? = some (-1)) : ∀ i, i < k + 1 → (fr.set k (-1))[i]? = some (-1) := by
  intro i hi
  by_cases e : k = i
  · subst e
    rw [List.getElem?_set, if_pos rfl, if_pos hl]
  · rw [List.getElem?_set, if_neg e]
    exact h i (by omega)
theorem allL_step {n : Nat} : allL n ++ [(n : Int)] = allL (n + 1) := (allL_succ n).symm
theorem allL_in {n k : Nat} (h : k < n) : (k : Int) ∈ allL n := List.mem_of_getElem? (allL_get h)
theorem invF_front {ms : List (Int × Int)} {k : Nat} {failed C fr : List Int} (hk : k ≤ ms.length) (h : InvF ms (allL k) failed C fr) : ∀ y ∈ fr, y = -1 ∨ hasB ms y = true := by
  intro y hy
  by_cases e : y = -1
  · exact .inl e
  · have h1 := List.count_pos_iff.2 hy
    rw [h.cnt y e] at h1
    split at h1
    · rename_i q
      have := allL_mem q.1
      right
      simp [hasB]
      omega
    · omega
theorem two_base {g m base : Nat} {a b c : World} (h : Two g m a b) (k : Below base b c) (hb : a.heap.size = base) : Two g m a c :=
  ⟨k.os.trans h.os, k.tape.trans h.tape, k.output.trans h.output, Nat.le_trans h.size k.size, fun i hi h1 h2 => (k.block i (by omega)).trans (h.block i hi h1 h2)⟩
theorem not_taken {ys : List Int} {n k : Nat} {z : Int} (hp : ys.Perm (allL n)) (hz : ys[k]? = some z) : z ∉ ys.take k := by
  intro hm
  obtain ⟨i, hi⟩ := List.mem_iff_getElem?.1 hm
  have hik : i < k := by have := (List.getElem?_eq_some_iff.1 hi).1; simp at this; omega
  rw [List.getElem?_take_of_lt hik] at hi
  have h2 := count_two hi hz (by omega)
  have h3 := hp.count_eq z
  have h4 := allL_mem (hp.mem_iff.1 (List.mem_of_getElem? hz))
  obtain ⟨m, rfl⟩ := Int.eq_ofNat_of_zero_le h4.1
  rw [all_count (by omega)] at h3
  omega
theorem own_block {w w' : World} {base g n c sz : Nat} {e : TypeId} {xs : List Value} (h : w.ownsRow base e sz (.slice (some ⟨g, 0, none⟩) n c) n xs) (hb : w'.heap[g]? = w.heap[g]?) : w'.ownsRow base e sz (.slice (some ⟨g, 0, none⟩) n c) n xs := by
  refine ⟨h.1, ?_⟩
  rcases h.2 with ⟨h', _⟩ | ⟨g', cap, cur, e', h0, hh, h1, h2, h3, h4⟩
  · simp at h'
  · have e2 := e'
    simp only [Value.slice.injEq, Option.some.injEq, Addr.mk.injEq, and_true, true_and] at e2
    obtain ⟨rfl, rfl⟩ := e2
    exact .inr ⟨g, c, cur, rfl, h0, hb.trans hh, h1, h2, h3, h4⟩

set_option maxRecDepth 100000 in
set_option maxHeartbeats 4000000 in
theorem threads_any (ms : List (Int × Int)) (A : Option Addr) (c : Nat) (w : World) (h : Marks w A ms) (hv : vhB ms = true) :
    Calls Try.prog 89 #[.slice A ms.length c] w fun e w' => ∃ (A' : Option Addr) (c' : Nat) (T : List (List Int)), e = .returned (.slice A' T.length c') ∧ TOut w' A' c' T ∧ Below w.heap.size w w' ∧ Hid (thyB ms T = true ∧ T.length ≤ (layerL ms).length) := by
  obtain ⟨hn1, hn2⟩ := vh_parts hv
  obtain ⟨i0, hi0, hz0, hz1, hz2⟩ := info_parts int_info
  have HZ2 := Lib.hid hz2
  have HI := Lib.hid (And.intro hi0 (And.intro hz0 hz1))
  clear hz2 hi0 hz0 hz1
  have H := Lib.hid (And.intro h hv)
  have hmm := Lib.hid (@run_makeMap Try.prog)
  clear h hv
  go_enter Try.func89, Try.ntmps89
  go_wp2_with (at_make; refine wpList_make_full _ rfl _ _ 28 rfl w.heap.size 3 i0 (.int .i64 0) 1 Try.underlying28 HI.out.1 HI.out.2.1 HI.out.2.2 _ _ _ _ ms.length rfl rfl rfl rfl (by rw [HZ2.out]; omega) (by unfold maxLen; omega) (Nat.le_refl _) ?_; intro w1 hown1 hg1)
  have HB1 : Hid (Below w.heap.size w w1) := Lib.hid ((Below.refl _ _).grown hg1 (Nat.le_refl _) (by simp))
  rw [made_fill] at hown1
  have HO1 := Lib.hid hown1
  clear hg1 hown1
  go_loopw [15] (fun i wr => ∃ (k : Nat) (fr : List Int), k ≤ ms.length ∧ i = .int .i64 k ∧ Hid (wr.ownsRow w.heap.size 3 1 (.slice (some ⟨w.heap.size, 0, none⟩) ms.length ms.length) ms.length (fr.map (Value.int .i64))) ∧ Hid (Below w.heap.size w wr) ∧ Hid (∀ i, i < k → fr[i]? = some (-1))) (fun i _ => ms.length - (intOf i).toNat)
  case atStart => exact ⟨0, _, Nat.zero_le _, rfl, HO1, HB1, Lib.hid (fun i hi => by omega)⟩
  case round =>
    clear HO1 HB1
    obtain ⟨k, fr, hk, rfl, HO, HB, HF⟩ := hrel
    rename World => wr
    by_cases hlt : k < ms.length
    · have hfl : fr.length = ms.length := by have := HO.out.1; simpa using this
      obtain ⟨y, hy⟩ : ∃ y, fr[k]? = some y := ⟨_, List.getElem?_eq_getElem (by omega)⟩
      have hc : wr.cell? ⟨w.heap.size, k, none⟩ = some (.int .i64 y) := by rw [HO.out.cellAt k (by omega), List.getElem?_map, hy]; rfl
      have hf := HO.out.frozenAt k
      have HFL := Lib.hid hfl
      clear hy hfl
      go_wp2
      go_roundw
      case rel => exact ⟨k + 1, fr.set k (-1), by omega, by go_num, Lib.hid (by rw [List.map_set]; exact (HO.out.stored k _).1), Lib.hid (HB.out.setCell (Nat.le_refl _) _), Lib.hid (set_minus (by rw [HFL.out]; exact hlt) HF.out)⟩
      case measure => simp [intOf]; omega
    · obtain rfl : k = ms.length := by omega
      have HFR : Hid (fr = List.replicate ms.length (-1)) := Lib.hid (all_minus (by have := HO.out.1; simpa using this) HF.out)
      clear HF
      go_wp2
      go_loopw [24] (fun i wr => ∃ (k : Nat) (fr failed C : List Int), k ≤ ms.length ∧ i = .int .i64 k ∧ Hid (wr.ownsRow w.heap.size 3 1 (.slice (some ⟨w.heap.size, 0, none⟩) ms.length ms.length) ms.length (fr.map (Value.int .i64))) ∧ Hid (Below w.heap.size w wr) ∧ Hid (InvF ms (allL k) failed C fr)) (fun i _ => ms.length - (intOf i).toNat)
      case atStart => exact ⟨0, fr, [], [], Nat.zero_le _, rfl, HO, HB, Lib.hid (by rw [HFR.out]; exact invF_start ms)⟩
      case round =>
        clear HO HB HFR
        obtain ⟨k, fr, failed, C, hk, rfl, HO, HB, HF⟩ := hrel
        rename World => wr
        by_cases hlt : k < ms.length
        · have hmm2 := hmm.out
          have hsz := HB.out.size
          have HLW : Hid (LeW (wr.alloc (.map #[] 0)) w.heap.size w.heap.size wr.heap.size ms.length fr []) := Lib.hid ⟨HO.out.alloc _, by simpa [keysB_nil] using World.ownsMap_made _ _ _ _⟩
          have hkm : (k : Int) ∉ allL k := fun q => by have := allL_mem q; omega
          obtain ⟨failed2, C2, hI⟩ := invF_step (f := ms.length + 1) HF.out hkm (by omega) (by omega)
          have HI2 := Lib.hid hI
          have hbx : Below w.heap.size w (wr.alloc (.map #[] 0)) := HB.out.alloc hsz _
          have hglt : w.heap.size < wr.heap.size := (HO.out.lt _ rfl).2
          have HQ := Lib.hid (lead_any ms A c w w.heap.size wr.heap.size H.out.1 H.out.2 (Nat.le_refl _) hsz (Nat.ne_of_lt hglt) (ms.length + 1) (k : Int) fr [] _ hbx (allL_has (allL_in hlt)) (invF_front hk HF.out) ⟨List.nodup_nil, fun b hb => by cases hb⟩ (by simp) HLW.out)
          have HBX := Lib.hid hbx
          clear hI hkm hbx
          go_wp2_with (go_at_call 112; refine HQ.out.mono ?_; rintro e w3 ⟨d3, fr3, se3, rfl, hL3, hT3, hR3⟩)
          go_roundw
          case rel => exact ⟨k + 1, fr3, failed2, C2, by omega, by go_num, Lib.hid hL3.row, Lib.hid (HBX.out.trans (hT3.below (Nat.le_refl _) hsz HBX.out.size)), Lib.hid (by have := HI2.out; rw [hR3.out, allL_step] at this; exact this)⟩
          case measure => simp [intOf]; omega
        · obtain rfl : k = ms.length := by omega
          have HFS := Lib.hid (fronts_of HF.out)
          clear HF
          have hglt : w.heap.size < wr.heap.size := (HO.out.lt _ rfl).2
          go_wp2_with (at_make; refine wpList_make_full _ rfl _ _ 28 rfl wr.heap.size 3 i0 (.int .i64 0) 1 Try.underlying28 HI.out.1 HI.out.2.1 HI.out.2.2 _ _ _ _ ms.length rfl rfl rfl rfl (by rw [HZ2.out]; omega) (by unfold maxLen; omega) (Nat.le_refl _) ?_; intro w2 hown2 hg2)
          have HB2 : Hid (Below wr.heap.size wr w2) := Lib.hid ((Below.refl _ _).grown hg2 (Nat.le_refl _) (by simp))
          rw [made_fill] at hown2
          have HO2 := Lib.hid hown2
          have hgl2 : wr.heap.size < w2.heap.size := (hown2.lt _ rfl).2
          have HQB := Lib.hid (byTimeNew_any ms A c w2 (H.out.1.below (below_step HB.out HB2.out)) H.out.2)
          clear hown2 hg2
          go_wp2_with (go_at_call 91; refine HQB.out.mono ?_; rintro e w4 ⟨ys, rfl, hO4, hB4, hP⟩)
          have HP := Lib.hid hP.out
          have hyl : ys.length = ms.length := by rw [hP.out.1.length_eq, allL_len]
          have HW4 : Hid (Below w.heap.size w w4) := Lib.hid (below_step (below_step HB.out HB2.out) hB4)
          have HO4 := Lib.hid hO4
          have HFR4 : Hid (w4.ownsRow w.heap.size 3 1 (.slice (some ⟨w.heap.size, 0, none⟩) ms.length ms.length) ms.length (fr.map (Value.int .i64))) := Lib.hid (own_block HO.out ((hB4.block _ (by omega)).trans (HB2.out.block _ hglt)))
          have HTH4 := Lib.hid (own_block HO2.out (hB4.block _ hgl2))
          have hz4 := hB4.size
          have hgy : w2.heap.size + 1 < w4.heap.size := by
            obtain ⟨b, o, e, hb, _⟩ := hO4.ints.open_ (by omega)
            cases e
            exact hb
          clear hP hO4 hB4 HO HB HO2 HB2 HQB
          obtain ⟨gf, hgf⟩ : ∃ g, w.heap.size = g := ⟨_, rfl⟩
          obtain ⟨gh, hgh⟩ : ∃ g, wr.heap.size = g := ⟨_, rfl⟩
          obtain ⟨gy, hgyy⟩ : ∃ g, w2.heap.size + 1 = g := ⟨_, rfl⟩
          obtain ⟨base, hbase⟩ : ∃ g, w4.heap.size = g := ⟨_, rfl⟩
          have HGF := Lib.hid hgf
          have HBASE := Lib.hid hbase
          have hord : gf < gh ∧ gh < gy ∧ gy < base := by omega
          simp only [hgf, hgh, hgyy] at HFR4 HTH4 HO4 ⊢
          have hyl0 : 0 < ys.length ∧ ys.length ≤ 14 := by omega
          clear hgf hgh hgyy hbase hgy hz4 hgl2 hglt hyl
          obtain ⟨hyl1, hyl2⟩ := hyl0
          obtain ⟨ho1, ho2, ho3⟩ := hord
          have HY4 : Hid (∀ (k : Nat) (z : Int), ys[k]? = some z → w4.cell? ⟨gy, k, none⟩ = some (.int .i64 z)) := Lib.hid (by
            obtain ⟨b, o, e, hb, hall⟩ := HO4.out.ints.open_ (by omega)
            cases e
            intro k z hz
            have := hall k z hz
            rwa [Nat.zero_add] at this)
          clear HO4
          go_loopw [6, 39] (fun v i wr => ∃ (k : Nat) (th : List Int) (T : List (List Int)), k ≤ ys.length ∧ i = .int .i64 k ∧ T.length ≤ k ∧ Hid (TabS wr base v T) ∧ Hid (wr.ownsRow gh 3 1 (.slice (some ⟨gh, 0, none⟩) ms.length ms.length) ms.length (th.map (Value.int .i64))) ∧ Hid (Two gh gh w4 wr) ∧ Hid (InvT ms fr (ys.take k) th T)) (fun _ i _ => ys.length - (intOf i).toNat)
          case atStart => exact ⟨0, _, [], Nat.zero_le _, rfl, Nat.le_refl _, Lib.hid (TabS.nil_ _ _), HTH4, Lib.hid (Two.refl _ _ _), Lib.hid (invT_start ms fr _ (by have := HTH4.out.1; simpa using this))⟩
          case round =>
            clear HTH4
            obtain ⟨k, th, T, hk, rfl, hTk, HT, HH, HW, HI⟩ := hrel
            rename World => wx
            by_cases hlt : k < ys.length
            · obtain ⟨z, hz⟩ : ∃ z, ys[k]? = some z := ⟨_, List.getElem?_eq_getElem hlt⟩
              have hzm : z ∈ allL ms.length := HP.out.1.mem_iff.1 (List.mem_of_getElem? hz)
              obtain ⟨hz0, hz1⟩ := allL_mem hzm
              have c0 := (World.cell?_of_block (a := ⟨gy, k, none⟩) (HW.out.block gy (by have := HBASE.out; omega) (by omega) (by omega))).trans (HY4.out k z hz)
              have HZ := Lib.hid hz
              have HNT : Hid (z ∉ ys.take k) := Lib.hid (not_taken HP.out.1 hz)
              have HTS : Hid (ys.take (k + 1) = ys.take k ++ [z]) := Lib.hid (take_snoc hz)
              clear hz hzm
              obtain ⟨j, rfl⟩ := Int.eq_ofNat_of_zero_le hz0
              have hjn : j < ms.length := by omega
              have HFW : Hid (wx.ownsRow gf 3 1 (.slice (some ⟨gf, 0, none⟩) ms.length ms.length) ms.length (fr.map (Value.int .i64))) := Lib.hid (own_block HFR4.out (HW.out.block gf (by have := HBASE.out; omega) (by omega) (by omega)))
              obtain ⟨x, hx⟩ : ∃ x, frI fr (j : Int) = x := ⟨_, rfl⟩
              have hjf : j < fr.length := by rw [HFS.out.len]; exact hjn
              have hfx : fr[j]? = some x := by rw [← hx, frI, Int.toNat_natCast, List.getD_eq_getElem?_getD, List.getElem?_eq_getElem hjf]; rfl
              have cF : wx.cell? ⟨gf, j, none⟩ = some (.int .i64 x) := by rw [HFW.out.cellAt j (by omega), List.getElem?_map, hfx]; rfl
              have HX := Lib.hid hx
              clear hx hfx hjf
              have htl : th.length = ms.length := HI.out.tlen
              obtain ⟨y, hy⟩ : ∃ y, th[j]? = some y := ⟨_, List.getElem?_eq_getElem (by omega)⟩
              have cH : wx.cell? ⟨gh, j, none⟩ = some (.int .i64 y) := by rw [HH.out.cellAt j (by omega), List.getElem?_map, hy]; rfl
              have fH := HH.out.frozenAt j
              clear hy
              by_cases h1 : x = -1
              · subst h1
                have HIN := Lib.hid (invT_new HI.out HNT.out ⟨hz0, hz1⟩ HX.out)
                obtain ⟨A', cv, e5, hO5⟩ := HT.out.form
                subst e5
                obtain ⟨q1, q2⟩ := HH.out.stored j (.int .i64 (T.length : Int))
                have HT3 : Hid (TabS (wx.setCell ⟨gh, j, none⟩ (.int .i64 (T.length : Int))) base (.slice A' T.length cv) T) := Lib.hid (HT.out.keep (fun g hb hl => q2.block g hl (by intro q; injection q with q; omega)))
                have HH3 := Lib.hid q1
                have HW3 : Hid (Two gh gh w4 (wx.setCell ⟨gh, j, none⟩ (.int .i64 (T.length : Int)))) := Lib.hid (HW.out.trans (Two.of_grown q2 (.inl rfl)))
                have hb3 : Hid (base ≤ (wx.setCell ⟨gh, j, none⟩ (.int .i64 (T.length : Int))).heap.size) := Lib.hid (by have := HW3.out.size; have := HBASE.out; omega)
                clear q1 q2 hO5
                go_upto_region 19 with fail
                obtain ⟨w3, hw3⟩ : ∃ w3, wx.setCell ⟨gh, j, none⟩ (.int .i64 (T.length : Int)) = w3 := ⟨_, rfl⟩
                rw [hw3] at HT3 HH3 HW3 hb3 ⊢
                clear hw3
                go_upto_region 21 with (at_builtin; refine wp_app_none w3 rfl (.tmp 53) (.tmp 54) rfl base _ T.length T rfl rfl HT3.out rfl (by omega) hb3.out ?_; intro v5 w5 hT5 hB5)
                obtain ⟨T5, hTT⟩ : ∃ T5, T5 = T ++ [[]] := ⟨_, rfl⟩
                obtain ⟨t, htt⟩ : ∃ t, t = T.length := ⟨_, rfl⟩
                obtain ⟨L, hLe⟩ : ∃ L : List Int, L = [] := ⟨_, rfl⟩
                have HT5 : Hid (TabS w5 base v5 T5) := Lib.hid (hTT ▸ hT5)
                have HTL : Hid (T5[t]? = some L) := Lib.hid (by rw [hTT, htt, hLe]; simp)
                have HTN : Hid (InvT ms fr (ys.take (k + 1)) (th.set j (t : Int)) (T5.set t (L ++ [(j : Int)]))) := Lib.hid (by rw [HTS.out, hTT, htt, hLe]; have := HIN.out; simpa using this)
                have HH5 : Hid (w5.ownsRow gh 3 1 (.slice (some ⟨gh, 0, none⟩) ms.length ms.length) ms.length ((th.set j (t : Int)).map (Value.int .i64))) := Lib.hid (by rw [List.map_set, htt]; exact own_block HH3.out (hB5.block gh (by omega)))
                have HW5 : Hid (Two gh gh w4 w5) := Lib.hid (two_base HW3.out hB5 HBASE.out)
                have HBW5 : Hid (base ≤ w5.heap.size) := Lib.hid (by have := hb3.out; have := hB5.size; omega)
                have HLL : Hid (L.length ≤ 1000) := Lib.hid (by rw [hLe]; simp)
                have hT5k : T5.length ≤ k + 1 := by rw [hTT]; simp; omega
                have cH5 : w5.cell? ⟨gh, j, none⟩ = some (.int .i64 (t : Int)) := by rw [HH5.out.cellAt j (by omega), List.getElem?_map, List.getElem?_set, if_pos rfl, if_pos (by omega)]; rfl
                clear hT5 hB5 HT3 HH3 HW3 hb3 HIN hTT hLe htt
                obtain ⟨gT, cT, B, cB, e6, hbg, hgl, d0, hOL, hpush⟩ := HT5.out.at_ HTL.out (j : Int)
                subst e6
                have HPUSH := Lib.hid hpush
                have HOL := Lib.hid hOL
                have hLl : L.length ≤ 1000 := HLL.out
                have hbw : base ≤ w5.heap.size := HBW5.out
                have httT : t < T5.length := (List.getElem?_eq_some_iff.1 HTL.out).1
                have hgHT : gh < gT := by omega
                have httI : (t : Int) < (T5.length : Int) := by omega
                have httL : t ≤ 1000 := by omega
                have httZ : (0 : Int) ≤ (t : Int) := by omega
                clear hpush hOL
                have hghw : gh < w5.heap.size := by omega
                have cA5 : (w5.alloc (.cells #[.int .i64 (j : Int)] 3)).cell? ⟨gh, j, none⟩ = some (.int .i64 (t : Int)) := (World.cell?_alloc_lt w5 _ ⟨gh, j, none⟩ hghw).trans cH5
                have dA5 : (w5.alloc (.cells #[.int .i64 (j : Int)] 3)).cell? ⟨gT, t, none⟩ = some (.slice B L.length cB) := (World.cell?_alloc_lt w5 _ ⟨gT, t, none⟩ hgl).trans d0
                refine wp_cut_from 66 16 (fun wx => Hid (TabS wx base (.slice (some ⟨gT, 0, none⟩) T5.length cT) (T5.set t (L ++ [(j : Int)]))) ∧ Hid (wx.ownsRow gh 3 1 (.slice (some ⟨gh, 0, none⟩) ms.length ms.length) ms.length ((th.set j (t : Int)).map (Value.int .i64))) ∧ Hid (Two gh gh w4 wx)) ?_ ?_
                · go_region_law (first
                    | (refine step_app_at w5 rfl (.tmp 77) (.tmp 79) rfl base (.slice B L.length cB) L.length L (j : Int) rfl HOL.out rfl (by omega) hbw ?_; intro v6 w6 hA6; obtain ⟨A6, c6, e7, _⟩ := own_ints hA6.1; subst e7; rw [show (L ++ [(j : Int)]).length = L.length + 1 by simp] at hA6; obtain ⟨p0, p1, p2, p3⟩ := HPUSH.out _ w6 hA6; have cH6 : w6.cell? ⟨gh, j, none⟩ = some (.int .i64 (t : Int)) := (hA6.2.1.cell (p := ⟨gh, j, none⟩) (by show gh < base; omega)).trans cH5; have HP2 := Lib.hid p2; have HP3 := Lib.hid p3; have HA6 := Lib.hid hA6; clear p2 p3 hA6))
                  all_goals exact ⟨⟨HP2, Lib.hid (own_block HH5.out (HP3.out.block gh (by omega))), Lib.hid (two_base HW5.out HP3.out HBASE.out)⟩, [_, _, _, _, _, _, _, _, _, _, _, _, _, _, _, _], rfl, rfl⟩
                · intro us hus w6 hcut
                  obtain ⟨HP2, HH6, HW6⟩ := hcut
                  obtain ⟨u66, us0, e0, hus0⟩ := list_next hus
                  obtain ⟨u67, us1, e1, hus1⟩ := list_next hus0
                  obtain ⟨u68, us2, e2, hus2⟩ := list_next hus1
                  obtain ⟨u69, us3, e3, hus3⟩ := list_next hus2
                  obtain ⟨u70, us4, e4, hus4⟩ := list_next hus3
                  obtain ⟨u71, us5, e5, hus5⟩ := list_next hus4
                  obtain ⟨u72, us6, e6, hus6⟩ := list_next hus5
                  obtain ⟨u73, us7, e7, hus7⟩ := list_next hus6
                  obtain ⟨u74, us8, e8, hus8⟩ := list_next hus7
                  obtain ⟨u75, us9, e9, hus9⟩ := list_next hus8
                  obtain ⟨u76, us10, e10, hus10⟩ := list_next hus9
                  obtain ⟨u77, us11, e11, hus11⟩ := list_next hus10
                  obtain ⟨u78, us12, e12, hus12⟩ := list_next hus11
                  obtain ⟨u79, us13, e13, hus13⟩ := list_next hus12
                  obtain ⟨u80, us14, e14, hus14⟩ := list_next hus13
                  obtain ⟨u81, us15, e15, hus15⟩ := list_next hus14
                  have e16 := list_end hus15
                  subst e16 ; subst e15 ; subst e14 ; subst e13 ; subst e12 ; subst e11 ; subst e10 ; subst e9 ; subst e8 ; subst e7 ; subst e6 ; subst e5 ; subst e4 ; subst e3 ; subst e2 ; subst e1 ; subst e0 
                  clear cA5 dA5 cH5 d0 HPUSH HOL HT5 HH5 HW5
                  simp only [putFrom, List.take_succ_cons, List.take_zero, List.drop_succ_cons, List.drop_zero, List.cons_append, List.nil_append, Nat.reduceAdd]
                  go_wp2
                  go_roundw
                  case rel => exact ⟨k + 1, th.set j (t : Int), T5.set t (L ++ [(j : Int)]), by omega, by go_num, by rw [List.length_set]; exact hT5k, HP2, HH6, HW6, HTN⟩
                  case measure => simp [intOf]; omega
              · have t1 : (x == -1) = false := by simpa using h1
                obtain ⟨A', cv, e5, hO5⟩ := HT.out.form
                subst e5
                clear hO5
                have HNX : Hid (frI fr (j : Int) ≠ -1) := Lib.hid (HX.out ▸ h1)
                clear h1
                obtain ⟨hxm, hxb⟩ := (HFS.out.in_ (j : Int) hz0).resolve_left HNX.out
                have hdone := front_done HP.out.1 HP.out.2 HZ.out hxm hxb
                obtain ⟨t, L, ht, hTL, hTN⟩ := invT_on HI.out HNT.out ⟨hz0, hz1⟩ HNX.out hdone hxb (fun c hc => front_one hz0 (HI.out.rng c hc).1 HNX.out HFS.out.one (fun e => HNT.out (e ▸ hc)))
                obtain ⟨hx0, hx1⟩ := allL_mem hxm
                rw [HX.out] at hx0 hx1 ht
                obtain ⟨jx, rfl⟩ := Int.eq_ofNat_of_zero_le hx0
                rw [Int.toNat_natCast] at ht
                have hjx : jx < ms.length := by omega
                have cX : wx.cell? ⟨gh, jx, none⟩ = some (.int .i64 (t : Int)) := by
                  rw [HH.out.cellAt jx (by omega), List.getElem?_map, List.getElem?_eq_getElem (by omega : jx < th.length)]
                  rw [List.getD_eq_getElem?_getD, List.getElem?_eq_getElem (by omega : jx < th.length)] at ht
                  simp only [Option.getD_some] at ht
                  rw [ht]; rfl
                have HTL0 := Lib.hid hTL
                have HTN0 : Hid (InvT ms fr (ys.take (k + 1)) (th.set j (t : Int)) (T.set t (L ++ [(j : Int)]))) := Lib.hid (by rw [HTS.out]; have := hTN; rwa [Int.toNat_natCast] at this)
                have hLk : L.length ≤ T.flatten.length := by
                  obtain ⟨i, hi⟩ := List.mem_iff_getElem?.1 (List.mem_of_getElem? hTL)
                  have h5 := flat_take hi
                  have h6 : ((T.take (i + 1)).flatten).length ≤ T.flatten.length := by
                    conv => rhs; rw [← List.take_append_drop (i + 1) T]
                    rw [List.flatten_append, List.length_append]; omega
                  rw [h5, List.length_append] at h6
                  omega
                have hfl2 : T.flatten.length = (ys.take k).length := (List.perm_iff_count.2 HI.out.flat).length_eq
                have HLL : Hid (L.length ≤ 1000) := Lib.hid (by rw [List.length_take] at hfl2; omega)
                obtain ⟨q1, q2⟩ := HH.out.stored j (.int .i64 (t : Int))
                have HT5 : Hid (TabS (wx.setCell ⟨gh, j, none⟩ (.int .i64 (t : Int))) base (.slice A' T.length cv) T) := Lib.hid (HT.out.keep (fun g hb hl => q2.block g hl (by intro q; injection q with q; omega)))
                have HH5 : Hid ((wx.setCell ⟨gh, j, none⟩ (.int .i64 (t : Int))).ownsRow gh 3 1 (.slice (some ⟨gh, 0, none⟩) ms.length ms.length) ms.length ((th.set j (t : Int)).map (Value.int .i64))) := Lib.hid (by rw [List.map_set]; exact q1)
                have HW5 : Hid (Two gh gh w4 (wx.setCell ⟨gh, j, none⟩ (.int .i64 (t : Int)))) := Lib.hid (HW.out.trans (Two.of_grown q2 (.inl rfl)))
                have HBW5 : Hid (base ≤ (wx.setCell ⟨gh, j, none⟩ (.int .i64 (t : Int))).heap.size) := Lib.hid (by have := HW5.out.size; have := HBASE.out; omega)
                clear q1 q2 hTL hTN hdone hxm hxb hLk hfl2 ht
                go_upto_region 21 with fail
                obtain ⟨w5, hw5⟩ : ∃ w5, wx.setCell ⟨gh, j, none⟩ (.int .i64 (t : Int)) = w5 := ⟨_, rfl⟩
                rw [hw5] at HT5 HH5 HW5 HBW5 ⊢
                clear hw5
                obtain ⟨T5, hTT⟩ : ∃ T5, T5 = T := ⟨_, rfl⟩
                have hT5k : T5.length ≤ k + 1 := by rw [hTT]; omega
                rw [← hTT] at HT5 HTL0 HTN0 ⊢
                have HTL := HTL0
                have HTN := HTN0
                have cH5 : w5.cell? ⟨gh, j, none⟩ = some (.int .i64 (t : Int)) := by rw [HH5.out.cellAt j (by omega), List.getElem?_map, List.getElem?_set, if_pos rfl, if_pos (by omega)]; rfl
                clear hTT cX HTL0 HTN0
                obtain ⟨gT, cT, B, cB, e6, hbg, hgl, d0, hOL, hpush⟩ := HT5.out.at_ HTL.out (j : Int)
                injection e6 with e61 e62 e63
                subst e61 e63
                have HPUSH := Lib.hid hpush
                have HOL := Lib.hid hOL
                have hLl : L.length ≤ 1000 := HLL.out
                have hbw : base ≤ w5.heap.size := HBW5.out
                have httT : t < T5.length := (List.getElem?_eq_some_iff.1 HTL.out).1
                have hgHT : gh < gT := by omega
                have httI : (t : Int) < (T5.length : Int) := by omega
                have httL : t ≤ 1000 := by omega
                have httZ : (0 : Int) ≤ (t : Int) := by omega
                clear hpush hOL
                have hghw : gh < w5.heap.size := by omega
                have cA5 : (w5.alloc (.cells #[.int .i64 (j : Int)] 3)).cell? ⟨gh, j, none⟩ = some (.int .i64 (t : Int)) := (World.cell?_alloc_lt w5 _ ⟨gh, j, none⟩ hghw).trans cH5
                have dA5 : (w5.alloc (.cells #[.int .i64 (j : Int)] 3)).cell? ⟨gT, t, none⟩ = some (.slice B L.length cB) := (World.cell?_alloc_lt w5 _ ⟨gT, t, none⟩ hgl).trans d0
                refine wp_cut_from 66 16 (fun wx => Hid (TabS wx base (.slice (some ⟨gT, 0, none⟩) T5.length cv) (T5.set t (L ++ [(j : Int)]))) ∧ Hid (wx.ownsRow gh 3 1 (.slice (some ⟨gh, 0, none⟩) ms.length ms.length) ms.length ((th.set j (t : Int)).map (Value.int .i64))) ∧ Hid (Two gh gh w4 wx)) ?_ ?_
                · go_region_law (first
                    | (refine step_app_at w5 rfl (.tmp 77) (.tmp 79) rfl base (.slice B L.length cB) L.length L (j : Int) rfl HOL.out rfl (by omega) hbw ?_; intro v6 w6 hA6; obtain ⟨A6, c6, e7, _⟩ := own_ints hA6.1; subst e7; rw [show (L ++ [(j : Int)]).length = L.length + 1 by simp] at hA6; obtain ⟨p0, p1, p2, p3⟩ := HPUSH.out _ w6 hA6; have cH6 : w6.cell? ⟨gh, j, none⟩ = some (.int .i64 (t : Int)) := (hA6.2.1.cell (p := ⟨gh, j, none⟩) (by show gh < base; omega)).trans cH5; have HP2 := Lib.hid p2; have HP3 := Lib.hid p3; have HA6 := Lib.hid hA6; clear p2 p3 hA6))
                  all_goals exact ⟨⟨HP2, Lib.hid (own_block HH5.out (HP3.out.block gh (by omega))), Lib.hid (two_base HW5.out HP3.out HBASE.out)⟩, [_, _, _, _, _, _, _, _, _, _, _, _, _, _, _, _], rfl, rfl⟩
                · intro us hus w6 hcut
                  obtain ⟨HP2, HH6, HW6⟩ := hcut
                  obtain ⟨u66, us0, e0, hus0⟩ := list_next hus
                  obtain ⟨u67, us1, e1, hus1⟩ := list_next hus0
                  obtain ⟨u68, us2, e2, hus2⟩ := list_next hus1
                  obtain ⟨u69, us3, e3, hus3⟩ := list_next hus2
                  obtain ⟨u70, us4, e4, hus4⟩ := list_next hus3
                  obtain ⟨u71, us5, e5, hus5⟩ := list_next hus4
                  obtain ⟨u72, us6, e6, hus6⟩ := list_next hus5
                  obtain ⟨u73, us7, e7, hus7⟩ := list_next hus6
                  obtain ⟨u74, us8, e8, hus8⟩ := list_next hus7
                  obtain ⟨u75, us9, e9, hus9⟩ := list_next hus8
                  obtain ⟨u76, us10, e10, hus10⟩ := list_next hus9
                  obtain ⟨u77, us11, e11, hus11⟩ := list_next hus10
                  obtain ⟨u78, us12, e12, hus12⟩ := list_next hus11
                  obtain ⟨u79, us13, e13, hus13⟩ := list_next hus12
                  obtain ⟨u80, us14, e14, hus14⟩ := list_next hus13
                  obtain ⟨u81, us15, e15, hus15⟩ := list_next hus14
                  have e16 := list_end hus15
                  subst e16 ; subst e15 ; subst e14 ; subst e13 ; subst e12 ; subst e11 ; subst e10 ; subst e9 ; subst e8 ; subst e7 ; subst e6 ; subst e5 ; subst e4 ; subst e3 ; subst e2 ; subst e1 ; subst e0 
                  clear cA5 dA5 cH5 d0 HPUSH HOL HT5 HH5 HW5
                  simp only [putFrom, List.take_succ_cons, List.take_zero, List.drop_succ_cons, List.drop_zero, List.cons_append, List.nil_append, Nat.reduceAdd]
                  go_wp2
                  go_roundw
                  case rel => exact ⟨k + 1, th.set j (t : Int), T5.set t (L ++ [(j : Int)]), by omega, by go_num, by rw [List.length_set]; exact hT5k, HP2, HH6, HW6, HTN⟩
                  case measure => simp [intOf]; omega
            · obtain rfl : k = ys.length := by omega
              have HE : Hid (thyB ms T = true ∧ T.length ≤ (layerL ms).length) := Lib.hid (by
                have h1 := HI.out
                rw [List.take_length] at h1
                obtain ⟨h2, h3⟩ := invT_end hn2 h1 HP.out.1 HFS.out.len
                exact ⟨h2, by rw [h3]; exact HFS.out.few⟩)
              obtain ⟨A', c', e5, hO5⟩ := HT.out.form
              subst e5
              go_wp2
              go_ret
              have hq := HGF.out
              have hq2 := HBASE.out
              exact ⟨A', c', T, rfl, hO5, HW4.out.trans (HW.out.below (by omega) (by omega) (by have := HW4.out.size; omega)), HE⟩
end Go.Proofs.Ytmlkdjcjfkfdiaa
