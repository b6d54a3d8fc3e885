/-
  Contracts: all and first with the rows that they hand back, Layers (firnref02).
-/
import Derived.Test.YtmlkdjcjfkfdiaaRefLaysM
import Derived.Deep.Heap
namespace Go.Proofs.Ytmlkdjcjfkfdiaa
open Go.RowKit Go.Shelf

set_option maxRecDepth 100000 in
set_option maxHeartbeats 400000 in
theorem refAll_own (n : Nat) (A : Option Addr) (c : Nat) (w : World) (hn : n ≤ 1000) :
    Calls Try.prog 68 #[.slice A n c] w fun e w' => e = .returned (.slice (some ⟨w.heap.size, 0, none⟩) n n) ∧ w'.ownsRow w.heap.size 4 1 (.slice (some ⟨w.heap.size, 0, none⟩) n n) n ((List.replicate n true).map Value.bool) ∧ Below w.heap.size w w' := by
  obtain ⟨i0, hi0, hz0, hz1, hz2⟩ := info_parts bool_info
  have HZ2 := Lib.hid hz2
  clear hz2
  go_enter Try.func68, Try.ntmps68
  go_wp2_with (at_make; refine wpList_make_full _ rfl _ _ 75 rfl w.heap.size 4 i0 (.bool false) 1 Try.underlying75 hi0 hz0 hz1 _ _ _ _ n rfl rfl rfl rfl (by rw [HZ2.out]; omega) (by unfold maxLen; omega) (Nat.le_refl _) ?_; intro w1 hown1 hg1)
  have hB1 : Below w.heap.size w w1 := (Below.refl _ _).grown hg1 (Nat.le_refl _) (by simp)
  rw [made_fillB] at hown1
  clear hg1 HZ2 hz0 hz1 hi0
  go_loopw [4] (fun i wr => ∃ k : Nat, k ≤ n ∧ i = .int .i64 k ∧ wr.ownsRow w.heap.size 4 1 (.slice (some ⟨w.heap.size, 0, none⟩) n n) n ((fillB n k).map Value.bool) ∧ Below w.heap.size w wr) (fun i _ => n - (intOf i).toNat)
  case atStart => exact ⟨0, Nat.zero_le _, rfl, hown1, hB1⟩
  case round =>
    clear hown1 hB1
    obtain ⟨k, hk, rfl, hown, hB⟩ := hrel
    by_cases hlt : k < n
    · have hc := hown.cellAt k (by omega)
      rw [List.getElem?_map, fillB_get hlt, Option.map_some] at hc
      have hf := hown.frozenAt k
      go_wp2
      go_roundw
      case rel => exact ⟨k + 1, by omega, by go_num, by rw [← fillB_set hlt, List.map_set]; exact (hown.stored k _).1, hB.setCell (Nat.le_refl _) _⟩
      case measure => simp [intOf]; omega
    · obtain rfl : k = n := by omega
      go_wp2
      go_ret
      rw [fillB_full] at hown
      exact ⟨rfl, hown, hB⟩

set_option maxRecDepth 100000 in
set_option maxHeartbeats 1600000 in
theorem refFirstB_own (ms : List (Int × Int)) (A : Option Addr) (c : Nat) (bs : List Bool) (B : Option Addr) (d : Nat) (w : World) (h : Marks w A ms) (hv : vhB ms = true) (hb : Bools w B bs) (hlen : bs.length = ms.length) :
    Calls Try.prog 67 #[.slice A ms.length c, .slice B bs.length d] w fun e w' => ∃ (A' : Option Addr) (c' : Nat) (ys : List Int), e = .returned (.slice A' ys.length c') ∧ OwnI w' w.heap.size A' c' ys ∧ Below w.heap.size w w' ∧ Hid (ys = firstB ms bs) := by
  have H := Lib.hid h
  have HBS := Lib.hid hb
  obtain ⟨hn1, hn2⟩ := vh_parts hv
  have HV := Lib.hid hv
  have hle : ms.length ≤ bs.length := by omega
  have HLE := Lib.hid hlen
  clear h hb hv hlen
  go_enter Try.func67, Try.ntmps67
  go_wp2
  go_loopw [5, 6] (fun v i wr => ∃ k : Nat, k ≤ ms.length ∧ i = .int .i64 k ∧ (∃ ys : List Int, wr.ownsRow w.heap.size 3 1 v ys.length (ys.map (Value.int .i64)) ∧ ys.length ≤ k ∧ Hid (ys = (allL k).filter fun a => leftB bs a && clearB ms bs a (allL ms.length))) ∧ Below w.heap.size w wr) (fun _ i _ => ms.length - (intOf i).toNat)
  case atStart => exact ⟨0, Nat.zero_le _, rfl, ⟨[], World.ownsRow_nil _ _ _ _, Nat.le_refl _, rfl⟩, Below.refl _ _⟩
  case round =>
    obtain ⟨k, hk, rfl, ⟨ys, hown, hyk, hys⟩, hB⟩ := hrel
    have hz := hB.size
    by_cases hlt : k < ms.length
    · obtain ⟨ad, z, rfl, hbk, hz1, hc⟩ := HBS.out.get (show k < bs.length by omega)
      have f0 := (hB.cell (p := ad.add k) (by rw [block_of_add]; exact hbk)).trans hc
      have hkb : k < bs.length := by omega
      have HK := Lib.hid (show hasB ms (k : Int) = true by simp [hasB]; omega)
      have HZ := Lib.hid (leftB_of hz1.out)
      have HM := Lib.hid (H.out.below hB)
      have HBW := Lib.hid (HBS.out.below hB)
      clear hc hz1
      go_wp2
      go_loopw [7, 8] (fun x j wr2 => ∃ (k2 m : Nat) (y : Bool), k2 ≤ ms.length ∧ j = .int .i64 k2 ∧ x = .bool y ∧ wr2 = wr.drewN m ∧ Hid (y = (leftB bs k && clearB ms bs k (allL k2)))) (fun _ j _ => ms.length - (intOf j).toNat)
      case atStart => exact ⟨0, 0, z, Nat.zero_le _, rfl, rfl, rfl, (by rw [HZ.out, clearB_zero, Bool.and_true] : z = _)⟩
      case round =>
        obtain ⟨k2, m, y, hk2, rfl, rfl, rfl, hy⟩ := hrel
        by_cases hlt2 : k2 < ms.length
        · have HS := Lib.hid (clearB_succ ms bs k k2)
          cases y with
          | false =>
            go_wp2
            go_roundw
            case rel => exact ⟨k2 + 1, m, false, by omega, by go_num, rfl, rfl, (by rw [HS.out, ← Bool.and_assoc, ← hy.out]; rfl : false = _)⟩
            case measure => simp [intOf]; omega
          | true =>
            obtain ⟨ad2, z2, e2, hbk2, hz2, hc2⟩ := HBW.out.get (show k2 < bs.length by omega)
            cases e2
            have hkb2 : k2 < bs.length := by omega
            have HK2 := Lib.hid (show hasB ms (k2 : Int) = true by simp [hasB]; omega)
            have HZ2 := Lib.hid (leftB_of hz2.out)
            cases z2 with
            | false =>
              go_wp2
              go_roundw
              case rel => exact ⟨k2 + 1, m, true, by omega, by go_num, rfl, rfl, (by rw [HS.out, ← Bool.and_assoc, ← hy.out, HZ2.out]; rfl : true = _)⟩
              case measure => simp [intOf]; omega
            | true =>
              go_wp2_with (go_at_call 61; refine (refBefore_any ms A c k2 k _ (HM.out.drewN m) HV.out HK2.out HK.out).mono ?_; rintro e w2 ⟨rfl, n, rfl⟩)
              go_roundw
              case rel => exact ⟨k2 + 1, _, _, by omega, by go_num, rfl, (by first | rfl | exact World.drewN_drewN _ _ _), (by rw [HS.out, ← Bool.and_assoc, ← hy.out, HZ2.out]; rfl : _ = _)⟩
              case measure => simp [intOf]; omega
        · obtain rfl : k2 = ms.length := by omega
          have HFT := Lib.hid (firstB_take (k := k) (fun a => leftB bs a && clearB ms bs a (allL ms.length)))
          cases y with
          | false =>
            go_wp2
            go_roundw
            case rel => exact ⟨k + 1, by omega, by go_num, ⟨ys, hown, by omega, (by rw [HFT.out, ← hy.out, hys.out]; simp : ys = _)⟩, below_drewN hB m⟩
            case measure => simp [intOf]; omega
          | true =>
            go_wp2_with (at_builtin; refine wp_app_int (wr.drewN m) rfl (.tmp 40) (.tmp 42) rfl w.heap.size _ ys.length ys _ rfl (show (wr.drewN m).ownsRow _ _ _ _ _ _ from hown) rfl (by omega) hz ?_; intro v2 w2 hown2 hB2)
            go_roundw
            case rel => exact ⟨k + 1, by omega, by go_num, ⟨ys ++ [(k : Int)], by rw [List.length_append]; exact hown2, by simp; omega, (by rw [HFT.out, ← hy.out, hys.out]; rfl : ys ++ [(k : Int)] = _)⟩, (below_drewN hB m).trans hB2⟩
            case measure => simp [intOf]; omega
    · obtain rfl : k = ms.length := by omega
      go_wp2
      go_ret
      obtain ⟨A', c', rfl, _⟩ := own_ints hown
      exact ⟨A', c', ys, rfl, hown, hB, hys.out⟩

theorem TabO.turn {w w' : World} {base base' sz n : Nat} {e : TypeId} {v u : Value} {T : List (List Int)} {xs : List Value} (h : TabO w base v T) (row : w.ownsRow base' e sz u n xs) (h1 : e ≠ 3) (h2 : e ≠ 28)
    (hfar : ∀ g, g < w.heap.size → u.ownBlock ≠ some g → w'.heap[g]? = w.heap[g]?) : TabO w' base v T := by
  obtain ⟨svs, r, hl⟩ := h
  refine ⟨svs, own_turn r hfar (own_kind r row h2), fun k zs hz => ?_⟩
  obtain ⟨B, c, h3, h4⟩ := hl k zs hz
  exact ⟨B, c, h3, own_turn h4 hfar (own_kind h4 row h1)⟩
theorem store_far (w : World) (g0 j : Nat) (n c : Nat) (u : Value) : ∀ g, g < w.heap.size → (Value.slice (some ⟨g0, 0, none⟩) n c).ownBlock ≠ some g → (w.setCell ⟨g0, j, none⟩ u).heap[g]? = w.heap[g]? := by
  intro g _ hg
  have hne : g ≠ g0 := fun e => by subst e; exact hg rfl
  exact Go.Deep.blk_setCell_other w ⟨g0, j, none⟩ u g hne
theorem bool_int : (4 : TypeId) ≠ 3 := by decide
theorem bool_slice : (4 : TypeId) ≠ 28 := by decide
/-- What the reference's Layers has: its own bools, and the table. -/
structure LaS (w : World) (base g0 n : Nat) (bs : List Bool) (v : Value) (T : List (List Int)) : Prop where
  row : w.ownsRow base 4 1 (.slice (some ⟨g0, 0, none⟩) n n) n (bs.map Value.bool)
  tab : TabO w base v T
theorem LaS.below {w w' : World} {base g0 n : Nat} {bs : List Bool} {v : Value} {T : List (List Int)} (h : LaS w base g0 n bs v T) (hb : Below w.heap.size w w') : LaS w' base g0 n bs v T := ⟨own_below h.row hb, h.tab.below hb⟩

set_option maxRecDepth 100000 in
set_option maxHeartbeats 2000000 in
theorem refLayers_yes (ms : List (Int × Int)) (A : Option Addr) (c : Nat) (w : World) (h : Clk w A c ms) (hv : vhB ms = true) :
    Calls Try.prog 34 #[.slice A ms.length c] w fun e w' => ∃ (A' : Option Addr) (c' : Nat) (T : List (List Int)), e = .returned (.tuple #[.slice A' T.length c', .int .i64 0]) ∧ TOut w' A' c' T ∧ Below w.heap.size w w' ∧ Hid (T = layersL ms) := by
  obtain ⟨hn1, hn2⟩ := vh_parts hv
  have H := Lib.hid h
  have HV := Lib.hid hv
  clear h hv
  go_enter Try.func34, Try.ntmps34
  go_wp2_with (first
    | (go_at_call 22; refine (refValid_any ms A c _ H.out.marks H.out.len).mono ?_; rintro e w1 ⟨he, n1, rfl⟩; rw [HV.out] at he; subst he)
    | (go_at_call 68; refine (refAll_own ms.length A c _ (by omega)).mono ?_; rintro e w2 ⟨rfl, ho2, hB2⟩; have hW2 : Below w.heap.size w w2 := Below.trans (below_drewN (Below.refl _ _) n1) (hB2.mono (Nat.le_refl _)); have hS2 : LaS w2 w.heap.size w.heap.size ms.length (List.replicate ms.length true) (.slice none 0 0) [] := ⟨own_base2 ho2 (Nat.le_refl _), TabO.nil_ _ _⟩; clear ho2 hB2))
  have HS2 := Lib.hid hS2
  have HW2 := Lib.hid hW2
  clear hS2 hW2
  go_loopw [5, 6] (fun v nn wr => ∃ (T : List (List Int)) (bs : List Bool) (m told : Nat), nn = .int .i64 told ∧ bs.length = ms.length ∧ told + (leftL ms.length bs).length = ms.length ∧ T.length ≤ told ∧ Hid (LaS wr w.heap.size w.heap.size ms.length bs v T) ∧ Hid (Below w.heap.size w wr) ∧ Hid ((leftL ms.length bs).length ≤ m ∧ T ++ layR ms m (leftL ms.length bs) = layersL ms)) (fun _ nn _ => ms.length - (intOf nn).toNat)
  case atStart => exact ⟨[], List.replicate ms.length true, ms.length, 0, rfl, by simp, by rw [left_all, allL_len]; omega, Nat.le_refl _, HS2, HW2, Lib.hid ⟨by rw [left_all, allL_len]; exact Nat.le_refl _, by rw [left_all]; rfl⟩⟩
  case round =>
    clear HS2 HW2
    obtain ⟨T, bs, m, told, rfl, hbl, htl, hTl, HS, HB, HR⟩ := hrel
    rename World => wr
    by_cases hlt : told < ms.length
    · have hne : leftL ms.length bs ≠ [] := by intro e; rw [e] at htl; simp at htl; omega
      have HRL := Lib.hid (rest_lt (ms := ms) hne)
      have HST := Lib.hid (lay_step (ms := ms) hne HR.out.1)
      obtain ⟨A0, c0, hsl, hBo⟩ := own_bools HS.out.row
      rw [hbl] at hsl
      have hAc : A0 = some ⟨w.heap.size, 0, none⟩ ∧ c0 = ms.length := by injection hsl with h1 _ h2; exact ⟨h1.symm, h2.symm⟩
      obtain ⟨rfl, rfl⟩ := hAc
      clear hsl
      have hcon := refFirstB_own ms A c bs (some ⟨w.heap.size, 0, none⟩) ms.length wr (H.out.marks.below HB.out) HV.out hBo hbl
      rw [hbl] at hcon
      have HF := Lib.hid hcon
      have HBL := Lib.hid hbl
      clear hcon hBo hne
      go_wp2_with (go_at_call 67; refine HF.out.mono ?_; rintro e w3 ⟨X, cx, l, rfl, ho3, hB3, hy3⟩)
      have HY : Hid (l = firstOfL ms (leftL ms.length bs)) := Lib.hid (by rw [hy3.out, firstB_left])
      have HLR : Hid ((leftL ms.length (clrB bs l)).length + l.length = (leftL ms.length bs).length ∧ leftL ms.length (clrB bs l) = (leftL ms.length bs).filter (fun a => !(firstOfL ms (leftL ms.length bs)).contains a)) := by
        have h0 : ∀ a ∈ l, 0 ≤ a := fun a ha => by rw [HY.out] at ha; exact (left_mem (List.mem_filter.1 ha).1).1
        refine Lib.hid ⟨?_, by rw [left_clr h0, HY.out]⟩
        rw [left_clr h0, HY.out]
        exact len_rest _ _
      have HIN : Hid (∀ a ∈ l, 0 ≤ a ∧ a < ms.length) := Lib.hid fun a ha => by rw [HY.out] at ha; exact left_mem (List.mem_filter.1 ha).1
      have hll : l.length ≤ ms.length := by have := HLR.out.1; omega
      have hl1 : 1 ≤ l.length := by have := HLR.out.1; have h2 := HRL.out; rw [← HLR.out.2] at h2; omega
      have HS3 := Lib.hid (HS.out.below hB3)
      have HO3 : Hid (OwnI w3 w.heap.size X cx l) := Lib.hid (own_base2 ho3 HB.out.size)
      have HB3 := Lib.hid (below_step HB.out hB3)
      clear ho3 hB3 hy3 HF HS HB
      go_loopw [8] (fun i wr2 => ∃ k : Nat, k ≤ l.length ∧ i = .int .i64 k ∧ Hid (LaS wr2 w.heap.size w.heap.size ms.length (clrB bs (l.take k)) u5 T) ∧ Hid (OwnI wr2 w.heap.size X cx l) ∧ Hid (Below w.heap.size w wr2)) (fun i _ => l.length - (intOf i).toNat)
      case atStart => exact ⟨0, Nat.zero_le _, rfl, HS3, HO3, HB3⟩
      case round =>
        clear HS3 HO3 HB3
        obtain ⟨k, hk, rfl, HS, HO, HB⟩ := hrel
        rename World => wr2
        by_cases hlt2 : k < l.length
        · obtain ⟨ad, z, rfl, hbk, hz, f1⟩ := HO.out.out.ints.get hlt2
          obtain ⟨hz0, hz1⟩ := HIN.out z (List.mem_of_getElem? hz.out)
          obtain ⟨j, rfl⟩ := Int.eq_ofNat_of_zero_le hz0
          have hj : j < ms.length := by omega
          obtain ⟨z2, hz2⟩ : ∃ z, (clrB bs (l.take k))[j]? = some z := ⟨_, List.getElem?_eq_getElem (by rw [clrB_len, HBL.out]; exact hj)⟩
          have hc := HS.out.row.cellAt j (by omega)
          rw [List.getElem?_map, hz2, Option.map_some] at hc
          clear hz2
          have hf := HS.out.row.frozenAt j
          have hst := Lib.hid (HS.out.row.stored j (Value.bool false))
          have HZ := Lib.hid hz.out
          have HT2 := Lib.hid (HS.out.tab.turn HS.out.row bool_int bool_slice (store_far wr2 w.heap.size j ms.length ms.length (.bool false)))
          have HO2 : Hid (OwnI (wr2.setCell ⟨w.heap.size, j, none⟩ (.bool false)) w.heap.size (some ad) cx l) := Lib.hid (own_turn HO.out (store_far wr2 w.heap.size j ms.length ms.length (.bool false)) (own_kind HO.out HS.out.row bool_int))
          clear hz hz0 hz1
          go_wp2
          go_roundw
          case rel =>
            refine ⟨k + 1, by omega, by go_num, Lib.hid ⟨?_, HT2.out⟩, HO2, Lib.hid (HB.out.setCell (Nat.le_refl _) _)⟩
            rw [take_snoc HZ.out, clrB_snoc, List.map_set]
            exact hst.out.1
          case measure => simp [intOf]; omega
        · obtain rfl : k = l.length := by omega
          have HS5 := HS
          go_wp2_with (at_builtin; refine wp_app_list wr2 rfl (.tmp 33) (.tmp 35) rfl w.heap.size _ _ T X cx l rfl rfl HS.out.tab HO.out rfl (by omega) HB.out.size ?_; intro v4 w4 hT4 hB4 hk4 hf4)
          have hrow4 : w4.ownsRow w.heap.size 4 1 (.slice (some ⟨w.heap.size, 0, none⟩) ms.length ms.length) ms.length ((clrB bs (l.take l.length)).map Value.bool) := by
            obtain ⟨svs, r, _⟩ := HS5.out.tab
            exact own_turn HS5.out.row hf4 (own_kind HS5.out.row r (Ne.symm bool_slice))
          have HR4 := Lib.hid hrow4
          have HT4 := Lib.hid hT4
          have HB4 := Lib.hid (HB.out.trans hB4)
          clear hrow4 hT4 hB4 hk4 hf4
          go_roundw
          case rel =>
            obtain ⟨q, hq, hst⟩ := HST.out
            refine ⟨T ++ [l], clrB bs l, q, told + l.length, by go_num, by rw [clrB_len]; exact HBL.out, by have := HLR.out.1; omega, by simp; omega, Lib.hid ⟨?_, HT4.out⟩, HB4, Lib.hid ⟨?_, ?_⟩⟩
            · have := HR4.out
              rw [List.take_length] at this
              exact this
            · have h1 := HRL.out
              rw [← HLR.out.2] at h1
              have := HR.out.1
              omega
            · rw [← HR.out.2, hst, HLR.out.2, HY.out, List.append_assoc]; rfl
          case measure => simp [intOf]; omega
    · have hz : leftL ms.length bs = [] := List.eq_nil_of_length_eq_zero (by omega)
      have HZ : Hid (T = layersL ms) := by
        have := HR.out.2
        rw [hz, lay_nil, List.append_nil] at this
        exact this
      obtain rfl : told = ms.length := by omega
      go_wp2
      go_ret2
      obtain ⟨A', c', hvv, hO⟩ := HS.out.tab.out
      subst hvv
      exact ⟨A', c', T, rfl, hO, HB.out, HZ⟩
end Go.Proofs.Ytmlkdjcjfkfdiaa
