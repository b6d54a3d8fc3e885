/-
  Contract: lengths (firnref02).
-/
import Derived.Test.YticokhiehejljaaNumRounds
import Derived.Test.YticokhiehejljaaRefLayer
namespace Go.Proofs.Yticokhiehejljaa
open Go.RowKit Go.Shelf

theorem made_ints (n : Nat) : (madeCells (Value.int .i64 0).cells (n * 1)).toList = (List.replicate n (0 : Int)).map (Value.int .i64) := by
  rw [List.map_replicate, List.eq_replicate_iff]
  refine ⟨by simp [madeCells], fun b hb => ?_⟩
  simp only [madeCells, Value.cells] at hb
  simp at hb
  obtain ⟨i, _, rfl⟩ := hb
  simp [Nat.mod_one]
theorem getD_row {xs : List Int} {j : Nat} (h : j < xs.length) : (xs.map (Value.int .i64))[j]? = some (.int .i64 (xs.getD j 0)) := by
  rw [List.getElem?_map, List.getElem?_eq_getElem h, List.getD_eq_getElem?_getD, List.getElem?_eq_getElem h]; rfl
theorem set_set_ {xs : List Int} {k : Nat} {u v : Int} : (xs.set k u).set k v = xs.set k v := by
  refine List.ext_getElem? fun i => ?_
  simp only [List.getElem?_set, List.length_set]
  split <;> rfl

set_option maxRecDepth 100000 in
set_option maxHeartbeats 1600000 in
theorem refLengths_any (ms : List (Int × Int)) (A : Option Addr) (c : Nat) (w : World) (h : Marks w A ms) (hv : vhB ms = true) :
    Calls Try.prog 70 #[.slice A ms.length c] w fun e w' => ∃ (A' : Option Addr) (c' : Nat) (ys : List Int), e = .returned (.slice A' ys.length c') ∧ Out w' A' c' ys ∧ Below w.heap.size w w' ∧ Hid (ys = (allL ms.length).map (numI ms max)) := by
  have H := Lib.hid h
  obtain ⟨hn1, hn2⟩ := vh_parts hv
  have HV := Lib.hid hv
  obtain ⟨i0, hi0, hz0, hz1, hz2⟩ := info_parts int_info
  have HZ2 := Lib.hid hz2
  clear hz2 h hv
  go_enter Try.func70, Try.ntmps70
  go_wp2_with (at_make; refine wpList_make_full _ rfl _ _ 28 rfl w.heap.size 3 i0 (.int .i64 0) 1 Try.underlying28 hi0 hz0 hz1 _ _ _ _ ms.length rfl rfl rfl rfl (by rw [HZ2.out]; omega) (by unfold maxLen; omega) (Nat.le_refl _) ?_; intro w1 hown1 hg1)
  have hB1 : Below w.heap.size w w1 := (Below.refl _ _).grown hg1 (Nat.le_refl _) (by simp)
  rw [made_ints] at hown1
  clear hg1 HZ2 hz0 hz1 hi0
  go_loopw [4] (fun i wr => ∃ (r : Nat) (xs : List Int), r ≤ ms.length ∧ i = .int .i64 r ∧ wr.ownsRow w.heap.size 3 1 (.slice (some ⟨w.heap.size, 0, none⟩) ms.length ms.length) ms.length (xs.map (Value.int .i64)) ∧ Below w.heap.size w wr ∧ Hid (InvK ms max r 0 xs)) (fun i _ => ms.length - (intOf i).toNat)
  case atStart => exact ⟨0, _, Nat.zero_le _, rfl, hown1, hB1, invK_start ms small_max hn2⟩
  case round =>
    clear hown1 hB1
    obtain ⟨r, xs, hr, rfl, hown, hB, hI⟩ := hrel
    by_cases hlr : r < ms.length
    · go_wp2
      go_loopw [5] (fun i wr2 => ∃ (k : Nat) (xs : List Int), k ≤ ms.length ∧ i = .int .i64 k ∧ wr2.ownsRow w.heap.size 3 1 (.slice (some ⟨w.heap.size, 0, none⟩) ms.length ms.length) ms.length (xs.map (Value.int .i64)) ∧ Below w.heap.size w wr2 ∧ Hid (InvK ms max r k xs)) (fun i _ => ms.length - (intOf i).toNat)
      case atStart => exact ⟨0, xs, Nat.zero_le _, rfl, hown, hB, hI⟩
      case round =>
        clear hown hB hI
        clear xs
        obtain ⟨k, xs, hk, rfl, hown, hB, hI⟩ := hrel
        by_cases hlt : k < ms.length
        · have HK := Lib.hid (show hasB ms (k : Int) = true by simp [hasB]; omega)
          have hxl := hI.out.len
          have hc := hown.cellAt k (by omega)
          rw [getD_row (by omega)] at hc
          have hf := hown.frozenAt k
          have HO := Lib.hid hown
          have HXL := Lib.hid hxl
          clear hown hxl
          go_wp2
          go_loopw [6] (fun i wr3 => ∃ (j : Nat) (z : Int), j ≤ ms.length ∧ i = .int .i64 j ∧ wr3.ownsRow w.heap.size 3 1 (.slice (some ⟨w.heap.size, 0, none⟩) ms.length ms.length) ms.length ((xs.set k (1 + z)).map (Value.int .i64)) ∧ Below w.heap.size w wr3 ∧ Hid (z = jX max xs (aftB ms k j))) (fun i _ => ms.length - (intOf i).toNat)
          case atStart => exact ⟨0, 0, Nat.zero_le _, rfl, by rw [show (1 : Int) + 0 = 1 from rfl, List.map_set]; exact (World.ownsRow.stored HO.out k _).1, hB.setCell (Nat.le_refl _) _, rfl⟩
          case round =>
            clear hB hc hf
            obtain ⟨j, z, hj, rfl, hown, hB, hz⟩ := hrel
            by_cases hlt2 : j < ms.length
            · have HJ := Lib.hid (show hasB ms (j : Int) = true by simp [hasB]; omega)
              have HM := Lib.hid (H.out.below hB)
              cases hbf : befI ms k j with
              | false =>
                have HF := Lib.hid hbf
                have HA := Lib.hid (aftB_no hbf)
                clear hbf
                go_wp2_with (go_at_call 61; refine (refBefore_is ms A c k j false _ HM.out HV.out HK.out HJ.out HF.out).mono ?_; rintro e w2 ⟨rfl, n2, rfl⟩)
                go_roundw
                case rel => exact ⟨j + 1, z, by omega, by go_num, own_drewM hown _, below_drewN hB _, by rw [HA.out]; exact hz.out⟩
                case measure => simp [intOf]; omega
              | true =>
                have HF := Lib.hid hbf
                have HA := Lib.hid (aftB_yes hbf)
                have hjk : j ≠ k := fun e => by
                  have h0 := hbf
                  rw [e] at h0
                  rw [show befI ms (k : Int) (k : Int) = false from bef_irr _] at h0
                  cases h0
                clear hbf
                have hsl : (xs.set k (1 + z)).length = ms.length := by rw [List.length_set]; exact HXL.out
                have hck := hown.cellAt k (by omega)
                rw [getD_row (by omega), set_getD (by rw [HXL.out]; exact hlt), if_pos rfl] at hck
                have hcj := hown.cellAt j (by omega)
                rw [getD_row (by omega), set_getD (by rw [HXL.out]; exact hlt), if_neg hjk] at hcj
                have hfk := hown.frozenAt k
                have hsm := invK_small small_max hn2 hI.out
                have hyb := getD_box hsm (by decide) j
                have hzb := jX_box small_max hsm (by decide) (l := aftB ms k j) (Nat.le_trans (aftB_len _ _ _) (by omega))
                rw [← hz.out] at hzb
                have hpw : (15 ^ 14 : Int) = 29192926025390625 := by decide
                rw [hpw] at hyb hzb
                have hzn : z ≤ 408700964355468750 := by omega
                have hzp := hzb.1
                generalize hy : xs.getD j 0 = y at hcj hyb
                have HY := Lib.hid hy
                have HSL := Lib.hid hsl
                have HO3 := Lib.hid hown
                have HJK := Lib.hid hjk
                have HMX := Lib.hid (show max (1 + z) (y + 1) = 1 + max z y by omega)
                have HST := Lib.hid (jX_app max xs (aftB ms k j) (j : Int))
                clear hy hsl hown hjk hpw hsm hzb
                rcases Int.lt_or_le (1 + z) (y + 1) with hcmp | hcmp
                · have e1 := Lib.hid (show max z y = y by omega)
                  go_wp2_with (go_at_call 61; refine (refBefore_is ms A c k j true _ HM.out HV.out HK.out HJ.out HF.out).mono ?_; rintro e w2 ⟨rfl, n2, rfl⟩)
                  go_region
                  go_wp2
                  go_roundw
                  case rel => exact ⟨j + 1, y, by omega, by go_num, by rw [← set_set_ (u := 1 + z), List.map_set (f := Value.int .i64), Int.add_comm 1 y]; exact (World.ownsRow.stored (own_drewM HO3.out _) k _).1, (below_drewN hB _).setCell (Nat.le_refl _) _, by rw [HA.out, HST.out, Int.toNat_natCast, HY.out, ← hz.out, e1.out]; exact rfl⟩
                  case measure => simp [intOf]; omega
                · have e1 := Lib.hid (show max z y = z by omega)
                  go_wp2_with (go_at_call 61; refine (refBefore_is ms A c k j true _ HM.out HV.out HK.out HJ.out HF.out).mono ?_; rintro e w2 ⟨rfl, n2, rfl⟩)
                  go_region
                  go_wp2
                  go_roundw
                  case rel => exact ⟨j + 1, z, by omega, by go_num, by rw [← set_set_ (u := 1 + z), List.map_set (f := Value.int .i64)]; exact (World.ownsRow.stored (own_drewM HO3.out _) k _).1, (below_drewN hB _).setCell (Nat.le_refl _) _, by rw [HA.out, HST.out, Int.toNat_natCast, HY.out, ← hz.out, e1.out]; exact rfl⟩
                  case measure => simp [intOf]; omega
            · obtain rfl : j = ms.length := by omega
              have HN := Lib.hid (invK_step mono_max hlt hI.out)
              go_wp2
              go_roundw
              case rel => exact ⟨k + 1, _, by omega, by go_num, hown, hB, by rw [hz.out, aftB_all]; exact HN.out⟩
              case measure => simp [intOf]; omega
        · obtain rfl : k = ms.length := by omega
          have HN := Lib.hid (invK_next hI.out)
          go_wp2
          go_roundw
          case rel => exact ⟨r + 1, xs, by omega, by go_num, hown, hB, HN.out⟩
          case measure => simp [intOf]; omega
    · obtain rfl : r = ms.length := by omega
      have HN := Lib.hid (invK_end hI.out)
      go_wp2
      go_ret
      obtain ⟨A', c', e, hO⟩ := own_ints hown
      have hxl : xs.length = ms.length := hI.out.len
      rw [hxl] at e
      cases e
      exact ⟨_, _, xs, by rw [hxl]; rfl, hO, hB, HN.out⟩
end Go.Proofs.Yticokhiehejljaa
