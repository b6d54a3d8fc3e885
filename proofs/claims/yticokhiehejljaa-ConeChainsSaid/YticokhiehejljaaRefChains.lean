/-
  Contract: Chains (firnref02).
-/
import Derived.Test.YticokhiehejljaaRefLengths
import Derived.Test.YticokhiehejljaaChains
namespace Go.Proofs.Yticokhiehejljaa
open Go.RowKit Go.Shelf

set_option maxRecDepth 100000 in
set_option maxHeartbeats 2000000 in
theorem refChainsV_any (ms : List (Int × Int)) (A : Option Addr) (c : Nat) (w : World) (h : Clk w A c ms) (hv : vhB ms = true) :
    Calls Try.prog 31 #[.slice A ms.length c] w fun e w' => ∃ (z E : Int), e = .returned (.tuple #[.int .i64 z, .int .i64 E]) ∧ Below w.heap.size w w' ∧ Hid (z = chainsF ms ∧ E = hitsE ms) := by
  have H := Lib.hid h
  obtain ⟨hn1, hn2⟩ := vh_parts hv
  have HV := Lib.hid hv
  obtain ⟨i0, hi0, hz0, hz1, hz2⟩ := info_parts int_info
  have HZ2 := Lib.hid hz2
  clear hz2 h hv
  go_enter Try.func31, Try.ntmps31
  go_wp2_with (first
    | (go_at_call 22; refine (refValid_any ms A c _ H.out.marks H.out.len).mono ?_; rintro e w1 ⟨he, n1, rfl⟩; rw [HV.out] at he; subst he)
    | (at_make; refine wpList_make_full _ rfl _ _ 28 rfl w.heap.size 3 i0 (.int .i64 0) 1 Try.underlying28 hi0 hz0 hz1 _ _ _ _ ms.length rfl rfl rfl rfl (by rw [HZ2.out]; omega) (by unfold maxLen; omega) (Nat.le_refl _) ?_; intro w1 hown1 hg1))
  have hB1 : Below w.heap.size w w1 := (below_drewN (Below.refl _ _) _).grown hg1 (Nat.le_refl _) (by simp)
  rw [made_ints] at hown1
  clear hg1 HZ2 hz0 hz1 hi0
  go_loopw [5] (fun i wr => ∃ (r : Nat) (xs : List Int), r ≤ ms.length ∧ i = .int .i64 r ∧ wr.ownsRow w.heap.size 3 1 (.slice (some ⟨w.heap.size, 0, none⟩) ms.length ms.length) ms.length (xs.map (Value.int .i64)) ∧ Below w.heap.size w wr ∧ Hid (InvK ms (fun a b => a + b) r 0 xs)) (fun i _ => ms.length - (intOf i).toNat)
  case atStart => exact ⟨0, _, Nat.zero_le _, rfl, hown1, hB1, invK_start ms small_add hn2⟩
  case round =>
    clear hown1 hB1
    obtain ⟨r, xs, hr, rfl, hown, hB, hI⟩ := hrel
    by_cases hlr : r < ms.length
    · go_wp2
      go_loopw [6] (fun i wr2 => ∃ (k : Nat) (xs : List Int), k ≤ ms.length ∧ i = .int .i64 k ∧ wr2.ownsRow w.heap.size 3 1 (.slice (some ⟨w.heap.size, 0, none⟩) ms.length ms.length) ms.length (xs.map (Value.int .i64)) ∧ Below w.heap.size w wr2 ∧ Hid (InvK ms (fun a b => a + b) r k xs)) (fun i _ => ms.length - (intOf i).toNat)
      case atStart => exact ⟨0, xs, Nat.zero_le _, rfl, hown, hB, hI⟩
      case round =>
        clear hown hB hI
        clear xs
        obtain ⟨k, xs, hk, rfl, hown, hB, hI⟩ := hrel
        by_cases hlt : k < ms.length
        · have HK := Lib.hid (show hasB ms (k : Int) = true by simp [hasB]; omega)
          have hxl := hI.out.len
          have hc := hown.cellAt k (by omega)
          rw [getD_row (by omega)] at hc
          have hf := hown.frozenAt k
          have HO := Lib.hid hown
          have HXL := Lib.hid hxl
          clear hown hxl
          go_wp2
          go_loopw [7] (fun i wr3 => ∃ (j : Nat) (z : Int), j ≤ ms.length ∧ i = .int .i64 j ∧ wr3.ownsRow w.heap.size 3 1 (.slice (some ⟨w.heap.size, 0, none⟩) ms.length ms.length) ms.length ((xs.set k (1 + z)).map (Value.int .i64)) ∧ Below w.heap.size w wr3 ∧ Hid (z = jX (fun a b => a + b) xs (aftB ms k j))) (fun i _ => ms.length - (intOf i).toNat)
          case atStart => exact ⟨0, 0, Nat.zero_le _, rfl, by rw [show (1 : Int) + 0 = 1 from rfl, List.map_set]; exact (World.ownsRow.stored HO.out k _).1, hB.setCell (Nat.le_refl _) _, rfl⟩
          case round =>
            clear hB hc hf
            obtain ⟨j, z, hj, rfl, hown, hB, hz⟩ := hrel
            by_cases hlt2 : j < ms.length
            · have HJ := Lib.hid (show hasB ms (j : Int) = true by simp [hasB]; omega)
              have HM := Lib.hid (H.out.marks.below hB)
              cases hbf : befI ms k j with
              | false =>
                have HF := Lib.hid hbf
                have HA := Lib.hid (aftB_no hbf)
                clear hbf
                go_wp2_with (go_at_call 61; refine (refBefore_is ms A c k j false _ HM.out HV.out HK.out HJ.out HF.out).mono ?_; rintro e w2 ⟨rfl, n2, rfl⟩)
                go_roundw
                case rel => exact ⟨j + 1, z, by omega, by go_num, own_drewM hown _, below_drewN hB _, by rw [HA.out]; exact hz.out⟩
                case measure => simp [intOf]; omega
              | true =>
                have HF := Lib.hid hbf
                have HA := Lib.hid (aftB_yes hbf)
                have hjk : j ≠ k := fun e => by
                  have h0 := hbf
                  rw [e] at h0
                  rw [show befI ms (k : Int) (k : Int) = false from bef_irr _] at h0
                  cases h0
                clear hbf
                have hsl : (xs.set k (1 + z)).length = ms.length := by rw [List.length_set]; exact HXL.out
                have hck := hown.cellAt k (by omega)
                rw [getD_row (by omega), set_getD (by rw [HXL.out]; exact hlt), if_pos rfl] at hck
                have hcj := hown.cellAt j (by omega)
                rw [getD_row (by omega), set_getD (by rw [HXL.out]; exact hlt), if_neg hjk] at hcj
                have hfk := hown.frozenAt k
                have hsm := invK_small small_add hn2 hI.out
                have hyb := getD_box hsm (by decide) j
                have hzb := jX_box small_add hsm (by decide) (l := aftB ms k j) (Nat.le_trans (aftB_len _ _ _) (by omega))
                rw [← hz.out] at hzb
                have hpw : (15 ^ 14 : Int) = 29192926025390625 := by decide
                rw [hpw] at hyb hzb
                have hzn : z ≤ 408700964355468750 := by omega
                have hzp := hzb.1
                generalize hy : xs.getD j 0 = y at hcj hyb
                have HY := Lib.hid hy
                have HSL := Lib.hid hsl
                have HO3 := Lib.hid hown
                have HJK := Lib.hid hjk
                have HST := Lib.hid (jX_app (fun a b => a + b) xs (aftB ms k j) (j : Int))
                clear hy hsl hown hjk hpw hsm hzb
                have s2 : (1 : Int) + z + y = 1 + (z + y) := by omega
                have HS2 := Lib.hid s2
                clear s2
                go_wp2_with (go_at_call 61; refine (refBefore_is ms A c k j true _ HM.out HV.out HK.out HJ.out HF.out).mono ?_; rintro e w2 ⟨rfl, n2, rfl⟩)
                go_region
                go_wp2
                go_roundw
                case rel => exact ⟨j + 1, z + y, by omega, by go_num, by rw [← set_set_ (u := 1 + z), List.map_set (f := Value.int .i64), ← HS2.out]; exact (World.ownsRow.stored (own_drewM HO3.out _) k _).1, (below_drewN hB _).setCell (Nat.le_refl _) _, by rw [HA.out, HST.out, Int.toNat_natCast, HY.out, ← hz.out]; exact rfl⟩
                case measure => simp [intOf]; omega
            · obtain rfl : j = ms.length := by omega
              have HN := Lib.hid (invK_step mono_add hlt hI.out)
              go_wp2
              go_roundw
              case rel => exact ⟨k + 1, _, by omega, by go_num, hown, hB, by rw [hz.out, aftB_all]; exact HN.out⟩
              case measure => simp [intOf]; omega
        · obtain rfl : k = ms.length := by omega
          have HN := Lib.hid (invK_next hI.out)
          go_wp2
          go_roundw
          case rel => exact ⟨r + 1, xs, by omega, by go_num, hown, hB, HN.out⟩
          case measure => simp [intOf]; omega
    · obtain rfl : r = ms.length := by omega
      have HN := Lib.hid (invK_end hI.out)
      have hxl : xs.length = ms.length := hI.out.len
      have hsm := Lib.hid (invK_small small_add hn2 hI.out)
      have HO := Lib.hid hown
      have HXL := Lib.hid hxl
      obtain ⟨wo, rfl⟩ : ∃ wo : World, wo = wr := ⟨_, rfl⟩
      clear hown hxl hI
      go_wp2
      go_loopw [8, 9] (fun s i wr => ∃ (k : Nat) (z : Int), k ≤ ms.length ∧ i = .int .i64 k ∧ s = .int .i64 z ∧ wr = wo ∧ (0 ≤ z ∧ z ≤ 408700964355468750) ∧ Hid (z = (xs.take k).foldl addJ 0)) (fun _ i _ => ms.length - (intOf i).toNat)
      case atStart => exact ⟨0, 0, Nat.zero_le _, rfl, rfl, rfl, by omega, rfl⟩
      case round =>
        obtain ⟨k, z, hk, rfl, rfl, rfl, hzb, hz⟩ := hrel
        by_cases hlt : k < ms.length
        · have hc := HO.out.cellAt k (by omega)
          rw [getD_row (by rw [HXL.out]; exact hlt)] at hc
          have hkx : xs[k]? = some (xs.getD k 0) := by
            have := HXL.out
            rw [List.getD_eq_getElem?_getD, List.getElem?_eq_getElem (by omega)]; rfl
          have e : z + xs.getD k 0 = (xs.take (k + 1)).foldl addJ 0 := by rw [fold_take hkx, ← hz.out]
          have hb3 : 0 ≤ z + xs.getD k 0 ∧ z + xs.getD k 0 ≤ 408700964355468750 := by
            have h1 := fold_small small_addJ (15 ^ 14) (by decide) (xs.take (k + 1)) 0 (Int.le_refl _) fun x hx => hsm.out x (List.mem_of_mem_take hx)
            have h2 : (((xs.take (k + 1)).length : Nat) : Int) * 15 ^ 14 ≤ 14 * 15 ^ 14 := Int.mul_le_mul_of_nonneg_right (by rw [List.length_take]; omega) (by decide)
            have h3 : (14 * 15 ^ 14 : Int) = 408700964355468750 := by decide
            rw [← e] at h1
            omega
          have HE := Lib.hid e
          generalize hy : xs.getD k 0 = y at hc hb3 HE
          clear e hkx hy
          go_wp2
          go_roundw
          case rel => exact ⟨k + 1, z + y, by omega, by go_num, by go_num, (by first | rfl | trivial), hb3, HE.out⟩
          case measure => simp [intOf]; omega
        · obtain rfl : k = ms.length := by omega
          go_wp2
          go_ret2
          exact ⟨z, _, rfl, hB, by rw [hz.out, chainsF, HV.out, List.take_of_length_le (by rw [HXL.out]; exact Nat.le_refl _), HN.out]; rfl, (hitsE_yes HV.out).symm⟩

set_option maxRecDepth 100000 in
theorem refChains_any (ms : List (Int × Int)) (A : Option Addr) (c : Nat) (w : World) (h : Clk w A c ms) :
    Calls Try.prog 31 #[.slice A ms.length c] w fun e w' => ∃ (z E : Int), e = .returned (.tuple #[.int .i64 z, .int .i64 E]) ∧ Below w.heap.size w w' ∧ Hid (z = chainsF ms ∧ E = hitsE ms) := by
  cases hv : vhB ms with
  | true => exact refChainsV_any ms A c w h hv
  | false =>
    have HV := Lib.hid hv
    have H := Lib.hid h
    clear hv h
    go_enter Try.func31, Try.ntmps31
    go_wp2_with (go_at_call 22; refine (refValid_any ms A c _ H.out.marks H.out.len).mono ?_; rintro e w1 ⟨he, n1, rfl⟩; rw [HV.out] at he; subst he)
    go_ret2
    exact ⟨_, _, rfl, (by repeat (first | with_reducible exact Below.refl _ _ | with_reducible assumption | refine below_drewN ?_ _ | with_reducible refine Below.drew ?_ | (refine Below.setCell ?_ (by first | (simp; done) | (simp; omega) | omega) _) | (refine Below.alloc ?_ (by first | (simp; done) | (simp; omega) | omega) _))), by rw [chainsF, HV.out]; rfl, (hitsE_no HV.out).symm⟩
end Go.Proofs.Yticokhiehejljaa
