/-
  Contract: Layer (firnref02).
-/
import Derived.Test.YtmlkdjcjfkfdiaaMaskN
import Derived.Test.YtmlkdjcjfkfdiaaIsLayers
import Derived.Test.YtmlkdjcjfkfdiaaJoined
namespace Go.Proofs.Ytmlkdjcjfkfdiaa
open Go.RowKit Go.Shelf

theorem wrap64_nat (a : Nat) (h : a < 2 ^ 63) : wrap64 (a : Int) = a := by unfold wrap64; omega
theorem pow64 (n : Nat) (h : n < 63) : wrap64 (2 ^ n) = ((2 ^ n : Nat) : Int) := by
  have := wrap64_nat (2 ^ n) (Nat.pow_lt_pow_right (by omega) h)
  rw [← this]; simp
theorem pow64_sub (n : Nat) (h : n < 63) : wrap64 (wrap64 (2 ^ n) - 1) = ((2 ^ n - 1 : Nat) : Int) := by
  have h1 := Nat.pow_lt_pow_right (a := 2) (by omega) h
  have h0 := Nat.two_pow_pos n
  rw [pow64 n h, ← wrap64_nat (2 ^ n - 1) (by omega)]
  congr 1
  omega
theorem or_pow {ms : List (Int × Int)} {a : Int} {j : Nat} (hn : 0 < ms.length) (hn2 : ms.length ≤ 40) (hk : knowI ms a j = true) :
    bits .or .i64 (knowM ms a j : Int) (wrap64 (2 ^ (ms.length - 1 - j))) = (knowM ms a (j + 1) : Int) := by
  rw [pow64 _ (by omega), or_i64 _ _ (knowM_lt hn hn2) (Nat.pow_lt_pow_right (by omega) (by omega)), knowM_yes hk]
theorem own_drewM {w : World} {base : Nat} {e : TypeId} {size n : Nat} {v : Value} {xs : List Value} (h : w.ownsRow base e size v n xs) (m : Nat) : (w.drewN m).ownsRow base e size v n xs := h

set_option maxRecDepth 100000 in
set_option maxHeartbeats 1600000 in
theorem refLayerV_any (ms : List (Int × Int)) (A : Option Addr) (c : Nat) (w : World) (h : Clk w A c ms) (hv : vhB ms = true) :
    Calls Try.prog 39 #[.slice A ms.length c] w fun e w' => ∃ (A' : Option Addr) (c' : Nat) (ys : List Int) (E : Int), e = .returned (.tuple #[.slice A' ys.length c', .int .i64 E]) ∧ Out w' A' c' ys ∧ Below w.heap.size w w' ∧ Hid (ys = layerF ms ∧ E = hitsE ms) := by
  have H := Lib.hid h
  obtain ⟨hn1, hn2⟩ := vh_parts hv
  have HV := Lib.hid hv
  obtain ⟨i0, hi0, hz0, hz1, hz2⟩ := info_parts int_info
  have HZ2 := Lib.hid hz2
  clear hz2 h hv
  go_enter Try.func39, Try.ntmps39
  go_wp2_with (first
    | (go_at_call 22; refine (refValid_any ms A c _ H.out.marks H.out.len).mono ?_; rintro e w1 ⟨he, n1, rfl⟩; rw [HV.out] at he; subst he)
    | (at_make; refine wpList_make_full _ rfl _ _ 28 rfl w.heap.size 3 i0 (.int .i64 0) 1 Try.underlying28 hi0 hz0 hz1 _ _ _ _ ms.length rfl rfl rfl rfl (by rw [HZ2.out]; omega) (by unfold maxLen; omega) (Nat.le_refl _) ?_; intro w1 hown1 hg1))
  have hB1 : Below w.heap.size w w1 := (below_drewN (Below.refl _ _) _).grown hg1 (Nat.le_refl _) (by simp)
  rw [made_rowK] at hown1
  clear hg1 HZ2 hz0 hz1 hi0
  go_loopw [5] (fun i wr => ∃ k : Nat, k ≤ ms.length ∧ i = .int .i64 k ∧ wr.ownsRow w.heap.size 3 1 (.slice (some ⟨w.heap.size, 0, none⟩) ms.length ms.length) ms.length ((rowK ms k 0).map fun x : Nat => Value.int .i64 x) ∧ Below w.heap.size w wr) (fun i _ => ms.length - (intOf i).toNat)
  case atStart => exact ⟨0, Nat.zero_le _, rfl, hown1, hB1⟩
  case round =>
    clear hown1 hB1
    obtain ⟨k, hk, rfl, hown, hB⟩ := hrel
    by_cases hlt : k < ms.length
    · have HK := Lib.hid (show hasB ms (k : Int) = true by simp [hasB]; omega)
      go_wp2
      go_loopw [6] (fun i wr2 => ∃ j : Nat, j ≤ ms.length ∧ i = .int .i64 j ∧ wr2.ownsRow w.heap.size 3 1 (.slice (some ⟨w.heap.size, 0, none⟩) ms.length ms.length) ms.length ((rowK ms k j).map fun x : Nat => Value.int .i64 x) ∧ Below w.heap.size w wr2) (fun i _ => ms.length - (intOf i).toNat)
      case atStart => exact ⟨0, Nat.zero_le _, rfl, hown, hB⟩
      case round =>
        clear hown hB
        obtain ⟨j, hj, rfl, hown, hB⟩ := hrel
        by_cases hlt2 : j < ms.length
        · have HJ := Lib.hid (show hasB ms (j : Int) = true by simp [hasB]; omega)
          have HM := Lib.hid (H.out.marks.below hB)
          have hc := hown.cellAt k (by omega)
          rw [List.getElem?_map, rowK_get hlt, Option.map_some, entK_at] at hc
          have hf := hown.frozenAt k
          have HS := Lib.hid (rowK_set (ms := ms) (k := k) (j := j) hlt)
          have HO := Lib.hid hown
          clear hown
          cases hb1 : befI ms k j with
          | true =>
            have HB1 := Lib.hid hb1
            have HOR := Lib.hid (or_pow (ms := ms) (a := k) (j := j) (by omega) (by omega) (by rw [knowI, hb1]; rfl))
            clear hb1
            go_wp2_with (go_at_call 61; refine (refBefore_is ms A c k j true _ HM.out HV.out HK.out HJ.out HB1.out).mono ?_; rintro e w2 ⟨rfl, n2, rfl⟩)
            go_region
            go_wp2
            go_roundw
            case rel => exact ⟨j + 1, by omega, by go_num, by rw [← HS.out, List.map_set, ← HOR.out]; exact (World.ownsRow.stored (own_drewM HO.out _) k _).1, (below_drewN hB _).setCell (Nat.le_refl _) _⟩
            case measure => simp [intOf]; omega
          | false =>
            have HB1 := Lib.hid hb1
            cases hb2 : befI ms j k with
            | true =>
              have HB2 := Lib.hid hb2
              have HOR := Lib.hid (or_pow (ms := ms) (a := k) (j := j) (by omega) (by omega) (by rw [knowI, hb1, hb2]; rfl))
              clear hb1 hb2
              have TA := Lib.hid trivial
              go_wp2_with (first
                | (clear TA; go_at_call 61; refine (refBefore_is ms A c k j false _ HM.out HV.out HK.out HJ.out HB1.out).mono ?_; rintro e w2 ⟨rfl, n2, rfl⟩)
                | (go_at_call 61; refine (refBefore_is ms A c j k true _ (HM.out.drewN n2) HV.out HJ.out HK.out HB2.out).mono ?_; rintro e w3 ⟨rfl, n3, rfl⟩))
              go_region
              go_wp2
              go_roundw
              case rel => exact ⟨j + 1, by omega, by go_num, by rw [← HS.out, List.map_set, ← HOR.out]; exact (World.ownsRow.stored (own_drewM HO.out _) k _).1, (below_drewN hB _).setCell (Nat.le_refl _) _⟩
              case measure => simp [intOf]; omega
            | false =>
              have HB2 := Lib.hid hb2
              have HKE := Lib.hid (rowK_keep (ms := ms) (k := k) (j := j) (by rw [knowI, hb1, hb2]; rfl))
              clear hb1 hb2
              have TA := Lib.hid trivial
              go_wp2_with (first
                | (clear TA; go_at_call 61; refine (refBefore_is ms A c k j false _ HM.out HV.out HK.out HJ.out HB1.out).mono ?_; rintro e w2 ⟨rfl, n2, rfl⟩)
                | (go_at_call 61; refine (refBefore_is ms A c j k false _ (HM.out.drewN n2) HV.out HJ.out HK.out HB2.out).mono ?_; rintro e w3 ⟨rfl, n3, rfl⟩))
              go_roundw
              case rel => exact ⟨j + 1, by omega, by go_num, by rw [HKE.out]; exact own_drewM HO.out _, below_drewN hB _⟩
              case measure => simp [intOf]; omega
        · obtain rfl : j = ms.length := by omega
          rw [rowK_next] at hown
          go_wp2
          go_roundw
          case rel => exact ⟨k + 1, by omega, by go_num, hown, hB⟩
          case measure => simp [intOf]; omega
    · obtain rfl : k = ms.length := by omega
      have hp2 : 2 ^ ms.length ≤ 2 ^ 14 := Nat.pow_le_pow_right (by omega) hn2
      have hp0 := Nat.two_pow_pos ms.length
      have HPW := Lib.hid (pow64_sub ms.length (by omega))
      have HP := Lib.hid (And.intro hp2 hp0)
      have HO := Lib.hid hown
      clear hp2 hp0 hown
      go_wp2
      go_loopw [7, 8, 9] (fun b m s wr3 => ∃ bs mt st : Nat, b = .int .i64 bs ∧ m = .int .i64 mt ∧ s = .int .i64 st ∧ wr3 = wr ∧ st ≤ 16383 ∧ bs ≤ 16383 ∧ mt ≤ 14 ∧ Hid (st < 2 ^ ms.length ∧ BInv ms ms.length (st + 1) bs mt ∧ (0 < mt → st < bs))) (fun _ _ s _ => (intOf s).toNat)
      case atStart => exact ⟨0, 0, 2 ^ ms.length - 1, rfl, rfl, by rw [HPW.out], rfl, by have := HP.out.1; omega, by omega, by omega, by have := HP.out.2; omega, by rw [Nat.sub_add_cancel HP.out.2]; exact binv_start _ _, by omega⟩
      case round =>
        obtain ⟨bs, mt, st, rfl, rfl, rfl, rfl, hst, hbs, hmt, hinv⟩ := hrel
        by_cases hpos : 0 < st
        · go_wp2
          go_loopw [10, 11, 12] (fun n y a wr4 => ∃ (k cnt : Nat) (lay : Bool), k ≤ ms.length ∧ n = .int .i64 cnt ∧ y = .bool lay ∧ a = .int .i64 k ∧ wr4 = wr ∧ cnt ≤ k ∧ Hid (cnt = cntF ms st k ∧ lay = layF ms st k)) (fun _ _ a _ => ms.length - (intOf a).toNat)
          case atStart => exact ⟨0, 0, true, Nat.zero_le _, rfl, rfl, rfl, rfl, Nat.le_refl _, rfl, rfl⟩
          case round =>
            obtain ⟨k, cnt, lay, hk, rfl, rfl, rfl, rfl, hck, hc⟩ := hrel
            by_cases hlt : k < ms.length
            · have hb := shr_in (n := ms.length) (k := k) (s := st) (by omega)
              cases hin : inS ms.length st k with
              | false =>
                rw [hin] at hb
                have HI := Lib.hid hin
                clear hin
                simp only [Bool.false_eq_true, if_false] at hb
                go_wp2
                go_roundw
                case rel => exact ⟨k + 1, cnt, lay, by omega, rfl, rfl, by go_num, (by first | rfl | trivial), by omega, by rw [cntF_no HI.out, hc.out.1], by rw [layF_no HI.out, hc.out.2]⟩
                case measure => simp [intOf]; omega
              | true =>
                rw [hin] at hb
                have HI := Lib.hid hin
                clear hin
                simp only [if_true] at hb
                cases lay with
                | false =>
                  go_wp2
                  go_roundw
                  case rel => exact ⟨k + 1, cnt + 1, false, by omega, by go_num, rfl, by go_num, (by first | rfl | trivial), by omega, by rw [cntF_yes HI.out, hc.out.1], by rw [layF_yes HI.out, ← hc.out.2]; rfl⟩
                  case measure => simp [intOf]; omega
                | true =>
                  have hcell := HO.out.cellAt k (by omega)
                  rw [List.getElem?_map, rowK_get hlt, Option.map_some, entK_done hlt] at hcell
                  have hf := HO.out.frozenAt k
                  have hab := and_i64 (knowM ms k ms.length) st (knowM_lt (by omega) (by omega)) (by omega)
                  have HL := Lib.hid (layF_yes HI.out)
                  by_cases hz : knowM ms k ms.length &&& st = 0
                  · rw [hz] at hab
                    have HZ := Lib.hid hz
                    clear hz
                    go_wp2
                    go_roundw
                    case rel => exact ⟨k + 1, cnt + 1, true, by omega, by go_num, rfl, by go_num, (by first | rfl | trivial), by omega, by rw [cntF_yes HI.out, hc.out.1], by rw [HL.out, ← hc.out.2, decide_eq_true HZ.out]; rfl⟩
                    case measure => simp [intOf]; omega
                  · obtain ⟨v, hv⟩ : ∃ v, v = knowM ms k ms.length &&& st := ⟨_, rfl⟩
                    rw [← hv] at hab hz
                    have t1 : decide ((v : Int) = 0) = false := decide_eq_false (by omega)
                    have t2 : ((v : Int) == 0) = false := by simpa using hz
                    have HZ := Lib.hid (And.intro hv hz)
                    clear hz hv
                    go_wp2
                    go_roundw
                    case rel => exact ⟨k + 1, cnt + 1, false, by omega, by go_num, rfl, by go_num, (by first | rfl | trivial), by omega, by rw [cntF_yes HI.out, hc.out.1], by rw [HL.out, ← hc.out.2, ← HZ.out.1, decide_eq_false HZ.out.2]; rfl⟩
                    case measure => simp [intOf]; omega
            · obtain rfl : k = ms.length := by omega
              have HC := Lib.hid (And.intro hc.out.1 hc.out.2)
              clear hc
              cases lay with
              | false =>
                go_wp2
                go_roundw
                case rel => exact ⟨bs, mt, st - 1, rfl, rfl, congrArg (Value.int .i64) (by omega), (by first | rfl | trivial), by omega, hbs, hmt, by have := hinv.out.1; omega, by rw [Nat.sub_add_cancel hpos]; exact binv_keep hinv.out.2.1 hinv.out.1 (fun hl => absurd ((layF_all ms st).2 hl) (by rw [← HC.out.2]; simp)) (fun h0 => Nat.le_of_lt (hinv.out.2.2 h0)), fun h0 => by have := hinv.out.2.2 h0; omega⟩
                case measure => simp [intOf]; omega
              | true =>
                by_cases hgt : mt < cnt
                · go_wp2
                  go_roundw
                  case rel => exact ⟨st, cnt, st - 1, rfl, rfl, congrArg (Value.int .i64) (by omega), (by first | rfl | trivial), by omega, by omega, by omega, by have := hinv.out.1; omega, by rw [Nat.sub_add_cancel hpos, HC.out.1, cntF_all]; exact binv_new hinv.out.2.1 hinv.out.1 ((layF_all ms st).1 HC.out.2.symm) (by rw [← cntF_all, ← HC.out.1]; exact hgt), fun _ => by omega⟩
                  case measure => simp [intOf]; omega
                · go_wp2
                  go_roundw
                  case rel => exact ⟨bs, mt, st - 1, rfl, rfl, congrArg (Value.int .i64) (by omega), (by first | rfl | trivial), by omega, hbs, hmt, by have := hinv.out.1; omega, by rw [Nat.sub_add_cancel hpos]; exact binv_keep hinv.out.2.1 hinv.out.1 (fun _ => by rw [← cntF_all, ← HC.out.1]; omega) (fun h0 => Nat.le_of_lt (hinv.out.2.2 h0)), fun h0 => by have := hinv.out.2.2 h0; omega⟩
                  case measure => simp [intOf]; omega
        · obtain rfl : st = 0 := by omega
          have HE := Lib.hid (binv_end hn1 hinv.out.2.1)
          go_wp2_with (go_at_call 83; refine (refList_any ms.length bs _ (by omega) (by omega)).mono ?_; rintro e w3 ⟨A3, c3, ys, rfl, hO3, hB3, hy⟩)
          go_ret2
          exact ⟨A3, c3, ys, _, rfl, hO3, below_step hB hB3, by rw [hy.out, HE.out, layerF, HV.out]; rfl, (hitsE_yes HV.out).symm⟩

set_option maxRecDepth 100000 in
theorem refLayer_any (ms : List (Int × Int)) (A : Option Addr) (c : Nat) (w : World) (h : Clk w A c ms) :
    Calls Try.prog 39 #[.slice A ms.length c] w fun e w' => ∃ (A' : Option Addr) (c' : Nat) (ys : List Int) (E : Int), e = .returned (.tuple #[.slice A' ys.length c', .int .i64 E]) ∧ Out w' A' c' ys ∧ Below w.heap.size w w' ∧ Hid (ys = layerF ms ∧ E = hitsE ms) := by
  cases hv : vhB ms with
  | true => exact refLayerV_any ms A c w h hv
  | false =>
    have HV := Lib.hid hv
    have H := Lib.hid h
    clear hv h
    go_enter Try.func39, Try.ntmps39
    go_wp2_with (go_at_call 22; refine (refValid_any ms A c _ H.out.marks H.out.len).mono ?_; rintro e w1 ⟨he, n1, rfl⟩; rw [HV.out] at he; subst he)
    go_ret2
    exact ⟨none, 0, [], _, rfl, Out.nil_, (by repeat (first | with_reducible exact Below.refl _ _ | with_reducible assumption | refine below_drewN ?_ _ | with_reducible refine Below.drew ?_ | (refine Below.setCell ?_ (by first | (simp; done) | (simp; omega) | omega) _) | (refine Below.alloc ?_ (by first | (simp; done) | (simp; omega) | omega) _))), by rw [layerF, HV.out]; rfl, (hitsE_no HV.out).symm⟩
end Go.Proofs.Ytmlkdjcjfkfdiaa
