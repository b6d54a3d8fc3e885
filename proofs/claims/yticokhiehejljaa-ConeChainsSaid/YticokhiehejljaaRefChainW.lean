/-
  Contract: Chain (firnref02): the walk.
-/
import Derived.Test.YticokhiehejljaaRefChain
namespace Go.Proofs.Yticokhiehejljaa
open Go.RowKit Go.Shelf

set_option maxRecDepth 100000 in
set_option maxHeartbeats 2000000 in
theorem refChainV_any (ms : List (Int × Int)) (A : Option Addr) (c : Nat) (w : World) (h : Clk w A c ms) (hv : vhB ms = true) :
    Calls Try.prog 27 #[.slice A ms.length c] w fun e w' => ∃ (A' : Option Addr) (c' : Nat) (ys : List Int) (E : Int), e = .returned (.tuple #[.slice A' ys.length c', .int .i64 E]) ∧ Out w' A' c' ys ∧ Below w.heap.size w w' ∧ Hid (ys = chainF ms ∧ E = hitsE ms) := by
  have H := Lib.hid h
  obtain ⟨hn1, hn2⟩ := vh_parts hv
  have HV := Lib.hid hv
  clear h hv
  go_enter Try.func27, Try.ntmps27
  go_wp2_with (first
    | (go_at_call 22; refine (refValid_any ms A c _ H.out.marks H.out.len).mono ?_; rintro e w1 ⟨he, n1, rfl⟩; rw [HV.out] at he; subst he)
    | (go_at_call 70; refine (refLengths_any ms A c _ (H.out.marks.drewN n1) HV.out).mono ?_; rintro e w2 ⟨A1, c1, ls, rfl, hO1, hB1, hls⟩))
  have hW2 : Below w.heap.size w w2 := below_step (below_drewN (Below.refl _ _) n1) hB1
  have hll : ls.length = ms.length := by rw [hls.out, List.length_map, allL_len]
  have HLV : Hid (∀ j : Nat, j < ms.length → ls.getD j 0 = lenI ms j) := fun j hj => by
    rw [hls.out, List.getD_eq_getElem?_getD, List.getElem?_map, allL, List.getElem?_map, List.getElem?_range hj]; rfl
  have HLL := Lib.hid hll
  have HM2 := Lib.hid (H.out.marks.below hW2)
  have HW2 := Lib.hid hW2
  obtain ⟨adl, _, rfl, hbl, _, _⟩ := hO1.ints.get (show 0 < ls.length by omega)
  have HLC : Hid (∀ j : Nat, j < ms.length → w2.cell? (adl.add j) = some (.int .i64 (lenI ms j))) := fun j hj => by
    obtain ⟨ad, e, _, hc⟩ := hO1.ints.at_ (show j < ls.length by rw [HLL.out]; exact hj)
    cases e
    rw [HLV.out j hj] at hc
    exact hc
  have HLB : Hid (∀ j : Nat, 0 ≤ lenI ms j ∧ lenI ms j ≤ 29192926025390625) := fun j => by
    have := numI_small (ms := ms) small_max hn2 (a := (j : Int))
    have e : (15 ^ 14 : Int) = 29192926025390625 := by decide
    rw [e] at this
    exact this
  have hls2 : ms.length ≤ ls.length := by omega
  clear hO1 hB1 hW2 hll
  go_loopw [5, 6] (fun s i wr => ∃ (k : Nat) (z : Int), k ≤ ms.length ∧ i = .int .i64 k ∧ s = .int .i64 z ∧ wr = w2 ∧ (0 ≤ z ∧ z ≤ 29192926025390625) ∧ Hid (z = (ls.take k).foldl max 0)) (fun _ i _ => ms.length - (intOf i).toNat)
  case atStart => exact ⟨0, 0, Nat.zero_le _, rfl, rfl, rfl, by omega, rfl⟩
  case round =>
    obtain ⟨k, z, hk, rfl, rfl, hw, hzb, hz⟩ := hrel
    have hw2 := hw.symm
    clear hw
    subst hw2
    by_cases hlt : k < ms.length
    · have hc := HLC.out k hlt
      have q1 : k < ls.length := by omega
      have hb := HLB.out k
      have hs : Hid ((ls.take (k + 1)).foldl max 0 = max z (lenI ms k)) := by
        have : ls[k]? = some (lenI ms k) := by
          rw [← HLV.out k hlt, List.getD_eq_getElem?_getD, List.getElem?_eq_getElem q1]; rfl
        rw [take_snoc this, List.foldl_append, ← hz.out]; rfl
      generalize lenI ms k = y at hc hb hs
      rcases Int.lt_or_le z y with hcmp | hcmp
      · have e1 := Lib.hid (show max z y = y by omega)
        go_wp2
        go_roundw
        case rel => exact ⟨k + 1, y, by omega, by go_num, rfl, (by first | rfl | trivial), hb, by rw [hs.out, e1.out]; exact rfl⟩
        case measure => simp [intOf]; omega
      · have e1 := Lib.hid (show max z y = z by omega)
        go_wp2
        go_roundw
        case rel => exact ⟨k + 1, z, by omega, by go_num, rfl, (by first | rfl | trivial), hzb, by rw [hs.out, e1.out]; exact rfl⟩
        case measure => simp [intOf]; omega
    · obtain rfl : k = ms.length := by omega
      have HZ : Hid (z = (topN ms : Nat) ∧ topN ms ≤ 29192926025390625) := by
        have e2 : z = ((allL ms.length).map (numI ms max)).foldl max 0 := by rw [hz.out, List.take_of_length_le (by rw [HLL.out]; exact Nat.le_refl _), hls.out]
        have : z = (topN ms : Nat) := by rw [topN, ← e2]; omega
        exact ⟨this, by omega⟩
      clear hzb hz
      go_wp2
      go_loopw [5, 7] (fun s v wr => ∃ (m : Nat) (ys : List Int), s = .int .i64 m ∧ m ≤ 29192926025390625 ∧ wr.ownsRow w2.heap.size 3 1 v ys.length (ys.map (Value.int .i64)) ∧ Below w2.heap.size w2 wr ∧ ys.length ≤ 14 ∧ Hid (ChK ms m ys)) (fun s _ _ => (intOf s).toNat)
      case atStart => exact ⟨topN ms, [], by rw [HZ.out.1], HZ.out.2, World.ownsRow_nil _ _ _ _, Below.refl _ _, by simp, chK_start hn1⟩
      case round =>
        obtain ⟨m, ys, rfl, hmb, hown, hB, hyl, hC⟩ := hrel
        cases m with
        | zero =>
          have HE := Lib.hid (chK_end hC.out)
          go_wp2
          go_ret2
          obtain ⟨A', c', e, hI⟩ := own_ints hown
          cases e
          exact ⟨A', c', ys, _, rfl, hI, HW2.out.trans (hB.mono HW2.out.size), by rw [HE.out, chainF, HV.out]; rfl, (hitsE_yes HV.out).symm⟩
        | succ m =>
          obtain ⟨A7, c7, rfl, hO7⟩ := own_ints hown
          have HO7 := Lib.hid hO7.ints
          clear hO7
          have HWN := Lib.hid hown
          have HBW := Lib.hid hB
          have hz := hB.size
          have HLW : Hid (∀ j : Nat, j < ms.length → wr.cell? (adl.add j) = some (.int .i64 (lenI ms j))) := fun j hj => (hB.cell (p := adl.add j) (by rw [block_of_add]; exact hbl)).trans (HLC.out j hj)
          have HMW := Lib.hid (HM2.out.below hB)
          have e0 : (((m + 1 : Nat) : Int)) - 1 = m := by omega
          obtain ⟨wo, rfl⟩ : ∃ wo : World, wo = wr := ⟨_, rfl⟩
          obtain ⟨M, hM⟩ : ∃ M : Nat, M = m + 1 := ⟨_, rfl⟩
          rw [← hM]
          have hM0 : 0 < M := by omega
          have hMm : M ≤ 29192926025390625 := by omega
          have HMM := Lib.hid hM
          clear hown hB hM e0 hmb
          have hfin : ∀ (k : Nat), k < ms.length → lenI ms k = M → leftP ms ys k = true → (∀ j : Nat, j < k → ¬ (leftP ms ys j = true ∧ lenI ms j = M)) → ChK ms m (ys ++ [(k : Int)]) := fun k h1 h2 h3 h4 => chK_step hC.out h1 (by rw [h2, HMM.out]) h3 fun j hj hh => h4 j hj ⟨hh.1, by rw [hh.2, HMM.out]⟩
          have HFIN := Lib.hid hfin
          have HNONE : Hid ((∀ j : Nat, j < ms.length → ¬ (leftP ms ys j = true ∧ lenI ms j = M)) → False) := fun hno => chK_some hC.out fun j hj hh => hno j hj ⟨hh.1, by rw [hh.2, HMM.out]⟩
          have HLEN : Hid (∀ k : Nat, ChK ms m (ys ++ [(k : Int)]) → (ys ++ [(k : Int)]).length ≤ 14) := fun k hk => by have := hk.len; omega
          have sM : IntKind.i64.wrap ((M : Int) - 1) = (m : Int) := by have h9 := HMM.out; exact (IntWalk.i64_in _ (by omega)).trans (by omega)
          clear hfin
          go_wp2
          go_loopw [7, 8] (fun v i wr2 => ∃ (k m2 : Nat), k ≤ ms.length ∧ v = .slice A7 ys.length c7 ∧ i = .int .i64 k ∧ wr2 = wo.drewN m2 ∧ Hid (∀ j : Nat, j < k → ¬ (leftP ms ys j = true ∧ lenI ms j = M))) (fun _ i _ => ms.length - (intOf i).toNat)
          case atStart => exact ⟨0, 0, Nat.zero_le _, rfl, rfl, rfl, fun j hj => absurd hj (by omega)⟩
          case round =>
            obtain ⟨k, m2, hk, rfl, rfl, rfl, hno⟩ := hrel
            by_cases hlt : k < ms.length
            · have hc := HLW.out k hlt
              have q1 : k < ls.length := by omega
              by_cases hlk : lenI ms k = M
              · rw [hlk] at hc
                have HLK := Lib.hid hlk
                clear hlk
                rcases List.eq_nil_or_concat ys with hnil | ⟨zs, p, hcc⟩
                · subst hnil
                  have HCK := Lib.hid (HFIN.out k hlt HLK.out rfl hno.out)
                  go_wp2_with (at_builtin; refine wp_app_int (wo.drewN m2) rfl (.tmp 56) (.tmp 58) rfl w2.heap.size _ 0 [] _ rfl (show (wo.drewN m2).ownsRow _ _ _ _ _ _ from HWN.out) rfl (by omega) hz ?_; intro v3 w3 hown3 hB3)
                  go_roundw
                  case rel => exact ⟨m, [(k : Int)], by rw [← sM], by have := HMM.out; omega, hown3, (below_drewN HBW.out m2).trans hB3, by simp, HCK.out⟩
                  case measure => have := HMM.out; simp [intOf]; omega
                · rw [List.concat_eq_append] at hcc
                  have hpos : 0 < ys.length := by rw [hcc]; simp
                  obtain ⟨ad7, p', e7, hb7, hp7, hc7⟩ := HO7.out.get (show ys.length - 1 < ys.length by omega)
                  subst e7
                  have hpp : p' = p := by
                    have := hp7.out
                    rw [hcc, List.length_append, List.length_singleton, Nat.add_sub_cancel, List.getElem?_append_right (Nat.le_refl _), Nat.sub_self] at this
                    simpa using this.symm
                  subst hpp
                  obtain ⟨pn, hpn, hpl⟩ := hC.out.has p' (by rw [hcc]; simp)
                  subst hpn
                  have HPL : Hid (leftP ms ys k = befI ms pn k) := by rw [hcc]; exact leftP_snoc _ _ _ _
                  have s0 : IntKind.i64.wrap ((ys.length : Int) - 1) = (ys.length : Int) - 1 := IntWalk.i64_in _ (by omega)
                  have s1 : (0 : Int) ≤ (ys.length : Int) - 1 := by omega
                  have s2 : ((ys.length : Int) - 1).toNat = ys.length - 1 := by omega
                  have s3 : (ys.length : Int) - 1 < (ys.length : Int) := by omega
                  have s4 : decide ((ys.length : Int) = 0) = false := decide_eq_false (by omega)
                  have s5 : ((ys.length : Int) == 0) = false := beq_eq_false_iff_ne.2 (by omega)
                  have HPN := Lib.hid (show hasB ms (pn : Int) = true by simp [hasB]; omega)
                  have HKN := Lib.hid (show hasB ms (k : Int) = true by simp [hasB]; omega)
                  clear hcc
                  cases hbf : befI ms pn k with
                  | false =>
                    have HF := Lib.hid hbf
                    clear hbf
                    go_wp2_with (go_at_call 61; refine (refBefore_is ms A c pn k false _ (HMW.out.drewN m2) HV.out HPN.out HKN.out HF.out).mono ?_; rintro e w3 ⟨rfl, n3, rfl⟩)
                    go_roundw
                    case rel => exact ⟨k + 1, _, by omega, rfl, by go_num, (by first | rfl | exact World.drewN_drewN _ _ _), (fun j hj => by
                      rcases Nat.lt_or_ge j k with q | q
                      · exact hno.out j q
                      · rw [show j = k by omega]; exact fun hh => by have := hh.1; rw [HPL.out, HF.out] at this; cases this)⟩
                    case measure => simp [intOf]; omega
                  | true =>
                    have HF := Lib.hid hbf
                    have HCK := Lib.hid (HFIN.out k hlt HLK.out (by rw [HPL.out]; exact hbf) hno.out)
                    clear hbf
                    go_wp2_with (first
                      | (go_at_call 61; refine (refBefore_is ms A c pn k true _ (HMW.out.drewN m2) HV.out HPN.out HKN.out HF.out).mono ?_; rintro e w3 ⟨rfl, n3, rfl⟩)
                      | (at_builtin; refine wp_app_int _ rfl (.tmp 56) (.tmp 58) rfl w2.heap.size _ ys.length ys _ rfl (show ((wo.drewN m2).drewN n3).ownsRow _ _ _ _ _ _ from HWN.out) rfl (by omega) hz ?_; intro v3 w3 hown3 hB3))
                    go_roundw
                    case rel => exact ⟨m, ys ++ [(k : Int)], by rw [← sM], by have := HMM.out; omega, by rw [List.length_append]; exact hown3, (below_drewN HBW.out (m2 + n3)).trans hB3, HLEN.out k HCK.out, HCK.out⟩
                    case measure => have := HMM.out; simp [intOf]; omega
              · have t1 : decide (lenI ms k = (M : Int)) = false := decide_eq_false hlk
                have t2 : (lenI ms k == (M : Int)) = false := by simpa using hlk
                have HLK := Lib.hid hlk
                generalize hy : lenI ms k = y at hc t1 t2
                have HY := Lib.hid hy
                clear hy hlk
                go_wp2
                go_roundw
                case rel => exact ⟨k + 1, m2, by omega, rfl, by go_num, rfl, (fun j hj => by
                  rcases Nat.lt_or_ge j k with q | q
                  · exact hno.out j q
                  · rw [show j = k by omega]; exact fun hh => HLK.out hh.2)⟩
                case measure => simp [intOf]; omega
            · obtain rfl : k = ms.length := by omega
              exact (HNONE.out hno.out).elim

set_option maxRecDepth 100000 in
theorem refChain_any (ms : List (Int × Int)) (A : Option Addr) (c : Nat) (w : World) (h : Clk w A c ms) :
    Calls Try.prog 27 #[.slice A ms.length c] w fun e w' => ∃ (A' : Option Addr) (c' : Nat) (ys : List Int) (E : Int), e = .returned (.tuple #[.slice A' ys.length c', .int .i64 E]) ∧ Out w' A' c' ys ∧ Below w.heap.size w w' ∧ Hid (ys = chainF ms ∧ E = hitsE ms) := by
  cases hv : vhB ms with
  | true => exact refChainV_any ms A c w h hv
  | false =>
    have HV := Lib.hid hv
    have H := Lib.hid h
    clear hv h
    go_enter Try.func27, Try.ntmps27
    go_wp2_with (go_at_call 22; refine (refValid_any ms A c _ H.out.marks H.out.len).mono ?_; rintro e w1 ⟨he, n1, rfl⟩; rw [HV.out] at he; subst he)
    go_ret2
    exact ⟨none, 0, [], _, rfl, Out.nil_, (by repeat (first | with_reducible exact Below.refl _ _ | with_reducible assumption | refine below_drewN ?_ _ | with_reducible refine Below.drew ?_ | (refine Below.setCell ?_ (by first | (simp; done) | (simp; omega) | omega) _) | (refine Below.alloc ?_ (by first | (simp; done) | (simp; omega) | omega) _))), by rw [chainF, HV.out]; rfl, (hitsE_no HV.out).symm⟩
end Go.Proofs.Yticokhiehejljaa
