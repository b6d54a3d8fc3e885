/-
  Contracts: chain, Chain (cone).
-/
import Derived.Test.YtmlkdjcjfkfdiaaChainM
import Derived.Test.YtmlkdjcjfkfdiaaChains
import Derived.Test.YtmlkdjcjfkfdiaaRefIsChain
namespace Go.Proofs.Ytmlkdjcjfkfdiaa
open Go.RowKit Go.Shelf

set_option maxRecDepth 100000 in
set_option maxHeartbeats 1600000 in
theorem chain_any (ms : List (Int × Int)) (A : Option Addr) (c : Nat) (w : World) (h : Marks w A ms) (hv : vhB ms = true) :
    Calls Try.prog 69 #[.slice A ms.length c] w fun e w' => ∃ (A' : Option Addr) (c' : Nat) (ys : List Int), e = .returned (.slice A' ys.length c') ∧ Out w' A' c' ys ∧ Below w.heap.size w w' ∧ Hid (ys = chainL ms) := by
  obtain ⟨hn1, hn2⟩ := vh_parts hv
  have HQ := Lib.hid (fromEach_any 102 _ join_max small_max ms A c w h hv)
  have H := Lib.hid (And.intro h hv)
  clear h hv
  go_enter Try.func69, Try.ntmps69
  go_wp2_with (first
    | (go_at_call 101; refine HQ.out.mono ?_; rintro e w1 ⟨A1, c1, ls, rfl, hO1, hB1, hls⟩)
    | (go_at_call 98; refine (all_any ms.length A c _ (by omega)).mono ?_; rintro e w2 ⟨A2, c2, rfl, hO2, hB2⟩))
  have hW2 := below_step hB1 hB2
  have HLS := Lib.hid (hO1.ints.below hB2)
  have hll : ls.length = ms.length := by rw [hls.out, List.length_map, allL_len]
  have HLV : Hid (∀ j : Nat, j < ms.length → ls.getD j 0 = lenI ms j) := fun j hj => by
    rw [hls.out, List.getD_eq_getElem?_getD, List.getElem?_map, allL, List.getElem?_map, List.getElem?_range hj]; rfl
  have HLL := Lib.hid hll
  have HM2 := Lib.hid (H.out.1.below hW2)
  have hal := allL_len ms.length
  have HW2 := Lib.hid hW2
  clear hO1 hB1 hB2 hW2
  obtain ⟨adl, _, rfl, hbl, _, _⟩ := HLS.out.get (show 0 < ls.length by omega)
  have HLC : Hid (∀ j : Nat, j < ms.length → w2.cell? (adl.add j) = some (.int .i64 (lenI ms j))) := fun j hj => by
    obtain ⟨ad, e, _, hc⟩ := HLS.out.at_ (show j < ls.length by rw [HLL.out]; exact hj)
    cases e
    rw [HLV.out j hj] at hc
    exact hc
  have hls2 : ms.length ≤ ls.length := by omega
  clear hll
  go_loopw [4, 5] (fun v lv wr => ∃ (ys left : List Int) (A5 : Option Addr) (c5 m : Nat), wr.ownsRow w2.heap.size 3 1 v ys.length (ys.map (Value.int .i64)) ∧ lv = .slice A5 left.length c5 ∧ Out wr A5 c5 left ∧ Below w2.heap.size w2 wr ∧ ys.length + left.length ≤ 14 ∧ Hid (Left ms left ∧ Top ms left m ∧ ys ++ chainR ms m left = chainL ms)) (fun _ lv _ => match lv with | .slice _ n _ => n | _ => 0)
  case atStart => exact ⟨[], allL ms.length, A2, c2, topN ms, World.ownsRow_nil _ _ _ _, by rw [hal], hO2, Below.refl _ _, by simp [hal]; omega, .inl rfl, top_all hn1, rfl⟩
  case round =>
    clear hO2 hal
    obtain ⟨ys, left, A5, c5, m, hown, rfl, hO, hB, hlen, hL⟩ := hrel
    cases left with
    | nil =>
      have hd : Hid (ys = chainL ms) := by
        have := hL.out.2.2
        have h0 : m = 0 := by
          rcases Nat.eq_zero_or_pos m with q | q
          · exact q
          · obtain ⟨b, hb, _⟩ := hL.out.2.1.some q; cases hb
        subst h0
        rw [chainR, List.append_nil] at this
        exact this
      go_wp2
      go_ret
      obtain ⟨A', c', rfl, hI⟩ := own_ints hown
      exact ⟨A', c', ys, rfl, hI, HW2.out.trans (hB.mono HW2.out.size), hd⟩
    | cons x t =>
      obtain ⟨left, hleft⟩ : ∃ left, left = x :: t := ⟨_, rfl⟩
      rw [← hleft] at hO hlen hL ⊢
      have hpos : 0 < left.length := by rw [hleft]; simp
      have hx0 : left[0]? = some x := by rw [hleft]; rfl
      obtain ⟨ad, x', rfl, hbk, hx1, hcx⟩ := hO.ints.get hpos
      have hxx : x' = x := by have := hx1.out; rw [hx0] at this; cases this; rfl
      subst hxx
      have HX := Lib.hid (And.intro hleft hx0)
      have hcx' := hcx
      simp only [add_zero_] at hcx'
      have HO := Lib.hid hO
      have HWN := Lib.hid hown
      have HBW := Lib.hid hB
      have HMEM : Hid (∀ b ∈ left, ∃ j : Nat, b = (j : Int) ∧ j < ms.length) := fun b hb => by
        have := allL_mem (hL.out.1.mem hb)
        exact ⟨b.toNat, by omega, by omega⟩
      have HC : Hid (∀ j : Nat, j < ms.length → wr.cell? (adl.add j) = some (.int .i64 (lenI ms j))) := fun j hj => (hB.cell (p := adl.add j) (by rw [block_of_add]; exact hbl)).trans (HLC.out j hj)
      obtain ⟨x0, hx00, hx0n⟩ := HMEM.out x' (by rw [hleft]; simp)
      subst hx00
      clear hown hO hcx hx1 hx0 hleft
      obtain ⟨wo, rfl⟩ : ∃ wo : World, wo = wr := ⟨_, rfl⟩
      go_wp2
      go_loopw [6, 21] (fun s i wr2 => ∃ (k nn m2 : Nat), k ≤ left.length ∧ i = .int .i64 k ∧ s = .int .i64 nn ∧ nn < ms.length ∧ wr2 = wo.drewN m2 ∧ Hid ((nn : Int) = firstMax ms x0 (left.take k) ∧ (nn : Int) ∈ left)) (fun _ i _ => left.length - (intOf i).toNat)
      case atStart => exact ⟨0, x0, 0, Nat.zero_le _, rfl, rfl, hx0n, rfl, rfl, by rw [HX.out.1]; simp⟩
      case round =>
        obtain ⟨k, nn, m2, hk, rfl, rfl, hnn, rfl, hN⟩ := hrel
        by_cases hlt : k < left.length
        · obtain ⟨ad2, a, e2, hbk2, ha, hca⟩ := HO.out.ints.get hlt
          cases e2
          obtain ⟨an, rfl, han⟩ := HMEM.out a (List.mem_of_getElem? ha.out)
          have hla := HC.out an han
          have hln := HC.out nn hnn
          have HS := Lib.hid (firstMax_snoc (ms := ms) (x := x0) ha.out)
          have q1 : an < ls.length := by omega
          have q2 : nn < ls.length := by omega
          by_cases hcmp : lenI ms nn < lenI ms an
          · have HCMP := Lib.hid hcmp
            go_wp2
            go_quiet (fail)
            go_wp2
            go_roundw
            case rel => exact ⟨k + 1, an, _, by omega, by go_num, rfl, han, (by first | rfl | exact World.drewN_drewN _ _ _), (⟨by rw [HS.out, ← hN.out.1, if_pos HCMP.out], List.mem_of_getElem? ha.out⟩ : (an : Int) = _ ∧ (an : Int) ∈ left)⟩
            case measure => simp [intOf]; omega
          · have HCMP := Lib.hid hcmp
            have t1 : lenI ms an ≤ lenI ms nn := by omega
            clear hcmp
            go_wp2
            go_quiet (fail)
            go_wp2
            go_roundw
            case rel => exact ⟨k + 1, nn, _, by omega, by go_num, rfl, hnn, (by first | rfl | exact World.drewN_drewN _ _ _), (⟨by rw [HS.out, ← hN.out.1, if_neg (Int.not_lt.2 HCMP.out)], hN.out.2⟩ : (nn : Int) = _ ∧ (nn : Int) ∈ left)⟩
            case measure => simp [intOf]; omega
        · obtain rfl : k = left.length := by omega
          have hfm : (nn : Int) = firstMax ms x0 left := by rw [hN.out.1, List.take_length]
          obtain ⟨m', rfl⟩ : ∃ m', m = m' + 1 := by
            cases m with
            | zero => have := hL.out.2.1.none rfl; rw [HX.out.1] at this; cases this
            | succ m' => exact ⟨m', rfl⟩
          have hfind : left.find? (fun a => decide (lenI ms a = (m' + 1 : Nat))) = some (nn : Int) := by
            have h1 := HX.out.1
            rw [hfm, h1]
            exact firstMax_top (by rw [← h1]; exact hL.out.2.1)
          have hlen2 : lenI ms nn = (m' + 1 : Nat) := by simpa using List.find?_some hfind
          have HCH := Lib.hid (chainR_cons hfind)
          have HTOP := Lib.hid (top_after (hL.out.1.mem hN.out.2) hlen2)
          have HLESS := Lib.hid (hL.out.1.less hN.out.2)
          have HAF := Lib.hid (fun (W : World) (hW : Below w2.heap.size w2 W) => after_any ms A c nn W (HM2.out.below hW) H.out.2 (by simp [hasB]; omega))
          have hz := hB.size
          clear hfm hfind hlen2
          go_wp2_with (first
            | (at_builtin; refine wp_app_int (wo.drewN m2) rfl (.tmp 36) (.tmp 38) rfl w2.heap.size _ ys.length ys _ rfl (show (wo.drewN m2).ownsRow _ _ _ _ _ _ from HWN.out) rfl (by omega) hz ?_; intro v3 w3 hown3 hB3)
            | (go_at_call 103; refine (HAF.out _ ((below_drewN HBW.out m2).trans hB3)).mono ?_; rintro e w4 ⟨A6, c6, zs, rfl, hO6, hB6, hy6⟩))
          go_roundw
          case rel => exact ⟨ys ++ [(nn : Int)], zs, A6, c6, m', by rw [List.length_append]; exact own_below hown3 hB6, rfl, hO6, below_step ((below_drewN HBW.out m2).trans hB3) hB6, (by have := HLESS.out; rw [hy6.out, List.length_append, List.length_singleton]; omega), (⟨.inr ⟨nn, hy6.out⟩, by rw [hy6.out]; exact HTOP.out, by rw [hy6.out, List.append_assoc, List.singleton_append, ← HCH.out]; exact hL.out.2.2⟩ : Left ms zs ∧ Top ms zs m' ∧ (ys ++ [(nn : Int)]) ++ chainR ms m' zs = chainL ms)⟩
          case measure => rw [hy6.out]; exact HLESS.out

set_option maxRecDepth 100000 in
theorem toldChain_any (ms : List (Int × Int)) (A : Option Addr) (c : Nat) (w : World) (h : Clk w A c ms) :
    Calls Try.prog 65 #[.slice A ms.length c, .func (Fn.func 69) #[.slice A ms.length c] #[]] w fun e w' => ∃ (A' : Option Addr) (c' : Nat) (ys : List Int) (E : Int), e = .returned (.tuple #[.slice A' ys.length c', .int .i64 E]) ∧ Out w' A' c' ys ∧ Below w.heap.size w w' ∧ Hid (ys = chainF ms ∧ E = hitsE ms) := by
  have H := Lib.hid h
  clear h
  cases hv : vhB ms with
  | true =>
    have HV := Lib.hid hv
    clear hv
    go_enter Try.func65, Try.ntmps65
    go_wp2_with (first
      | (go_at_call 21; refine (valid_any ms A c _ H.out.marks H.out.len).mono ?_; rintro e w1 ⟨he, hB1⟩; rw [HV.out] at he; subst he)
      | (go_at_call 69; refine (chain_any ms A c _ (H.out.marks.below hB1) HV.out).mono ?_; rintro e w2 ⟨A2, c2, ys, rfl, hO2, hB2, hy⟩))
    go_ret2
    exact ⟨A2, c2, ys, _, rfl, hO2, below_step hB1 hB2, by rw [hy.out, chainF, HV.out]; rfl, (hitsE_yes HV.out).symm⟩
  | false =>
    have HV := Lib.hid hv
    clear hv
    go_enter Try.func65, Try.ntmps65
    go_wp2_with (go_at_call 21; refine (valid_any ms A c _ H.out.marks H.out.len).mono ?_; rintro e w1 ⟨he, hB1⟩; rw [HV.out] at he; subst he)
    go_ret2
    exact ⟨none, 0, [], _, rfl, Out.nil_, hB1, by rw [chainF, HV.out]; rfl, (hitsE_no HV.out).symm⟩
set_option maxRecDepth 100000 in
theorem coneChain_any (ms : List (Int × Int)) (A : Option Addr) (c : Nat) (w : World) (h : Clk w A c ms) :
    Calls Try.prog 26 #[.slice A ms.length c] w fun e w' => ∃ (A' : Option Addr) (c' : Nat) (ys : List Int) (E : Int), e = .returned (.tuple #[.slice A' ys.length c', .int .i64 E]) ∧ Out w' A' c' ys ∧ Below w.heap.size w w' ∧ Hid (ys = chainF ms ∧ E = hitsE ms) := by
  have H := Lib.hid h
  clear h
  go_enter Try.func26, Try.ntmps26
  go_wp2_with (go_at_call 65; refine (toldChain_any ms A c _ H.out).mono ?_; rintro e w2 ⟨A2, c2, ys, E, rfl, hO2, hB2, hy⟩)
  go_ret2
  exact ⟨A2, c2, ys, E, rfl, hO2, hB2, hy⟩
end Go.Proofs.Ytmlkdjcjfkfdiaa
