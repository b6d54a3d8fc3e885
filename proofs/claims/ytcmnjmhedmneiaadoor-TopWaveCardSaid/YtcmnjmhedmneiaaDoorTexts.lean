/-
  Contracts: Samples, SameInts (firnref03), areBits and ValidBits, both; Long (firnlaw03).
-/
import Derived.Test.YtcmnjmhedmneiaaDoorRefDiffs
namespace Go.Proofs.YtcmnjmhedmneiaaDoor
open Go.RowKit Go.Shelf

theorem sumL_far {l : List Int} {k : Nat} {d : Int} (hd : l[k]? = some d) (h : d < -1023 ∨ 1023 < d) : vwB (sumL l) = false := by
  have hk := (List.getElem?_eq_some_iff.1 hd).1
  cases h1 : smpB (l.take (k + 1)).sum with
  | false => exact sumL_bad hk h1
  | true =>
    cases k with
    | zero =>
      rw [sum_snoc hd] at h1
      simp [smpB] at h1
      omega
    | succ j =>
      have h2 := sum_snoc hd
      refine sumL_bad (k := j) (by omega) ?_
      cases h3 : smpB (l.take (j + 1)).sum with
      | false => rfl
      | true => simp [smpB] at h1 h3; omega
set_option maxRecDepth 100000 in
set_option maxHeartbeats 1000000 in
theorem refSamples_any (l : List Int) (A : Option Addr) (c : Nat) (w : World) (h : Ints w A l) (hl : l.length ≤ maxLen) :
    Calls Tryd.prog 23 #[.slice A l.length c] w fun e w' => ListRes (smpE l) (smpR l) e w w' := by
  unfold maxLen at hl
  have H := Lib.hid h
  clear h
  go_enter Tryd.func23, Tryd.ntmps23
  go_wp2
  go_loopw [4, 5, 10] (fun v a i wr => ∃ k : Nat, k ≤ l.length ∧ k ≤ 40 ∧ i = .int .i64 k ∧ ∃ (xs : List Int) (t : Int), a = .int .i64 t ∧ (-1023 * k ≤ t ∧ t ≤ 1023 * k) ∧ (∃ (A0 : Option Addr) (c0 : Nat), v = .slice A0 k c0) ∧ wr.ownsRow w.heap.size 3 1 v k (xs.map (Value.int .i64)) ∧ Below w.heap.size w wr ∧ Hid (xs = sumL (l.take k) ∧ t = (l.take k).sum)) (fun _ _ i _ => l.length - (intOf i).toNat)
  case atStart => exact ⟨0, Nat.zero_le _, by omega, rfl, [], 0, rfl, by omega, ⟨none, 0, rfl⟩, World.ownsRow_nil _ _ _ _, Below.refl _ _, rfl, rfl⟩
  case round =>
    obtain ⟨k, hk, hk40, rfl, xs, t, rfl, ht, ⟨A0, c0, rfl⟩, hown, hB, hX⟩ := hrel
    obtain ⟨ht0, ht1⟩ := ht
    by_cases hlt : k < l.length
    · obtain ⟨ad, d, rfl, hbk, hd, hc⟩ := H.out.get hlt
      have f0 := (hB.cell (p := ad.add k) (by rw [block_of_add]; exact hbk)).trans hc
      have hsz := hB.size
      clear hc
      by_cases h1 : d < -1023
      · have u1 : decide (d < -1023) = true := decide_eq_true h1
        have HN := Lib.hid (smp_no (sumL_far hd.out (.inl h1)))
        go_wp2
        go_ret2
        exact ⟨none, 0, [], 5, rfl, Out.nil_, hB, HN.out.2.symm, HN.out.1.symm⟩
      · have u1 : decide (d < -1023) = false := decide_eq_false h1
        by_cases h2 : 1023 < d
        · have u2 : decide (1023 < d) = true := decide_eq_true h2
          have HN := Lib.hid (smp_no (sumL_far hd.out (.inr h2)))
          go_wp2
          go_ret2
          exact ⟨none, 0, [], 5, rfl, Out.nil_, hB, HN.out.2.symm, HN.out.1.symm⟩
        · have u2 : decide (1023 < d) = false := decide_eq_false h2
          by_cases h3 : 40 ≤ (k : Int)
          · have u3 : decide (40 ≤ (k : Int)) = true := decide_eq_true h3
            have HN := Lib.hid (smp_no (l := l) (vw_len (s := sumL l) (by rw [sumL_len]; omega)).symm)
            go_wp2
            go_ret2
            exact ⟨none, 0, [], 5, rfl, Out.nil_, hB, HN.out.2.symm, HN.out.1.symm⟩
          · have u3 : decide (40 ≤ (k : Int)) = false := decide_eq_false h3
            have HNX : Hid (xs ++ [t + d] = sumL (l.take (k + 1)) ∧ t + d = (l.take (k + 1)).sum) := by
              have hs := sum_snoc hd.out
              refine ⟨?_, by rw [hs, ← hX.out.2]⟩
              rw [take_snoc hd.out, sumL_snoc, ← hX.out.1, ← hX.out.2]
            clear hX
            go_wp2_with (at_builtin; refine wp_app_int _ rfl (.tmp 28) (.tmp 30) rfl w.heap.size _ k xs _ rfl hown rfl (by omega) hsz ?_; intro v2 w2 hown2 hB2)
            obtain ⟨A1, c1, hv2⟩ : ∃ (A1 : Option Addr) (c1 : Nat), v2 = .slice A1 (k + 1) c1 := by
              obtain ⟨A1, c1, e, _⟩ := own_ints hown2
              have := hown2.1
              simp at this
              exact ⟨A1, c1, by rw [e]; simp; omega⟩
            go_roundw
            case rel => exact ⟨k + 1, by omega, by omega, by go_num, _, t + d, rfl, by omega, ⟨A1, c1, hv2⟩, hown2, hB.trans hB2, HNX.out⟩
            case measure => simp [intOf]; omega
    · obtain rfl : k = l.length := by omega
      have hx : xs = sumL l := by have := hX.out.1; rwa [List.take_length] at this
      obtain ⟨A1, c1, e1, hO⟩ := own_ints hown
      have hxl : xs.length = l.length := by rw [hx, sumL_len]
      rw [hxl] at e1
      cases e1
      have HO := Lib.hid hO
      have HX := Lib.hid hx
      have HXL := Lib.hid hxl
      clear hown hX hx hxl hO
      cases hv : vwB xs with
      | false =>
        have HV := Lib.hid hv
        clear hv
        go_wp2_with (go_at_call 25; rw [← HXL.out]; refine (refValid_any xs _ _ _ HO.out.ints (Nat.le_trans HO.out.le HO.out.cap)).mono ?_; rintro e wv ⟨rfl, rfl⟩; rw [HV.out])
        go_ret2
        have HN := smp_no (l := l) (by rw [← HX.out]; exact HV.out)
        exact ⟨none, 0, [], 5, rfl, Out.nil_, hB, HN.2.symm, HN.1.symm⟩
      | true =>
        have HV := Lib.hid hv
        clear hv
        go_wp2_with (go_at_call 25; rw [← HXL.out]; refine (refValid_any xs _ _ _ HO.out.ints (Nat.le_trans HO.out.le HO.out.cap)).mono ?_; rintro e wv ⟨rfl, rfl⟩; rw [HV.out])
        go_ret2
        have HN := smp_ok (l := l) (by rw [← HX.out]; exact HV.out)
        exact ⟨A0, c0, xs, 0, by first | rfl | (rw [HXL.out]; rfl), HO.out, hB, HX.out.trans HN.2.symm, HN.1.symm⟩
end Go.Proofs.YtcmnjmhedmneiaaDoor
