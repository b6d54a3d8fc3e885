/-
  Contracts: ascend, light, Light (ice).
-/
import Derived.Test.YtmndfcjkokolbaaLightM
namespace Go.Proofs.Ytmndfcjkokolbaa
open Go.RowKit Go.Shelf

set_option maxRecDepth 100000 in
set_option maxHeartbeats 400000 in
theorem ascend_any (ns : List Int) (A : Option Addr) (c : Nat) (w : World) (h : Ints w A ns) (hl : ns.length ≤ maxLen) :
    Calls Try.prog 80 #[.slice A ns.length c] w fun e w' => e = .returned (.bool (ascB ns)) ∧ ∃ n, w' = w.drewN n := by
  unfold maxLen at hl
  have H := Lib.hid h
  clear h
  go_enter Try.func80, Try.ntmps80
  go_wp2
  go_loopw [3] (fun i wr => ∃ k n : Nat, i = .int .i64 ((k : Int) + 1) ∧ (k = 0 ∨ k + 1 ≤ ns.length) ∧ wr = w.drewN n ∧ Hid (∀ (j : Nat) (a b : Int), j < k → ns[j]? = some a → ns[j + 1]? = some b → a < b)) (fun i _ => ns.length - (intOf i).toNat)
  case atStart => exact ⟨0, 0, rfl, .inl rfl, rfl, fun j a b hj => absurd hj (Nat.not_lt_zero _)⟩
  case round =>
    obtain ⟨k, n, rfl, hk, rfl, hA⟩ := hrel
    by_cases hlt : k + 1 < ns.length
    · obtain ⟨bl, o, rfl, hbk, hcells⟩ := H.out.open_ (show 0 < ns.length by omega)
      obtain ⟨a, hx0⟩ := getElem?_of_lt (show k < ns.length by omega)
      obtain ⟨b, hy0⟩ := getElem?_of_lt hlt
      have hc := hcells k a hx0
      have hc2 := hcells (k + 1) b hy0
      have hx := Lib.hid hx0
      have hy := Lib.hid hy0
      clear hx0 hy0 hcells
      have t0 : decide ((k : Int) + 1 < (ns.length : Int)) = true := decide_eq_true (by omega)
      have i0 : (0 : Int) ≤ (k : Int) := by omega
      have i1 : (k : Int) < (ns.length : Int) := by omega
      have i2 : (k : Int) + 1 < (ns.length : Int) := by omega
      have i3 : (0 : Int) ≤ (k : Int) + 1 := by omega
      have i4 : ((k : Int) + 1).toNat = k + 1 := by omega
      have i5 : k + 1 < ns.length := by omega
      have i6 : k < ns.length := by omega
      have s1 : IntKind.i64.wrap (k : Int) = k := IntWalk.i64_in _ (by omega)
      by_cases hab : b ≤ a
      · have t1 : decide (b ≤ a) = true := decide_eq_true hab
        have HN := Lib.hid (asc_no hx.out hy.out hab)
        go_wp2
        go_quiet (fail)
        go_wp2
        go_ret
        exact ⟨ret_bool HN.out.symm, _, (by first | rfl | exact World.drewN_drewN _ _ _)⟩
      · have t1 : decide (b ≤ a) = false := decide_eq_false hab
        have HN : Hid (a < b) := Int.not_le.1 hab
        clear hab
        go_wp2
        go_quiet (fail)
        go_wp2
        go_roundw
        case rel => exact ⟨k + 1, _, by go_num, .inr (by omega), (by first | rfl | exact World.drewN_drewN _ _ _), fun j x y hj h1 h2 => by
          rcases Nat.lt_or_ge j k with h | h
          · exact hA.out j x y h h1 h2
          · obtain rfl : j = k := by omega
            rw [hx.out] at h1
            rw [hy.out] at h2
            cases h1; cases h2
            exact HN.out⟩
        case measure => simp [intOf]; omega
    · have t0 : decide ((k : Int) + 1 < (ns.length : Int)) = false := decide_eq_false (by omega)
      go_wp2
      go_ret
      refine ⟨ret_bool ?_, _, rfl⟩
      rw [(ascB_iff ns).2 (fun j a b h1 h2 => hA.out j a b (by have := (List.getElem?_eq_some_iff.1 h2).1; omega) h1 h2)]

set_option maxRecDepth 100000 in
set_option maxHeartbeats 800000 in
theorem light_any (l : List Int) (A : Option Addr) (c : Nat) (s : Int) (ns : List Int) (D : Option Addr) (cd : Nat) (w : World) (h : Los w A l) (hD : Ints w D ns) (hs : 0 ≤ s) (hasc : ascB ns = true) (hin : ∀ x ∈ ns, 0 ≤ x ∧ x ≤ l.length) (hl : ns.length ≤ 700) :
    Calls Try.prog 81 #[.slice A (l.length + 1) c, .int .i64 s, .slice D ns.length cd] w fun e w' => e = .returned (.bool (litB l s ns)) ∧ ∃ n, w' = w.drewN n := by
  have H := Lib.hid h
  have HD := Lib.hid hD
  have HS := Lib.hid hs
  have HA := Lib.hid ((ascB_iff ns).1 hasc)
  have HI := Lib.hid hin
  have hlen := h.dims.2
  clear h hD hs hasc hin
  go_enter Try.func81, Try.ntmps81
  go_wp2
  go_loopw [7, 12] (fun v i wr => ∃ k m n : Nat, k ≤ ns.length ∧ i = .int .i64 k ∧ v = .int .i64 m ∧ m ≤ l.length ∧ wr = w.drewN n ∧ Hid (Above l s ns k m) ∧ Hid (k = 0 ∧ m = 0 ∨ ∃ b, ns[k - 1]? = some b ∧ 0 < k ∧ m = dnN l b.toNat s)) (fun _ i _ => ns.length - (intOf i).toNat)
  case atStart => exact ⟨0, 0, 0, Nat.zero_le _, rfl, rfl, Nat.zero_le _, rfl, above_start l s ns, .inl ⟨rfl, rfl⟩⟩
  case round =>
    obtain ⟨k, m, n, hk, rfl, rfl, hm, rfl, hV, hM⟩ := hrel
    by_cases hlt : k < ns.length
    · obtain ⟨ad, a, rfl, hbk, hx, hc⟩ := HD.out.get hlt
      have hai := HI.out a (List.mem_of_getElem? hx.out)
      obtain ⟨y, rfl⟩ := Int.eq_ofNat_of_zero_le hai.1
      have hy : y ≤ l.length := by omega
      have hub := up_bd (l := l) (f := y) (s := s)
      have hdb := dn_bd (l := l) (f := y) (s := s) hy
      by_cases hu : m < upN l y s
      · have HG := Lib.hid (light_gap H.out.dims HS.out HA.out HI.out hV.out hx.out hu)
        generalize hU : upN l y s = u at *
        have HU := Lib.hid hU
        have t1 : decide ((m : Int) < (u : Int)) = true := decide_eq_true (by omega)
        clear hU
        go_wp2_with (go_at_call 70; refine (up_any l _ _ y s _ (H.out.drewN n) hy).mono ?_; rintro e w2 ⟨rfl, n2, rfl⟩; rw [HU.out])
        go_ret
        exact ⟨ret_bool HG.out.symm, _, (by first | rfl | exact World.drewN_drewN _ _ _)⟩
      · have HG := Lib.hid (light_go H.out.dims HS.out HA.out HI.out hV.out hx.out (Nat.not_lt.1 hu) hM.out)
        generalize hU : upN l y s = u at *
        have HU := Lib.hid hU
        have t1 : decide ((m : Int) < (u : Int)) = false := decide_eq_false (by omega)
        clear hU
        go_wp2_with (first
          | (go_at_call 70; refine (up_any l _ _ y s _ (H.out.drewN n) hy).mono ?_; rintro e w2 ⟨rfl, n2, rfl⟩; rw [HU.out])
          | (go_at_call 71; refine (down_any l _ _ y s _ (H.out.drewN _) hy).mono ?_; rintro e w3 ⟨rfl, n3, rfl⟩))
        go_roundw
        case rel => exact ⟨k + 1, _, _, by omega, by go_num, rfl, hdb.2, (by first | rfl | (simp only [World.drewN_drewN]; rfl)), HG.out, .inr ⟨_, by rw [Nat.add_sub_cancel]; exact hx.out, by omega, rfl⟩⟩
        case measure => simp [intOf]; omega
    · have HE := Lib.hid (light_end hV.out (show ns.length ≤ k by omega) hm)
      go_wp2_with (go_at_call 61; refine (depth_any _ _ _ _ (by omega)).mono ?_; rintro e w1 ⟨rfl, rfl⟩)
      go_ret
      refine ⟨ret_bool ?_, _, rfl⟩
      rw [HE.out, Bool.eq_iff_iff]
      simp; try omega

set_option maxRecDepth 100000 in
set_option maxHeartbeats 400000 in
theorem iceLight_any (ms : List (Int × Int)) (A : Option Addr) (c : Nat) (s : Int) (ns : List Int) (D : Option Addr) (cd : Nat) (w : World) (h : Clk w A c ms) (hD : Ints w D ns) (hl : ns.length ≤ 700) :
    Calls Try.prog 39 #[.slice A ms.length c, .int .i64 s, .slice D ns.length cd] w fun e w' => ∃ (b : Bool) (E : Int), e = .returned (.tuple #[.bool b, .int .i64 E]) ∧ Below w.heap.size w w' ∧ Hid (b = lightR ms s ns ∧ E = lightE ms s ns) := by
  have H := Lib.hid (And.intro h hD)
  have hml : ns.length ≤ maxLen := by unfold maxLen; omega
  clear h hD
  by_cases h0 : lookByE ms ns s = 0
  · have H0 := Lib.hid h0
    have HL := Lib.hid (lookBy_all h0)
    clear h0
    cases ha : ascB ns with
    | false =>
      have HA := Lib.hid ha
      clear ha
      go_enter Try.func39, Try.ntmps39
      go_wp2_with (first
        | (go_at_call 69; refine (lookBy_ok H.out.1 H.out.2 hml H0.out).mono ?_; rintro e w1 ⟨A1, c1, rfl, hL, hB1⟩)
        | (go_at_call 80; refine (ascend_any ns _ _ _ (H.out.2.below hB1) hml).mono ?_; rintro e w2 ⟨rfl, n, rfl⟩; rw [HA.out]))
      go_ret2
      have e2 : lightE ms s ns = 2 := by rw [lightE, if_pos H0.out, HA.out]; rfl
      exact ⟨false, 2, rfl, below_drewN hB1 n, (lightR_no (by rw [e2]; decide)).symm, e2.symm⟩
    | true =>
      have HA := Lib.hid ha
      clear ha
      have e0 : Hid (lightE ms s ns = 0) := by show _ = _; rw [lightE, if_pos H0.out, HA.out]; rfl
      by_cases h6 : (ns.length : Int) ≤ 600
      · have H6 := Lib.hid h6
        have t1 : decide ((ns.length : Int) ≤ 600) = true := decide_eq_true h6
        clear h6
        go_enter Try.func39, Try.ntmps39
        go_wp2_with (first
          | (go_at_call 69; refine (lookBy_ok H.out.1 H.out.2 hml H0.out).mono ?_; rintro e w1 ⟨A1, c1, rfl, hL, hB1⟩)
          | (go_at_call 80; refine (ascend_any ns _ _ _ (H.out.2.below hB1) hml).mono ?_; rintro e w2 ⟨rfl, n, rfl⟩; rw [HA.out])
          | (go_at_call 81; refine (light_any (mtL ms) _ _ s ns _ _ _ (hL.drewN n) ((H.out.2.below hB1).below (below_drewN (Below.refl _ _) n)) HL.out.2.2.1 HA.out HL.out.2.1 hl).mono ?_; rintro e w3 ⟨rfl, m, rfl⟩))
        go_ret2
        exact ⟨_, _, rfl, below_drewN hB1 _, by rw [lightR_ok e0.out, decide_eq_true (by have := H6.out; omega)]; rfl, e0.out.symm⟩
      · have H6 := Lib.hid h6
        have t1 : decide ((ns.length : Int) ≤ 600) = false := decide_eq_false h6
        clear h6
        go_enter Try.func39, Try.ntmps39
        go_wp2_with (first
          | (go_at_call 69; refine (lookBy_ok H.out.1 H.out.2 hml H0.out).mono ?_; rintro e w1 ⟨A1, c1, rfl, hL, hB1⟩)
          | (go_at_call 80; refine (ascend_any ns _ _ _ (H.out.2.below hB1) hml).mono ?_; rintro e w2 ⟨rfl, n, rfl⟩; rw [HA.out]))
        go_ret2
        exact ⟨_, _, rfl, below_drewN hB1 _, by rw [lightR_ok e0.out, decide_eq_false (by have := H6.out; omega)]; rfl, e0.out.symm⟩
  · have H0 := Lib.hid h0
    clear h0
    go_enter Try.func39, Try.ntmps39
    go_wp2_with (go_at_call 69; refine (lookBy_no H.out.1 H.out.2 hml H0.out).mono ?_; rintro e w1 ⟨E, rfl, hE0, hB1, hE⟩)
    go_ret2
    have e2 : lightE ms s ns = lookByE ms ns s := by rw [lightE, if_neg H0.out]
    exact ⟨_, _, rfl, hB1, (lightR_no (by rw [e2]; exact H0.out)).symm, by rw [e2]; exact hE.out⟩
end Go.Proofs.Ytmndfcjkokolbaa
