/-
  Contracts: both AreDark.
-/
import Derived.Test.YtmndfcjkokolbaaDark
namespace Go.Proofs.Ytmndfcjkokolbaa
open Go.RowKit Go.Shelf

def areE (ms : List (Int × Int)) (s : Int) (ps : List Int) : Int := if lookByE ms [] s = 0 then (if ps.all (inB ((mtL ms).length - 1)) && ascB ps then 0 else 2) else lookByE ms [] s
/-- What AreDark answers. -/
def AreRes (ms : List (Int × Int)) (s : Int) (ps : List Int) (b : Bool) (E : Int) : Prop := E = areE ms s ps ∧ ((areE ms s ps = 0 ∧ (b = true ↔ DarkP (mtL ms) s ps)) ∨ (areE ms s ps ≠ 0 ∧ b = false))
theorem areRes_one {ms : List (Int × Int)} {s : Int} {ps : List Int} {b b2 : Bool} {E E2 : Int} (h : AreRes ms s ps b E) (h2 : AreRes ms s ps b2 E2) : b2 = b ∧ E2 = E := by
  obtain ⟨rfl, h⟩ := h
  obtain ⟨rfl, h2⟩ := h2
  refine ⟨?_, rfl⟩
  rcases h with ⟨h0, hk⟩ | ⟨h0, rfl⟩ <;> rcases h2 with ⟨h3, hj⟩ | ⟨h3, rfl⟩
  · rw [Bool.eq_iff_iff, hj, hk]
  · exact absurd h0 h3
  · exact absurd h3 h0
  · rfl
theorem areE_ok {ms : List (Int × Int)} {s : Int} {ps : List Int} (h : lookByE ms [] s = 0) (hp : (ps.all (inB ((mtL ms).length - 1)) && ascB ps) = true) : areE ms s ps = 0 := by rw [areE, if_pos h, if_pos hp]
theorem areE_arg {ms : List (Int × Int)} {s : Int} {ps : List Int} (h : lookByE ms [] s = 0) (hp : (ps.all (inB ((mtL ms).length - 1)) && ascB ps) = false) : areE ms s ps = 2 := by rw [areE, if_pos h, hp]; rfl
theorem areE_no {ms : List (Int × Int)} {s : Int} {ps : List Int} (h : lookByE ms [] s ≠ 0) : areE ms s ps = lookByE ms [] s := by rw [areE, if_neg h]
theorem asc_ge {ps : List Int} {m : Int} (h : Asc ps) (hi : ps.all (inB m) = true) : ∀ (j : Nat) (x : Int), ps[j]? = some x → (j : Int) ≤ x
  | 0, x, hx => by have := List.all_eq_true.1 hi x (List.mem_of_getElem? hx); simp [inB] at this; omega
  | j + 1, x, hx => by
    obtain ⟨y, hy⟩ := getElem?_of_lt (show j < ps.length by have := (List.getElem?_eq_some_iff.1 hx).1; omega)
    have := asc_ge h hi j y hy
    have := h j y x hy hx
    omega
theorem asc_len {ps : List Int} {n : Nat} (h : Asc ps) (hi : ps.all (inB ((n : Int) - 1)) = true) : ps.length ≤ n := by
  rcases Nat.eq_zero_or_pos ps.length with h0 | h0
  · omega
  · obtain ⟨x, hx⟩ := getElem?_of_lt (show ps.length - 1 < ps.length by omega)
    have h1 := asc_ge h hi _ x hx
    have := List.all_eq_true.1 hi x (List.mem_of_getElem? hx)
    simp [inB] at this
    omega

set_option maxRecDepth 100000 in
set_option maxHeartbeats 400000 in
theorem iceAreDark_any (ms : List (Int × Int)) (A : Option Addr) (c : Nat) (s : Int) (ps : List Int) (D : Option Addr) (cd : Nat) (w : World) (h : Clk w A c ms) (hD : Ints w D ps) (hl : ps.length ≤ 700) :
    Calls Try.prog 44 #[.slice A ms.length c, .int .i64 s, .slice D ps.length cd] w fun e w' => ∃ (b : Bool) (E : Int), e = .returned (.tuple #[.bool b, .int .i64 E]) ∧ Below w.heap.size w w' ∧ Hid (AreRes ms s ps b E) := by
  have H := Lib.hid (And.intro h hD)
  have hml : ps.length ≤ maxLen := by unfold maxLen; omega
  clear h hD
  by_cases h0 : lookByE ms [] s = 0
  · have H0 := Lib.hid h0
    have hlen := (mt_ok (askedE_in h0).1).2
    have s1 : IntKind.i64.wrap (((mtL ms).length : Int) - 1) = ((mtL ms).length : Int) - 1 := IntWalk.i64_in _ (by omega)
    clear h0
    cases ha : ps.all (inB ((mtL ms).length - 1)) with
    | false =>
      have HA := Lib.hid ha
      clear ha
      go_enter Try.func44, Try.ntmps44
      go_wp2_with (first
        | (go_at_call 69; refine (lookBy_ok (ds := []) H.out.1 Ints.nil_ (Nat.zero_le _) H0.out).mono ?_; rintro e w1 ⟨A1, c1, rfl, hL, hB1⟩)
        | (go_at_call 61; refine (depth_any _ _ _ _ (by omega)).mono ?_; rintro e w1' ⟨rfl, rfl⟩)
        | (go_at_call 64; refine (within_any _ ps _ _ _ (H.out.2.below hB1) hml).mono ?_; rintro e w2 ⟨rfl, n, rfl⟩; rw [HA.out]))
      go_ret2
      have e2 := areE_arg (ps := ps) H0.out (by rw [HA.out]; rfl)
      exact ⟨false, 2, rfl, below_drewN hB1 n, e2.symm, .inr ⟨by rw [e2]; decide, rfl⟩⟩
    | true =>
      have HA := Lib.hid ha
      clear ha
      cases hc : ascB ps with
      | false =>
        have HC := Lib.hid hc
        clear hc
        go_enter Try.func44, Try.ntmps44
        go_wp2_with (first
          | (go_at_call 69; refine (lookBy_ok (ds := []) H.out.1 Ints.nil_ (Nat.zero_le _) H0.out).mono ?_; rintro e w1 ⟨A1, c1, rfl, hL, hB1⟩)
          | (go_at_call 61; refine (depth_any _ _ _ _ (by omega)).mono ?_; rintro e w1' ⟨rfl, rfl⟩)
          | (go_at_call 64; refine (within_any _ ps _ _ _ (H.out.2.below hB1) hml).mono ?_; rintro e w2 ⟨rfl, n, rfl⟩; rw [HA.out])
          | (go_at_call 80; refine (ascend_any ps _ _ _ (H.out.2.below (below_drewN hB1 _)) hml).mono ?_; rintro e w3 ⟨rfl, n3, rfl⟩; rw [HC.out]))
        go_ret2
        have e2 := areE_arg (ps := ps) H0.out (by rw [HC.out, Bool.and_false])
        exact ⟨false, 2, rfl, below_drewN hB1 _, e2.symm, .inr ⟨by rw [e2]; decide, rfl⟩⟩
      | true =>
        have HC := Lib.hid hc
        clear hc
        go_enter Try.func44, Try.ntmps44
        go_wp2_with (first
          | (go_at_call 69; refine (lookBy_ok (ds := []) H.out.1 Ints.nil_ (Nat.zero_le _) H0.out).mono ?_; rintro e w1 ⟨A1, c1, rfl, hL, hB1⟩)
          | (go_at_call 61; refine (depth_any _ _ _ _ (by omega)).mono ?_; rintro e w1' ⟨rfl, rfl⟩)
          | (go_at_call 64; refine (within_any _ ps _ _ _ (H.out.2.below hB1) hml).mono ?_; rintro e w2 ⟨rfl, n, rfl⟩; rw [HA.out])
          | (go_at_call 80; refine (ascend_any ps _ _ _ (H.out.2.below (below_drewN hB1 _)) hml).mono ?_; rintro e w3 ⟨rfl, n3, rfl⟩; rw [HC.out])
          | (go_at_call 83; refine (areDark_any (mtL ms) _ _ s ps _ _ _ (hL.drewN _) (H.out.2.below (below_drewN hB1 _)) ((ascB_iff ps).1 HC.out) hl).mono ?_; rintro e w4 ⟨b, rfl, ⟨n4, rfl⟩, hb⟩))
        go_ret2
        have e0 := areE_ok (ps := ps) H0.out (by rw [HA.out, HC.out]; rfl)
        exact ⟨b, 0, rfl, below_drewN hB1 _, e0.symm, .inl ⟨e0, hb.out⟩⟩
  · have H0 := Lib.hid h0
    clear h0
    go_enter Try.func44, Try.ntmps44
    go_wp2_with (go_at_call 69; refine (lookBy_no (ds := []) H.out.1 Ints.nil_ (Nat.zero_le _) H0.out).mono ?_; rintro e w1 ⟨E, rfl, hE0, hB1, hE⟩)
    go_ret2
    have e2 := areE_no (ps := ps) H0.out
    exact ⟨false, E, rfl, hB1, by rw [e2]; exact hE.out, .inr ⟨by rw [e2]; exact H0.out, rfl⟩⟩

/-! ### firnref04's -/
def litAt (l : List Int) (s : Int) (a : Nat) (x : Int) : Bool := decide ((upN l a s : Int) ≤ x ∧ x < (dnN l a s : Int))
set_option maxRecDepth 100000 in
theorem lights_any (l : List Int) (A : Option Addr) (c : Nat) (a : Nat) (x s : Int) (w : World) (h : Ints w A l) (hd : dimsB l) (ha : a ≤ l.length) (hs0 : 0 ≤ s) (hs1 : s ≤ 1000000) :
    Calls Try.prog 84 #[.slice A l.length c, .int .i64 a, .int .i64 x, .int .i64 s] w fun e w' => e = .returned (.bool (litAt l s a x)) ∧ ∃ n, w' = w.drewN n := by
  have H := Lib.hid h
  have HD := Lib.hid hd
  have HL : Hid (litAt l s a x = decide ((upN l a s : Int) ≤ x ∧ x < (dnN l a s : Int))) := rfl
  clear h hd
  generalize hU : upN l a s = u at *
  generalize hN : dnN l a s = d at *
  have HUD := Lib.hid (And.intro hU hN)
  clear hU hN
  by_cases h1 : (u : Int) ≤ x
  · have t1 : decide ((u : Int) ≤ x) = true := decide_eq_true h1
    have HX := Lib.hid h1
    go_enter Try.func84, Try.ntmps84
    go_wp2_with (first
      | (go_at_call 72; refine (refup_any l _ _ a s _ H.out HD.out ha hs0 hs1).mono ?_; rintro e w1 ⟨rfl, n, rfl⟩; rw [HUD.out.1])
      | (go_at_call 73; refine (refdown_any l _ _ a s _ (H.out.below (below_drewN (Below.refl _ _) n)) HD.out ha hs0 hs1).mono ?_; rintro e w2 ⟨rfl, m, rfl⟩; rw [HUD.out.2]))
    go_ret
    exact ⟨ret_bool (by rw [HL.out]; exact decide_eq_decide.2 ⟨fun h => ⟨HX.out, h⟩, fun h => h.2⟩), _, rfl⟩
  · have t1 : decide ((u : Int) ≤ x) = false := decide_eq_false h1
    have HX := Lib.hid h1
    clear h1
    go_enter Try.func84, Try.ntmps84
    go_wp2_with (go_at_call 72; refine (refup_any l _ _ a s _ H.out HD.out ha hs0 hs1).mono ?_; rintro e w1 ⟨rfl, n, rfl⟩; rw [HUD.out.1])
    go_ret
    exact ⟨ret_bool (by rw [HL.out, decide_eq_false (fun h => absurd h.1 (by have := HX.out; omega))]), _, rfl⟩

theorem dark_of {l : List Int} {s : Int} {ps : List Int} (hasc : Asc ps) (h : ∀ (j : Nat) (x y : Int), ps[j]? = some x → ps[j + 1]? = some y → ∀ a, a ≤ l.length → (litAt l s a x && litAt l s a y) = false) : DarkP l s ps := by
  rintro a ha ⟨j, x, y, hx, hy, h1, h2⟩
  have h3 := h j x y hx hy a ha
  have h4 := hasc j x y hx hy
  rw [litAt, litAt, decide_eq_true (show _ ∧ _ by omega), decide_eq_true (show _ ∧ _ by omega)] at h3
  cases h3
theorem not_dark {l : List Int} {s : Int} {ps : List Int} {j a : Nat} {x y : Int} (hx : ps[j]? = some x) (hy : ps[j + 1]? = some y) (ha : a ≤ l.length) (h1 : litAt l s a x = true) (h2 : litAt l s a y = true) : ¬ DarkP l s ps := by
  intro hd
  simp only [litAt, decide_eq_true_eq] at h1 h2
  exact hd a ha ⟨j, x, y, hx, hy, h1.1, h2.2⟩

set_option maxRecDepth 100000 in
set_option maxHeartbeats 2000000 in
theorem refAreDark_any (ms : List (Int × Int)) (A : Option Addr) (c : Nat) (s : Int) (ps : List Int) (D : Option Addr) (cd : Nat) (w : World) (h : Clk w A c ms) (hD : Ints w D ps) (hl : ps.length ≤ 700) :
    Calls Try.prog 45 #[.slice A ms.length c, .int .i64 s, .slice D ps.length cd] w fun e w' => ∃ (b : Bool) (E : Int), e = .returned (.tuple #[.bool b, .int .i64 E]) ∧ Below w.heap.size w w' ∧ Hid (AreRes ms s ps b E) := by
  have H := Lib.hid (And.intro h hD)
  have hml : ps.length ≤ maxLen := by unfold maxLen; omega
  clear h hD
  by_cases h0 : lookByE ms [] s = 0
  · have H0 := Lib.hid h0
    have HV := Lib.hid (askedE_in h0)
    have hlen := (mt_ok HV.out.1).2
    have s1 : IntKind.i64.wrap (((mtL ms).length : Int) - 1) = ((mtL ms).length : Int) - 1 := IntWalk.i64_in _ (by omega)
    clear h0
    cases ha : (ps.all (inB ((mtL ms).length - 1)) && ascB ps) with
    | false =>
      have HA := Lib.hid ha
      clear ha
      go_enter Try.func45, Try.ntmps45
      go_wp2_with (first
        | (go_at_call 78; refine (asked_any ms _ _ _ _ H.out.1).mono ?_; rintro e w1 ⟨E, rfl, ⟨n, rfl⟩, hE⟩; obtain rfl : E = 0 := hE.out.trans H0.out)
        | (go_at_call 58; refine (metres_any ms _ _ _ (H.out.1.below (below_drewN (Below.refl _ _) n)).marks HV.out.1).mono ?_; rintro e w2 ⟨A2, c2, xs, rfl, hO, hB2, hx⟩; obtain rfl := hx.out; have hW2 := below_step (below_drewN (Below.refl w.heap.size w) n) hB2)
        | (go_at_call 82; refine (ascends_any ps _ _ _ _ (H.out.2.below hW2) hml).mono ?_; rintro e w3 ⟨rfl, n3, rfl⟩; rw [HA.out]))
      go_ret2
      have e2 := areE_arg (ps := ps) H0.out HA.out
      exact ⟨false, 2, rfl, below_drewN hW2 _, e2.symm, .inr ⟨by rw [e2]; decide, rfl⟩⟩
    | true =>
      have HA := Lib.hid ha
      have HA2 : Hid (ps.all (inB ((mtL ms).length - 1)) = true ∧ ascB ps = true) := by have := ha; rwa [Bool.and_eq_true] at this
      have HASC := Lib.hid ((ascB_iff ps).1 HA2.out.2)
      have hpl := asc_len HASC.out HA2.out.1
      have HS2 : Hid (0 ≤ s ∧ s ≤ 1000000) := by have := HV.out.2; show _ ∧ _; omega
      clear ha
      go_enter Try.func45, Try.ntmps45
      go_wp2_with (first
        | (go_at_call 78; refine (asked_any ms _ _ _ _ H.out.1).mono ?_; rintro e w1 ⟨E, rfl, ⟨n, rfl⟩, hE⟩; obtain rfl : E = 0 := hE.out.trans H0.out)
        | (go_at_call 58; refine (metres_any ms _ _ _ (H.out.1.below (below_drewN (Below.refl _ _) n)).marks HV.out.1).mono ?_; rintro e w2 ⟨A2, c2, xs, rfl, hO, hB2, hx⟩; obtain rfl := hx.out; have hW2 := below_step (below_drewN (Below.refl w.heap.size w) n) hB2)
        | (go_at_call 82; refine (ascends_any ps _ _ _ _ (H.out.2.below hW2) hml).mono ?_; rintro e w3 ⟨rfl, n3, rfl⟩; rw [HA.out]; have hW3 := below_drewN hW2 n3; have hO3 := hO.below (below_drewN (Below.refl w2.heap.size w2) n3); clear hO hW2 hB2; generalize w2.drewN n3 = wm at hW3 hO3 ⊢))
      have HI := Lib.hid hO3.ints
      have HD := Lib.hid (H.out.2.below hW3)
      clear hO3
      go_loopw [10] (fun i wr => ∃ k n : Nat, k ≤ ps.length ∧ i = .int .i64 k ∧ wr = wm.drewN n ∧ Hid (∀ (j : Nat) (x y : Int), j < k → ps[j]? = some x → ps[j + 1]? = some y → ∀ a, a ≤ (mtL ms).length → (litAt (mtL ms) s a x && litAt (mtL ms) s a y) = false)) (fun i _ => ps.length - (intOf i).toNat)
      case atStart => exact ⟨0, 0, Nat.zero_le _, rfl, rfl, fun j x y hj => absurd hj (Nat.not_lt_zero _)⟩
      case round =>
        obtain ⟨k, n, hk, rfl, rfl, hP⟩ := hrel
        by_cases hlt : k + 1 < ps.length
        · obtain ⟨bl, o, rfl, hbk, hcells⟩ := HD.out.open_ (show 0 < ps.length by omega)
          obtain ⟨x, hx0⟩ := getElem?_of_lt (show k < ps.length by omega)
          obtain ⟨y, hy0⟩ := getElem?_of_lt hlt
          have hc := hcells k x hx0
          have hc2 := hcells (k + 1) y hy0
          have hx := Lib.hid hx0
          have hy := Lib.hid hy0
          clear hx0 hy0 hcells
          have t0 : decide ((k : Int) + 1 < (ps.length : Int)) = true := decide_eq_true (by omega)
          have i0 : (0 : Int) ≤ (k : Int) := by omega
          have i1 : (k : Int) < (ps.length : Int) := by omega
          have i2 : (k : Int) + 1 < (ps.length : Int) := by omega
          have i3 : (0 : Int) ≤ (k : Int) + 1 := by omega
          have i4 : ((k : Int) + 1).toNat = k + 1 := by omega
          have i6 : k < ps.length := by omega
          have s2 : IntKind.i64.wrap ((k : Int) + 1) = (k : Int) + 1 := IntWalk.i64_in _ (by omega)
          obtain ⟨wo, hwo⟩ : ∃ wo : World, wo = wm.drewN n := ⟨_, rfl⟩
          go_wp2
          go_loopw [11] (fun i w6 => ∃ a n6 : Nat, a ≤ (mtL ms).length + 1 ∧ i = .int .i64 a ∧ w6 = wm.drewN n6 ∧ Hid (∀ b, b < a → (litAt (mtL ms) s b x && litAt (mtL ms) s b y) = false)) (fun i _ => (mtL ms).length + 1 - (intOf i).toNat)
          case atStart => exact ⟨0, n, Nat.zero_le _, rfl, by first | rfl | exact hwo | exact hwo.symm | simp [hwo], fun b hb => absurd hb (Nat.not_lt_zero _)⟩
          case round =>
            obtain ⟨a, n6, ha, rfl, rfl, hQ⟩ := hrel
            have TA : Hid True := Lib.hid trivial
            by_cases hal : a ≤ (mtL ms).length
            · have t1 : decide ((a : Int) ≤ ((mtL ms).length : Int)) = true := decide_eq_true (by omega)
              cases hx1 : litAt (mtL ms) s a x with
              | false =>
                have HX1 := Lib.hid hx1
                clear hx1
                go_wp2_with (go_at_call 84; refine (lights_any (mtL ms) _ _ a x s _ (HI.out.below (below_drewN (Below.refl _ _) _)) (mt_ok HV.out.1) hal HS2.out.1 HS2.out.2).mono ?_; rintro e w7 ⟨rfl, n7, rfl⟩; rw [HX1.out])
                go_roundw
                case rel => exact ⟨a + 1, _, by omega, by go_num, (by first | rfl | exact World.drewN_drewN _ _ _), fun b hb => by
                  rcases Nat.lt_or_ge b a with h | h
                  · exact hQ.out b h
                  · obtain rfl : b = a := by omega
                    rw [HX1.out]; rfl⟩
                case measure => simp [intOf]; omega
              | true =>
                have HX1 := Lib.hid hx1
                clear hx1
                cases hy1 : litAt (mtL ms) s a y with
                | false =>
                  have HY1 := Lib.hid hy1
                  clear hy1
                  go_wp2_with (first
                    | (go_at_call 84; clear TA; refine (lights_any (mtL ms) _ _ a x s _ (HI.out.below (below_drewN (Below.refl _ _) _)) (mt_ok HV.out.1) hal HS2.out.1 HS2.out.2).mono ?_; rintro e w7 ⟨rfl, n7, rfl⟩; rw [HX1.out])
                    | (go_at_call 84; refine (lights_any (mtL ms) _ _ a y s _ (HI.out.below (below_drewN (Below.refl _ _) _)) (mt_ok HV.out.1) hal HS2.out.1 HS2.out.2).mono ?_; rintro e w8 ⟨rfl, n8, rfl⟩; rw [HY1.out]))
                  go_roundw
                  case rel => exact ⟨a + 1, _, by omega, by go_num, (by first | rfl | (simp only [World.drewN_drewN]; rfl)), fun b hb => by
                    rcases Nat.lt_or_ge b a with h | h
                    · exact hQ.out b h
                    · obtain rfl : b = a := by omega
                      rw [HY1.out, Bool.and_false]⟩
                  case measure => simp [intOf]; omega
                | true =>
                  have HY1 := Lib.hid hy1
                  clear hy1
                  go_wp2_with (first
                    | (go_at_call 84; clear TA; refine (lights_any (mtL ms) _ _ a x s _ (HI.out.below (below_drewN (Below.refl _ _) _)) (mt_ok HV.out.1) hal HS2.out.1 HS2.out.2).mono ?_; rintro e w7 ⟨rfl, n7, rfl⟩; rw [HX1.out])
                    | (go_at_call 84; refine (lights_any (mtL ms) _ _ a y s _ (HI.out.below (below_drewN (Below.refl _ _) _)) (mt_ok HV.out.1) hal HS2.out.1 HS2.out.2).mono ?_; rintro e w8 ⟨rfl, n8, rfl⟩; rw [HY1.out]))
                  go_ret2
                  have e0 := areE_ok (ps := ps) H0.out HA.out
                  exact ⟨false, 0, rfl, below_drewN hW3 _, e0.symm, .inl ⟨e0, fun h => by (cases h), fun h => absurd h (not_dark hx.out hy.out hal HX1.out HY1.out)⟩⟩
            · have t1 : decide ((a : Int) ≤ ((mtL ms).length : Int)) = false := decide_eq_false (by omega)
              go_wp2
              go_roundw
              case rel => exact ⟨k + 1, _, by omega, by go_num, rfl, fun j x' y' hj h1 h2 => by
                rcases Nat.lt_or_ge j k with h | h
                · exact hP.out j x' y' h h1 h2
                · obtain rfl : j = k := by omega
                  rw [hx.out] at h1
                  rw [hy.out] at h2
                  cases h1; cases h2
                  intro b hb
                  exact hQ.out b (by omega)⟩
              case measure => simp [intOf]; omega
        · have t0 : decide ((k : Int) + 1 < (ps.length : Int)) = false := decide_eq_false (by omega)
          have s2 : IntKind.i64.wrap ((k : Int) + 1) = (k : Int) + 1 := IntWalk.i64_in _ (by omega)
          have t2 : decide ((ps.length : Int) ≤ 600) = true := decide_eq_true (by omega)
          go_wp2
          go_ret2
          have e0 := areE_ok (ps := ps) H0.out HA.out
          exact ⟨true, 0, rfl, below_drewN hW3 _, e0.symm, .inl ⟨e0, fun _ => dark_of HASC.out (fun j x y hx hy => hP.out j x y (by have := (List.getElem?_eq_some_iff.1 hy).1; omega) hx hy), fun _ => rfl⟩⟩
  · have H0 := Lib.hid h0
    clear h0
    go_enter Try.func45, Try.ntmps45
    go_wp2_with (go_at_call 78; refine (asked_any ms _ _ _ _ H.out.1).mono ?_; rintro e w1 ⟨E, rfl, ⟨n, rfl⟩, hE⟩; have hE0 : (E != 0) = true := (by have := hE.out; have := H0.out; simp; omega))
    go_ret2
    have e2 := areE_no (ps := ps) H0.out
    exact ⟨false, E, rfl, (by repeat (first | with_reducible exact Below.refl _ _ | with_reducible assumption | refine below_drewN ?_ _ | with_reducible refine Below.drew ?_ | (refine Below.setCell ?_ (by first | (simp; done) | (simp; omega) | omega) _) | (refine Below.alloc ?_ (by first | (simp; done) | (simp; omega) | omega) _))), by rw [e2]; exact hE.out, .inr ⟨by rw [e2]; exact H0.out, rfl⟩⟩
end Go.Proofs.Ytmndfcjkokolbaa
