/-
  The walk of IceReaches: it returns true, whatever it is given.
-/
import Derived.Test.YtmndfcjkokolbaaReachM
import Derived.BigQuiet
namespace Go.Proofs.Ytmndfcjkokolbaa
open Go.RowKit Go.Shelf

theorem lit_facts {ms : List (Int × Int)} {f s u d : Int} (hv : viB ms = true) (hf : 0 ≤ f ∧ f ≤ depthN ms) (hs : 0 ≤ s ∧ s ≤ 100000) (hu : u = litU ms f s) (hd : d = litD ms f s) :
    0 ≤ u ∧ u ≤ f ∧ f ≤ d ∧ d ≤ depthN ms ∧ (∀ t, f ≤ t → t ≤ depthN ms → (t ≤ d ↔ lossI (mtL ms) f t ≤ s)) ∧ (∀ t, 0 ≤ t → t ≤ f → (u ≤ t ↔ lossI (mtL ms) f t ≤ s)) := by
  have e := litE_ok hv hf hs
  rw [litU, if_pos e] at hu
  rw [litD, if_pos e] at hd
  subst hu hd
  obtain ⟨x, rfl⟩ := Int.eq_ofNat_of_zero_le hf.1
  have hx : x ≤ (mtL ms).length := by have := hf.2; unfold depthN at this; omega
  simp only [Int.toNat_natCast]
  have h1 := dn_bd (l := mtL ms) (f := x) (s := s) hx
  have h2 := up_bd (l := mtL ms) (f := x) (s := s)
  refine ⟨by omega, by omega, by omega, by unfold depthN; omega, fun t h3 h4 => ?_, fun t h3 h4 => ?_⟩
  · obtain ⟨y, rfl⟩ := Int.eq_ofNat_of_zero_le (show 0 ≤ t by omega)
    have := dn_iff (l := mtL ms) (f := x) (t := y) (s := s) (mt_ok hv) hs.1 (by omega) (by unfold depthN at h4; omega)
    omega
  · obtain ⟨y, rfl⟩ := Int.eq_ofNat_of_zero_le h3
    have := up_iff (l := mtL ms) (f := x) (t := y) (s := s) (mt_ok hv) hs.1 (by omega) hx
    omega
theorem mid_facts {ms : List (Int × Int)} {r E : Int} (hv : viB ms = true) (h : MidRes ms r E) : E = 0 ∧ 0 ≤ r ∧ r ≤ depthN ms ∧ lossI (mtL ms) r (depthN ms) ≤ lossI (mtL ms) 0 r := by
  have e := depthE_ok hv
  obtain ⟨rfl, h⟩ := h
  rcases h with ⟨_, k, rfl, hk⟩ | ⟨h, _⟩
  · have h1 := refloss_down hk.1
    have h2 := refloss_up (l := mtL ms) (k := k)
    refine ⟨e, by omega, by have := hk.1; unfold depthN; omega, ?_⟩
    unfold depthN
    rw [h1, h2]
    exact hk.2.1
  · exact absurd e h
theorem lossF {ms : List (Int × Int)} {a b r E : Int} (hv : viB ms = true) (ha : 0 ≤ a ∧ a ≤ depthN ms) (hb : 0 ≤ b ∧ b ≤ depthN ms) (h : r = lossR ms a b ∧ E = lossE ms a b) : E = 0 ∧ r = lossI (mtL ms) a b ∧ 0 ≤ r ∧ r ≤ 60000 := by
  have e := lossE_ok hv ha hb
  have hb := loss_bd (mt_ok hv) a b
  rw [lossR_of e, e] at h
  exact ⟨h.2, h.1, by omega, by omega⟩
theorem modF {a : Int} {n : Nat} (_h : 0 ≤ a) : 0 ≤ a % ((n : Int) + 1) ∧ a % ((n : Int) + 1) ≤ n := by
  have h1 := Int.emod_nonneg a (show ((n : Int) + 1) ≠ 0 by omega)
  have h2 := Int.emod_lt_of_pos a (show 0 < ((n : Int) + 1) by omega)
  omega

set_option maxRecDepth 100000 in
set_option maxHeartbeats 2000000 in
theorem iceReaches_walk (ms : List (Int × Int)) (A : Option Addr) (c : Nat) (a b s : Int) (w : World) (hA : Marks w A ms) (hc : ms.length ≤ c) (hc0 : c ≤ maxLen) (ha : (Lit.int .u16 a).wf = true) (hb : (Lit.int .u16 b).wf = true) (hs : (Lit.int .u16 s).wf = true) :
    Calls Try.prog 11 #[.slice A ms.length c, .agg #[.int .u16 a, .int .u16 b], .int .u16 s] w fun e w' => e = .returned (.bool true) ∧ Below w.heap.size w w' := by
  have H : Hid (Clk w A c ms) := ⟨hA, hc, hc0⟩
  have hab := bounds_u16 ha
  have hbb := bounds_u16 hb
  have hsb := bounds_u16 hs
  clear hA hc hc0 ha hb hs
  have hB0 : Below w.heap.size w (w.alloc (.cells #[.int .u16 a, .int .u16 b] 58)) := (by repeat (first | with_reducible exact Below.refl _ _ | with_reducible assumption | refine below_drewN ?_ _ | with_reducible refine Below.drew ?_ | (refine Below.setCell ?_ (by first | (simp; done) | (simp; omega) | omega) _) | (refine Below.alloc ?_ (by first | (simp; done) | (simp; omega) | omega) _)))
  by_cases hm : 60 < ms.length
  · have hm1 : decide (60 < ms.length) = true := decide_eq_true hm
    go_enter Try.func11, Try.ntmps11
    go_wp2_with (first
      | (go_at_call 17; refine (lawLong_any _ _ _ _).mono ?_; rintro e w' ⟨rfl, rfl⟩)
      | (go_at_call 18; refine (sane_any _).mono ?_; rintro e w' ⟨rfl, hW⟩))
    go_ret
    exact ⟨rfl, hB0.trans (hW.mono (by simp))⟩
  have hm1 : decide (60 < ms.length) = false := decide_eq_false hm
  clear hm
  cases hv : viB ms with
  | false =>
    go_enter Try.func11, Try.ntmps11
    go_wp2_with (first
      | (go_at_call 17; refine (lawLong_any _ _ _ _).mono ?_; rintro e w' ⟨rfl, rfl⟩)
      | (go_at_call 22; refine (refValid_any ms _ _ _ (H.out.below hB0).marks H.out.len).mono ?_; rintro e w1 ⟨rfl, n, rfl⟩)
      | (go_at_call 18; refine (sane_any _).mono ?_; rintro e w' ⟨rfl, hW⟩))
    go_ret
    exact ⟨rfl, Below.trans (below_drewN hB0 n) (hW.mono (by simp))⟩
  | true =>
  have HV := Lib.hid hv
  have hlen := (mt_ok hv).2
  have s0 : IntKind.i64.wrap a = a := IntWalk.i64_in _ (by omega)
  have s1 : IntKind.i64.wrap b = b := IntWalk.i64_in _ (by omega)
  have s2 : IntKind.i64.wrap s = s := IntWalk.i64_in _ (by omega)
  have hfb := modF (a := a) (n := (mtL ms).length) (by omega)
  have htb := modF (a := b) (n := (mtL ms).length) (by omega)
  have hn1 : ((mtL ms).length : Int) + 1 ≠ 0 := by omega
  have hn2 : (((mtL ms).length : Int) + 1 == 0) = false := by simp; omega
  generalize hf : a % (((mtL ms).length : Int) + 1) = fr at hfb
  generalize ht : b % (((mtL ms).length : Int) + 1) = tt at htb
  have HF : Hid (0 ≤ fr ∧ fr ≤ depthN ms) := hfb
  have HT : Hid (0 ≤ tt ∧ tt ≤ depthN ms) := htb
  have HS : Hid (0 ≤ s ∧ s ≤ 100000) := Lib.hid (by omega)
  have TA : Hid True := Lib.hid trivial
  have TB : Hid True := Lib.hid trivial
  rcases Int.lt_trichotomy fr tt with hord | hord | hord
  · skip
    have o0 : decide (fr ≤ tt) = true := decide_eq_true (by omega); have o1 : decide (tt ≤ fr) = false := decide_eq_false (by omega); have o2 : decide (tt < fr) = false := decide_eq_false (by omega); have o3 : decide (fr < tt) = true := decide_eq_true (by omega); have HO := Lib.hid hord; clear hord
    go_enter Try.func11, Try.ntmps11
    go_wp2_with (first
      | (go_at_call 17; refine (lawLong_any _ _ _ _).mono ?_; rintro e w' ⟨rfl, rfl⟩)
      | (go_at_call 22; refine (refValid_any ms _ _ _ (H.out.below hB0).marks H.out.len).mono ?_; rintro e w1 ⟨rfl, n, rfl⟩)
      | (go_at_call 58; refine (metres_any ms _ _ _ (H.out.below (below_drewN hB0 n)).marks HV.out).mono ?_; rintro e w2 ⟨A2, c2, xs, rfl, hO, hB2, hx⟩; obtain rfl := hx.out; have hW2 : Below w.heap.size w w2 := Below.trans (below_drewN hB0 n) (hB2.mono (by simp)); have c0 := (hB2.cell (p := ⟨w.heap.size, 0, none⟩) (by simp)).trans (show World.cell? _ _ = some (.int .u16 a) by go_simp); have c1 := (hB2.cell (p := ⟨w.heap.size, 1, none⟩) (by simp)).trans (show World.cell? _ _ = some (.int .u16 b) by go_simp); clear hB2 hx hO))
    go_quiet (fail)
    go_wp2_with (first
      | (go_at_call 25; clear TA; refine (iceLoss_any ms _ _ fr tt _ (H.out.below (below_drewN hW2 _))).mono ?_; rintro e w3 ⟨r, E, rfl, hB3, hF3⟩; obtain ⟨e3, h3, h30, h31⟩ := lossF HV.out HF.out HT.out hF3.out; subst e3; have H3 := Lib.hid h3; clear h3 hF3; have hW3 : Below w.heap.size w w3 := Below.trans (below_drewN hW2 _) (hB3.mono (by have := hW2.size; simp; omega)))
      | (go_at_call 29; clear TB; refine (iceLit_any ms _ _ fr s _ (H.out.below hW3)).mono ?_; rintro e w4 ⟨u, d, E, rfl, hB4, hF4⟩; obtain rfl : E = 0 := hF4.out.2.2.trans (litE_ok HV.out HF.out HS.out); have hl := lit_facts HV.out HF.out HS.out hF4.out.1 hF4.out.2.1; have HL := Lib.hid hl; clear hF4; have hW4 := below_step hW3 hB4; obtain ⟨u0, u1, d0, d1, _, _⟩ := hl; have hr100 : Hid (0 ≤ r ∧ r ≤ 100000) := Lib.hid (by omega))
      | (go_at_call 29; refine (iceLit_any ms _ _ fr r _ (H.out.below hW4)).mono ?_; rintro e w5 ⟨hi, lo, E, rfl, hB5, hF5⟩; obtain rfl : E = 0 := hF5.out.2.2.trans (litE_ok HV.out HF.out hr100.out); have hl2 := lit_facts HV.out HF.out hr100.out hF5.out.1 hF5.out.2.1; have HL2 := Lib.hid hl2; clear hF5 hl2; have hW5 := below_step hW4 hB5; have b1 : decide (u < 0) = false := decide_eq_false (by omega); have b2 : decide (fr < u) = false := decide_eq_false (by omega); have b3 : decide (d < fr) = false := decide_eq_false (by omega); have b4 : decide (((mtL ms).length : Int) < d) = false := decide_eq_false (by have := HL.out.2.2.2.1; unfold depthN at this; omega); have g1 := (HL.out.2.2.2.2.1 tt (by have := HO.out; omega) HT.out.2); rw [← H3.out] at g1; have b5 : decide (tt ≤ d) = decide (r ≤ s) := (by by_cases hq : r ≤ s <;> simp [hq, g1]); have g3 := (HL2.out.2.2.2.2.1 tt (by have := HO.out; omega) HT.out.2); rw [← H3.out] at g3; have b7 : decide (tt ≤ lo) = true := decide_eq_true (g3.2 (Int.le_refl _)))
      | (go_at_call 35; refine (iceMiddle_any ms _ _ _ (H.out.below hW5)).mono ?_; rintro e w6 ⟨k, E, rfl, hB6, hF6⟩; have hmid := mid_facts HV.out hF6.out; clear hF6; obtain ⟨e6, k0, k1, k2⟩ := hmid; subst e6; have HK : Hid (0 ≤ k ∧ k ≤ depthN ms) := Lib.hid ⟨k0, k1⟩; have HK2 := Lib.hid k2; clear k2; have hW6 := below_step hW5 hB6; have TC : Hid True := Lib.hid trivial)
      | (go_at_call 25; clear TC; refine (iceLoss_any ms _ _ 0 k _ (H.out.below hW6)).mono ?_; rintro e w7 ⟨r7, E, rfl, hB7, hF7⟩; obtain ⟨e7, h7, h70, h71⟩ := lossF HV.out (show 0 ≤ (0 : Int) ∧ (0 : Int) ≤ depthN ms by omega) HK.out hF7.out; subst e7; have H7 := Lib.hid h7; clear h7 hF7; have hW7 := below_step hW6 hB7)
      | (go_at_call 25; refine (iceLoss_any ms _ _ k (depthN ms) _ (H.out.below hW7)).mono ?_; rintro e w8 ⟨r8, E, rfl, hB8, hF8⟩; obtain ⟨e8, h8, h80, h81⟩ := lossF HV.out HK.out (show 0 ≤ (depthN ms : Int) ∧ (depthN ms : Int) ≤ depthN ms by omega) hF8.out; subst e8; have H8 := Lib.hid h8; clear h8 hF8; have hW8 := below_step hW7 hB8; have b9 : decide (r8 ≤ r7) = true := decide_eq_true (by rw [H8.out, H7.out]; exact HK2.out))
      | (go_at_call 18; refine (sane_any _).mono ?_; rintro e w9 ⟨rfl, hB9⟩)
      | fail)
    go_ret
    exact ⟨rfl, below_step hW8 hB9⟩
  · skip
    have o0 : decide (fr ≤ tt) = true := decide_eq_true (by omega); have o1 : decide (tt ≤ fr) = true := decide_eq_true (by omega); have o2 : decide (tt < fr) = false := decide_eq_false (by omega); have o3 : decide (fr < tt) = false := decide_eq_false (by omega); have HO := Lib.hid hord; clear hord
    go_enter Try.func11, Try.ntmps11
    go_wp2_with (first
      | (go_at_call 17; refine (lawLong_any _ _ _ _).mono ?_; rintro e w' ⟨rfl, rfl⟩)
      | (go_at_call 22; refine (refValid_any ms _ _ _ (H.out.below hB0).marks H.out.len).mono ?_; rintro e w1 ⟨rfl, n, rfl⟩)
      | (go_at_call 58; refine (metres_any ms _ _ _ (H.out.below (below_drewN hB0 n)).marks HV.out).mono ?_; rintro e w2 ⟨A2, c2, xs, rfl, hO, hB2, hx⟩; obtain rfl := hx.out; have hW2 : Below w.heap.size w w2 := Below.trans (below_drewN hB0 n) (hB2.mono (by simp)); have c0 := (hB2.cell (p := ⟨w.heap.size, 0, none⟩) (by simp)).trans (show World.cell? _ _ = some (.int .u16 a) by go_simp); have c1 := (hB2.cell (p := ⟨w.heap.size, 1, none⟩) (by simp)).trans (show World.cell? _ _ = some (.int .u16 b) by go_simp); clear hB2 hx hO))
    go_quiet (fail)
    go_wp2_with (first
      | (go_at_call 25; clear TA; refine (iceLoss_any ms _ _ fr tt _ (H.out.below (below_drewN hW2 _))).mono ?_; rintro e w3 ⟨r, E, rfl, hB3, hF3⟩; obtain ⟨e3, h3, h30, h31⟩ := lossF HV.out HF.out HT.out hF3.out; subst e3; have H3 := Lib.hid h3; clear h3 hF3; have hW3 : Below w.heap.size w w3 := Below.trans (below_drewN hW2 _) (hB3.mono (by have := hW2.size; simp; omega)))
      | (go_at_call 29; clear TB; refine (iceLit_any ms _ _ fr s _ (H.out.below hW3)).mono ?_; rintro e w4 ⟨u, d, E, rfl, hB4, hF4⟩; obtain rfl : E = 0 := hF4.out.2.2.trans (litE_ok HV.out HF.out HS.out); have hl := lit_facts HV.out HF.out HS.out hF4.out.1 hF4.out.2.1; have HL := Lib.hid hl; clear hF4; have hW4 := below_step hW3 hB4; obtain ⟨u0, u1, d0, d1, _, _⟩ := hl; have hr100 : Hid (0 ≤ r ∧ r ≤ 100000) := Lib.hid (by omega))
      | (go_at_call 29; refine (iceLit_any ms _ _ fr r _ (H.out.below hW4)).mono ?_; rintro e w5 ⟨hi, lo, E, rfl, hB5, hF5⟩; obtain rfl : E = 0 := hF5.out.2.2.trans (litE_ok HV.out HF.out hr100.out); have hl2 := lit_facts HV.out HF.out hr100.out hF5.out.1 hF5.out.2.1; have HL2 := Lib.hid hl2; clear hF5 hl2; have hW5 := below_step hW4 hB5; have b1 : decide (u < 0) = false := decide_eq_false (by omega); have b2 : decide (fr < u) = false := decide_eq_false (by omega); have b3 : decide (d < fr) = false := decide_eq_false (by omega); have b4 : decide (((mtL ms).length : Int) < d) = false := decide_eq_false (by have := HL.out.2.2.2.1; unfold depthN at this; omega); have g1 := (HL.out.2.2.2.2.1 tt (by have := HO.out; omega) HT.out.2); rw [← H3.out] at g1; have b5 : decide (tt ≤ d) = decide (r ≤ s) := (by by_cases hq : r ≤ s <;> simp [hq, g1]); have g2 := (HL.out.2.2.2.2.2 tt HT.out.1 (by have := HO.out; omega)); rw [← H3.out] at g2; have b6 : decide (u ≤ tt) = decide (r ≤ s) := (by by_cases hq : r ≤ s <;> simp [hq, g2]); have g3 := (HL2.out.2.2.2.2.1 tt (by have := HO.out; omega) HT.out.2); rw [← H3.out] at g3; have b7 : decide (tt ≤ lo) = true := decide_eq_true (g3.2 (Int.le_refl _)); have g4 := (HL2.out.2.2.2.2.2 tt HT.out.1 (by have := HO.out; omega)); rw [← H3.out] at g4; have b8 : decide (hi ≤ tt) = true := decide_eq_true (g4.2 (Int.le_refl _)))
      | (go_at_call 35; refine (iceMiddle_any ms _ _ _ (H.out.below hW5)).mono ?_; rintro e w6 ⟨k, E, rfl, hB6, hF6⟩; have hmid := mid_facts HV.out hF6.out; clear hF6; obtain ⟨e6, k0, k1, k2⟩ := hmid; subst e6; have HK : Hid (0 ≤ k ∧ k ≤ depthN ms) := Lib.hid ⟨k0, k1⟩; have HK2 := Lib.hid k2; clear k2; have hW6 := below_step hW5 hB6; have TC : Hid True := Lib.hid trivial)
      | (go_at_call 25; clear TC; refine (iceLoss_any ms _ _ 0 k _ (H.out.below hW6)).mono ?_; rintro e w7 ⟨r7, E, rfl, hB7, hF7⟩; obtain ⟨e7, h7, h70, h71⟩ := lossF HV.out (show 0 ≤ (0 : Int) ∧ (0 : Int) ≤ depthN ms by omega) HK.out hF7.out; subst e7; have H7 := Lib.hid h7; clear h7 hF7; have hW7 := below_step hW6 hB7)
      | (go_at_call 25; refine (iceLoss_any ms _ _ k (depthN ms) _ (H.out.below hW7)).mono ?_; rintro e w8 ⟨r8, E, rfl, hB8, hF8⟩; obtain ⟨e8, h8, h80, h81⟩ := lossF HV.out HK.out (show 0 ≤ (depthN ms : Int) ∧ (depthN ms : Int) ≤ depthN ms by omega) hF8.out; subst e8; have H8 := Lib.hid h8; clear h8 hF8; have hW8 := below_step hW7 hB8; have b9 : decide (r8 ≤ r7) = true := decide_eq_true (by rw [H8.out, H7.out]; exact HK2.out))
      | (go_at_call 18; refine (sane_any _).mono ?_; rintro e w9 ⟨rfl, hB9⟩)
      | fail)
    go_ret
    exact ⟨rfl, below_step hW8 hB9⟩
  · skip
    have o0 : decide (fr ≤ tt) = false := decide_eq_false (by omega); have o1 : decide (tt ≤ fr) = true := decide_eq_true (by omega); have o2 : decide (tt < fr) = true := decide_eq_true (by omega); have o3 : decide (fr < tt) = false := decide_eq_false (by omega); have HO := Lib.hid hord; clear hord
    go_enter Try.func11, Try.ntmps11
    go_wp2_with (first
      | (go_at_call 17; refine (lawLong_any _ _ _ _).mono ?_; rintro e w' ⟨rfl, rfl⟩)
      | (go_at_call 22; refine (refValid_any ms _ _ _ (H.out.below hB0).marks H.out.len).mono ?_; rintro e w1 ⟨rfl, n, rfl⟩)
      | (go_at_call 58; refine (metres_any ms _ _ _ (H.out.below (below_drewN hB0 n)).marks HV.out).mono ?_; rintro e w2 ⟨A2, c2, xs, rfl, hO, hB2, hx⟩; obtain rfl := hx.out; have hW2 : Below w.heap.size w w2 := Below.trans (below_drewN hB0 n) (hB2.mono (by simp)); have c0 := (hB2.cell (p := ⟨w.heap.size, 0, none⟩) (by simp)).trans (show World.cell? _ _ = some (.int .u16 a) by go_simp); have c1 := (hB2.cell (p := ⟨w.heap.size, 1, none⟩) (by simp)).trans (show World.cell? _ _ = some (.int .u16 b) by go_simp); clear hB2 hx hO))
    go_quiet (fail)
    go_wp2_with (first
      | (go_at_call 25; clear TA; refine (iceLoss_any ms _ _ fr tt _ (H.out.below (below_drewN hW2 _))).mono ?_; rintro e w3 ⟨r, E, rfl, hB3, hF3⟩; obtain ⟨e3, h3, h30, h31⟩ := lossF HV.out HF.out HT.out hF3.out; subst e3; have H3 := Lib.hid h3; clear h3 hF3; have hW3 : Below w.heap.size w w3 := Below.trans (below_drewN hW2 _) (hB3.mono (by have := hW2.size; simp; omega)))
      | (go_at_call 29; clear TB; refine (iceLit_any ms _ _ fr s _ (H.out.below hW3)).mono ?_; rintro e w4 ⟨u, d, E, rfl, hB4, hF4⟩; obtain rfl : E = 0 := hF4.out.2.2.trans (litE_ok HV.out HF.out HS.out); have hl := lit_facts HV.out HF.out HS.out hF4.out.1 hF4.out.2.1; have HL := Lib.hid hl; clear hF4; have hW4 := below_step hW3 hB4; obtain ⟨u0, u1, d0, d1, _, _⟩ := hl; have hr100 : Hid (0 ≤ r ∧ r ≤ 100000) := Lib.hid (by omega))
      | (go_at_call 29; refine (iceLit_any ms _ _ fr r _ (H.out.below hW4)).mono ?_; rintro e w5 ⟨hi, lo, E, rfl, hB5, hF5⟩; obtain rfl : E = 0 := hF5.out.2.2.trans (litE_ok HV.out HF.out hr100.out); have hl2 := lit_facts HV.out HF.out hr100.out hF5.out.1 hF5.out.2.1; have HL2 := Lib.hid hl2; clear hF5 hl2; have hW5 := below_step hW4 hB5; have b1 : decide (u < 0) = false := decide_eq_false (by omega); have b2 : decide (fr < u) = false := decide_eq_false (by omega); have b3 : decide (d < fr) = false := decide_eq_false (by omega); have b4 : decide (((mtL ms).length : Int) < d) = false := decide_eq_false (by have := HL.out.2.2.2.1; unfold depthN at this; omega); have g2 := (HL.out.2.2.2.2.2 tt HT.out.1 (by have := HO.out; omega)); rw [← H3.out] at g2; have b6 : decide (u ≤ tt) = decide (r ≤ s) := (by by_cases hq : r ≤ s <;> simp [hq, g2]); have g4 := (HL2.out.2.2.2.2.2 tt HT.out.1 (by have := HO.out; omega)); rw [← H3.out] at g4; have b8 : decide (hi ≤ tt) = true := decide_eq_true (g4.2 (Int.le_refl _)))
      | (go_at_call 35; refine (iceMiddle_any ms _ _ _ (H.out.below hW5)).mono ?_; rintro e w6 ⟨k, E, rfl, hB6, hF6⟩; have hmid := mid_facts HV.out hF6.out; clear hF6; obtain ⟨e6, k0, k1, k2⟩ := hmid; subst e6; have HK : Hid (0 ≤ k ∧ k ≤ depthN ms) := Lib.hid ⟨k0, k1⟩; have HK2 := Lib.hid k2; clear k2; have hW6 := below_step hW5 hB6; have TC : Hid True := Lib.hid trivial)
      | (go_at_call 25; clear TC; refine (iceLoss_any ms _ _ 0 k _ (H.out.below hW6)).mono ?_; rintro e w7 ⟨r7, E, rfl, hB7, hF7⟩; obtain ⟨e7, h7, h70, h71⟩ := lossF HV.out (show 0 ≤ (0 : Int) ∧ (0 : Int) ≤ depthN ms by omega) HK.out hF7.out; subst e7; have H7 := Lib.hid h7; clear h7 hF7; have hW7 := below_step hW6 hB7)
      | (go_at_call 25; refine (iceLoss_any ms _ _ k (depthN ms) _ (H.out.below hW7)).mono ?_; rintro e w8 ⟨r8, E, rfl, hB8, hF8⟩; obtain ⟨e8, h8, h80, h81⟩ := lossF HV.out HK.out (show 0 ≤ (depthN ms : Int) ∧ (depthN ms : Int) ≤ depthN ms by omega) hF8.out; subst e8; have H8 := Lib.hid h8; clear h8 hF8; have hW8 := below_step hW7 hB8; have b9 : decide (r8 ≤ r7) = true := decide_eq_true (by rw [H8.out, H7.out]; exact HK2.out))
      | (go_at_call 18; refine (sane_any _).mono ?_; rintro e w9 ⟨rfl, hB9⟩)
      | fail)
    go_ret
    exact ⟨rfl, below_step hW8 hB9⟩
end Go.Proofs.Ytmndfcjkokolbaa
