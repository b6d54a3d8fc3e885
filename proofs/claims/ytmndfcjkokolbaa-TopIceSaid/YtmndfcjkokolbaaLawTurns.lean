/-
  Contract: lamps (firnlaw04); the walk of IceTurns: it returns true, whatever it is given.
-/
import Derived.Test.YtmndfcjkokolbaaPlainW
import Derived.Test.YtmndfcjkokolbaaLawReaches
namespace Go.Proofs.Ytmndfcjkokolbaa
open Go.RowKit Go.Shelf

theorem lampsE_two {ms : List (Int × Int)} {s : Int} (hv : viB ms = true) (hs : 0 ≤ s ∧ s ≤ 100000) : lampsE ms s = 0 ∨ lampsE ms s = 5 := by
  cases hp : lampO (mtL ms) s with
  | none => exact .inr (lampsE_none (askedE_ok hv hs) hp)
  | some ps => exact .inl (lampsE_ok (askedE_ok hv hs) hp).1
set_option maxRecDepth 100000 in
theorem lawLamps_any (ms ns : List (Int × Int)) (A B : Option Addr) (c d : Nat) (s : Int) (w : World) (h : Clk w A c ms) (k : Clk w B d ns) (hv : viB ms = true) (hs : 0 ≤ s ∧ s ≤ 100000) (hN : lampsN ns s = lampsN ms s) :
    Calls Try.prog 59 #[.slice A ms.length c, .slice B ns.length d, .int .i64 s] w fun e w' => e = .returned (.bool true) ∧ Below w.heap.size w w' := by
  have H := Lib.hid h
  have K := Lib.hid k
  have HN : Hid (lampsE ns s = lampsE ms s ∧ (lampsL ns s).length = (lampsL ms s).length) := by
    unfold lampsN at hN
    injection hN with h1 h2
    exact ⟨h1, h2⟩
  have TA : Hid True := Lib.hid trivial
  have h05 := lampsE_two hv hs
  clear h k hN hs
  rcases h05 with h0 | h0
  all_goals
    have H0 := Lib.hid h0
    clear h0
    go_enter Try.func59, Try.ntmps59
    go_wp2_with (first
      | (go_at_call 37; clear TA; refine (iceLamps_any ms _ _ s _ H.out).mono ?_; rintro e w1 ⟨A1, c1, xs, E, rfl, hO1, hB1, hF1⟩; have hE1 := hF1.out.2.trans H0.out; subst hE1)
      | (go_at_call 37; refine (iceLamps_any ns _ _ s _ (K.out.below hB1)).mono ?_; rintro e w2 ⟨A2, c2, ys, E2, rfl, hO2, hB2, hF2⟩; have hE2 := hF2.out.2.trans (HN.out.1.trans H0.out); subst hE2; have hW2 := below_step hB1 hB2; have hxy : xs.length = ys.length := (by rw [hF1.out.1, hF2.out.1]; exact HN.out.2.symm); have v1 : ((xs.length : Int) == (ys.length : Int)) = true := (by simp; omega); have v2 : (xs.length == ys.length) = true := (by simp; omega); have HXY := Lib.hid hxy; clear hxy))
    go_ret
    exact ⟨rfl, hW2⟩

theorem turn_loss {ms : List (Int × Int)} {a b : Int} (hv : viB ms = true) (ha : 0 ≤ a ∧ a ≤ depthN ms) (hb : 0 ≤ b ∧ b ≤ depthN ms) :
    lossR ms.reverse ((depthN ms : Int) - a) ((depthN ms : Int) - b) = lossI (mtL ms) a b ∧ lossE ms.reverse ((depthN ms : Int) - a) ((depthN ms : Int) - b) = 0 := by
  have hd : depthN ms.reverse = depthN ms := by unfold depthN; rw [mt_rev, List.length_reverse]
  have e := lossE_ok (ms := ms.reverse) (a := (depthN ms : Int) - a) (b := (depthN ms : Int) - b) (by rw [vi_rev]; exact hv) (by rw [hd]; omega) (by rw [hd]; omega)
  refine ⟨?_, e⟩
  rw [lossR_of e, mt_rev]
  obtain ⟨x, rfl⟩ := Int.eq_ofNat_of_zero_le ha.1
  obtain ⟨y, rfl⟩ := Int.eq_ofNat_of_zero_le hb.1
  unfold depthN at *
  exact loss_rev (by omega) (by omega)
theorem turn_turn {ms zs : List (Int × Int)} (hv : viB ms = true) (h : zs = ms.reverse) : turnE zs = 0 ∧ turnL zs = ms := by
  subst h
  have := turn_ok (ms := ms.reverse) (by rw [vi_rev]; exact hv)
  rw [List.reverse_reverse] at this
  exact this
theorem plain_plain {ms ps : List (Int × Int)} (hv : viB ms = true) (h : ps = plainF ms) (ht : ∀ m ∈ ps, m.1 ≤ 30) : plainE ps = 0 ∧ plainL ps = ps ∧ viB ps = true ∧ mtL ps = mtL ms := by
  have h1 := plain_ok hv (by rw [← h]; exact ht)
  rw [← h] at h1
  have h2 := plainE_ok h1.1
  rw [plain_again h1.2.2.1] at h2
  exact ⟨h2.1, h2.2, h1.1, h1.2.1⟩

set_option maxRecDepth 100000 in
set_option maxHeartbeats 4000000 in
theorem iceTurns_walk (ms : List (Int × Int)) (A : Option Addr) (c : Nat) (a b s : Int) (w : World) (hA : Marks w A ms) (hc : ms.length ≤ c) (hc0 : c ≤ maxLen) (ha : (Lit.int .u16 a).wf = true) (hb : (Lit.int .u16 b).wf = true) (hs : (Lit.int .u16 s).wf = true) :
    Calls Try.prog 14 #[.slice A ms.length c, .agg #[.int .u16 a, .int .u16 b], .int .u16 s] w fun e w' => e = .returned (.bool true) ∧ Below w.heap.size w w' := by
  have H : Hid (Clk w A c ms) := ⟨hA, hc, hc0⟩
  have hab := bounds_u16 ha
  have hbb := bounds_u16 hb
  have hsb := bounds_u16 hs
  clear hA hc hc0 ha hb hs
  have hB0 : Below w.heap.size w (w.alloc (.cells #[.int .u16 a, .int .u16 b] 58)) := (by repeat (first | with_reducible exact Below.refl _ _ | with_reducible assumption | refine below_drewN ?_ _ | with_reducible refine Below.drew ?_ | (refine Below.setCell ?_ (by first | (simp; done) | (simp; omega) | omega) _) | (refine Below.alloc ?_ (by first | (simp; done) | (simp; omega) | omega) _)))
  by_cases hm : 60 < ms.length
  · have hm1 : decide (60 < ms.length) = true := decide_eq_true hm
    go_enter Try.func14, Try.ntmps14
    go_wp2_with (first
      | (go_at_call 17; refine (lawLong_any _ _ _ _).mono ?_; rintro e w' ⟨rfl, rfl⟩)
      | (go_at_call 18; refine (sane_any _).mono ?_; rintro e w' ⟨rfl, hW⟩))
    go_ret
    exact ⟨rfl, hB0.trans (hW.mono (by simp))⟩
  have hm1 : decide (60 < ms.length) = false := decide_eq_false hm
  clear hm
  cases hv : viB ms with
  | false =>
    go_enter Try.func14, Try.ntmps14
    go_wp2_with (first
      | (go_at_call 17; refine (lawLong_any _ _ _ _).mono ?_; rintro e w' ⟨rfl, rfl⟩)
      | (go_at_call 22; refine (refValid_any ms _ _ _ (H.out.below hB0).marks H.out.len).mono ?_; rintro e w1 ⟨rfl, n, rfl⟩)
      | (go_at_call 18; refine (sane_any _).mono ?_; rintro e w' ⟨rfl, hW⟩))
    go_ret
    exact ⟨rfl, Below.trans (below_drewN hB0 n) (hW.mono (by simp))⟩
  | true =>
  have HV := Lib.hid hv
  have hlen := (mt_ok hv).2
  have s0 : IntKind.i64.wrap a = a := IntWalk.i64_in _ (by omega)
  have s1 : IntKind.i64.wrap b = b := IntWalk.i64_in _ (by omega)
  have s2 : IntKind.i64.wrap s = s := IntWalk.i64_in _ (by omega)
  have hfb := modF (a := a) (n := (mtL ms).length) (by omega)
  have htb := modF (a := b) (n := (mtL ms).length) (by omega)
  have hn1 : ((mtL ms).length : Int) + 1 ≠ 0 := by omega
  have hn2 : (((mtL ms).length : Int) + 1 == 0) = false := by simp; omega
  generalize hf : a % (((mtL ms).length : Int) + 1) = fr at hfb
  generalize ht : b % (((mtL ms).length : Int) + 1) = tt at htb
  have HF : Hid (0 ≤ fr ∧ fr ≤ depthN ms) := hfb
  have HT : Hid (0 ≤ tt ∧ tt ≤ depthN ms) := htb
  have HS : Hid (0 ≤ s ∧ s ≤ 100000) := Lib.hid (by omega)
  have TA : Hid True := Lib.hid trivial
  have TB : Hid True := Lib.hid trivial
  have TC : Hid True := Lib.hid trivial
  have HTO := Lib.hid (turn_ok hv)
  have HPO := Lib.hid (plainE_ok hv)
  go_enter Try.func14, Try.ntmps14
  go_wp2_with (first
    | (go_at_call 17; refine (lawLong_any _ _ _ _).mono ?_; rintro e w' ⟨rfl, rfl⟩)
    | (go_at_call 22; refine (refValid_any ms _ _ _ (H.out.below hB0).marks H.out.len).mono ?_; rintro e w1 ⟨rfl, n, rfl⟩)
    | (go_at_call 58; refine (metres_any ms _ _ _ (H.out.below (below_drewN hB0 n)).marks HV.out).mono ?_; rintro e w2 ⟨A2, c2, xs, rfl, hO, hB2, hx⟩; obtain rfl := hx.out; have hW2 : Below w.heap.size w w2 := Below.trans (below_drewN hB0 n) (hB2.mono (by simp)); have c0 := (hB2.cell (p := ⟨w.heap.size, 0, none⟩) (by simp)).trans (show World.cell? _ _ = some (.int .u16 a) by go_simp); have c1 := (hB2.cell (p := ⟨w.heap.size, 1, none⟩) (by simp)).trans (show World.cell? _ _ = some (.int .u16 b) by go_simp); clear hB2 hx hO))
  go_quiet (fail)
  go_wp2_with (first
    | (go_at_call 50; clear TA; refine (iceTurned_any ms _ _ _ (H.out.below (below_drewN hW2 _))).mono ?_; rintro e w3 ⟨A3, c3, zs, E3, rfl, hO3, hB3, hF3⟩; have e3 := hF3.out.2.trans HTO.out.1; subst e3; have HZ := Lib.hid (hF3.out.1.trans HTO.out.2); clear hF3; have hW3 : Below w.heap.size w w3 := Below.trans (below_drewN hW2 _) (hB3.mono (by have := hW2.size; simp; omega)); have k3 : w.heap.size < w3.heap.size := (Nat.lt_of_lt_of_le (World.block_lt_of_cell? w2 _ c0) hB3.size))
    | (go_at_call 50; refine (iceTurned_any zs _ _ _ hO3).mono ?_; rintro e w4 ⟨A4, c4, us, E4, rfl, hO4, hB4, hF4⟩; have e4 := hF4.out.2.trans (turn_turn HV.out HZ.out).1; subst e4; have e4 := hF4.out.1.trans (turn_turn HV.out HZ.out).2; subst e4; clear hF4; have hW4 := below_step hW3 hB4; have k4 := Nat.lt_of_lt_of_le k3 hB4.size)
    | (go_at_call 25; clear TB; refine (iceLoss_any us _ _ fr tt _ (H.out.below hW4)).mono ?_; rintro e w5 ⟨r, E, rfl, hB5, hF5⟩; obtain ⟨e5, h5, h50, h51⟩ := lossF HV.out HF.out HT.out hF5.out; subst e5; have H5 := Lib.hid h5; clear h5 hF5; have hW5 := below_step hW4 hB5; have k5 := Nat.lt_of_lt_of_le k4 hB5.size)
    | (go_at_call 25; refine (iceLoss_any zs _ _ _ _ _ ((hO3.below hB4).below hB5)).mono ?_; rintro e w6 ⟨r6, E, rfl, hB6, hF6⟩; have e6 : r6 = r := (by rw [hF6.out.1, HZ.out, H5.out]; exact (turn_loss HV.out HF.out HT.out).1); subst e6; have e6 : E = 0 := (by rw [hF6.out.2, HZ.out]; exact (turn_loss HV.out HF.out HT.out).2); subst e6; clear hF6; have hW6 := below_step hW5 hB6; have k6 := Nat.lt_of_lt_of_le k5 hB6.size)
    | (go_at_call 52; refine (sameIce_same us _ _ _ _ _ ((hO4.below hB5).below hB6).marks (H.out.below hW6).marks H.out.len).mono ?_; rintro e w7 ⟨rfl, hB7⟩; have hW7 := below_step hW6 hB7; have k7 := Nat.lt_of_lt_of_le k6 hB7.size)
    | (go_at_call 59; refine (lawLamps_any us zs _ _ _ _ s _ (H.out.below hW7) ((((hO3.below hB4).below hB5).below hB6).below hB7) HV.out HS.out (by rw [HZ.out]; exact lampsN_rev HV.out)).mono ?_; rintro e w8 ⟨rfl, hB8⟩; have hW8 := below_step hW7 hB8; have k8 := Nat.lt_of_lt_of_le k7 hB8.size)
    | (go_at_call 48; refine (icePlain_any us _ _ _ (H.out.below hW8)).mono ?_; rintro e w9 ⟨A9, c9, ps, E9, rfl, hO9, hB9, hF9⟩; have e9 := hF9.out.2.trans HPO.out.1; subst e9; have HP := Lib.hid (hF9.out.1.trans HPO.out.2); clear hF9; have hW9 := below_step hW8 hB9; have k9 := Nat.lt_of_lt_of_le k8 hB9.size; have HPI : Hid (PlainI us ps) := (by rw [HP.out]; exact plainI_all (vi_all HV.out)); have hpl := HPI.out.len; have t9 : decide ((us.length : Int) < (ps.length : Int)) = false := decide_eq_false (by omega); have t9n : decide (us.length < ps.length) = false := decide_eq_false (by omega))
    | fail)
  have HO9 := Lib.hid hO9
  have HPL : Hid (∀ (k : Nat) (p : Int × Int), ps[k]? = some p → 1 ≤ p.1 ∧ p.1 ≤ 600 ∧ 0 ≤ p.2 ∧ p.2 ≤ 100) := by
    refine Lib.hid fun k p hp => ?_
    have h1 := HPI.out.lays p (List.mem_of_getElem? hp)
    obtain ⟨u, v, e⟩ := List.append_of_mem (List.mem_of_getElem? hp)
    have h2 := HPI.out.mt
    have h3 := (mt_ok HV.out).2.2
    rw [← h2, e, mt_app, show p :: v = [p] ++ v from rfl, mt_app, List.length_append, List.length_append] at h3
    have h4 : (mtL [p]).length = p.1.toNat := by simp [mtL]
    omega
  have hps20 : ps.length ≤ 20 := by have := (vi_parts HV.out).2; omega
  have HZ3 := Lib.hid ((((((hO3.below hB4).below hB5).below hB6).below hB7).below hB8).below hB9)
  clear hO9 hO3 hO4 hB3 hB4 hB5 hB6 hB7 hB8 hB9 hW3 hW4 hW5 hW6 hW7 hW8 hpl t9 t9n
  have TD : Hid True := Lib.hid trivial
  go_loopw [19] (fun i wr => ∃ k m : Nat, k ≤ ps.length ∧ i = .int .i64 k ∧ wr = w9.drewN m ∧ Hid (∀ p ∈ ps.take k, p.1 ≤ 30)) (fun i _ => ps.length - (intOf i).toNat)
  case atStart => exact ⟨0, 0, Nat.zero_le _, rfl, rfl, by simp [Hid]⟩
  case round =>
    obtain ⟨k, m, hk, rfl, rfl, hT⟩ := hrel
    by_cases hlt : k < ps.length
    · obtain ⟨x, y, hx⟩ := getM_of_lt hlt
      obtain ⟨bl, off, e9, _, hc⟩ := HO9.out.marks.open_ (show 0 < ps.length by omega)
      subst e9
      have f0 := (hc k _ hx).1
      have f1 := (hc k _ hx).2
      have hxb := HPL.out k _ hx
      have HC := Lib.hid hc
      have HX := Lib.hid hx
      clear hc hx
      by_cases h30 : 30 < x
      · have t1 : decide (30 < x) = true := decide_eq_true h30
        go_wp2_with (go_at_call 18; refine (sane_any _).mono ?_; rintro e wz ⟨rfl, hBz⟩)
        go_ret
        exact ⟨rfl, below_step (below_drewN hW9 _) hBz⟩
      · have t1 : decide (30 < x) = false := decide_eq_false h30
        have HT2 : Hid (∀ p ∈ ps.take (k + 1), p.1 ≤ 30) := by
          refine Lib.hid fun p hp => ?_
          rw [take_snoc HX.out, List.mem_append] at hp
          rcases hp with hp | hp
          · exact hT.out p hp
          · simp at hp; subst hp; simp; omega
        cases k with
        | zero =>
          simp only [Nat.zero_mul, Nat.add_zero] at f0 f1
          go_wp2
          go_quiet (fail)
          go_wp2
          go_roundw
          case rel => exact ⟨1, _, by omega, by go_num, (by first | rfl | exact World.drewN_drewN _ _ _), HT2⟩
          case measure => simp [intOf]; omega
        | succ j =>
          obtain ⟨x0, y0, hx0⟩ := getM_of_lt (show j < ps.length by omega)
          have g1 := (HC.out j _ hx0).2
          have hne := HPI.out.next j _ _ hx0 HX.out
          have t2 : (y == y0) = false := by simpa using (fun e => hne e.symm)
          have s3 : IntKind.i64.wrap ((j : Int) + 1 - 1) = (j : Int) := by rw [Int.add_sub_cancel]; exact IntWalk.i64_in _ (by omega)
          have m0 : (0 : Int) ≤ (j : Int) := by omega
          have m1 : (j : Int) < (ps.length : Int) := by omega
          have m2 : (j : Int) + 1 < (ps.length : Int) := by omega
          have m3 : (0 : Int) ≤ (j : Int) + 1 := by omega
          have t0 : decide ((0 : Int) < (j : Int) + 1) = true := decide_eq_true (by omega)
          clear hne hx0
          go_wp2
          go_quiet (fail)
          go_wp2
          go_roundw
          case rel => exact ⟨j + 2, _, by omega, by go_num, (by first | rfl | exact World.drewN_drewN _ _ _), HT2⟩
          case measure => simp [intOf]; omega
    · obtain rfl : k = ps.length := by omega
      have HTA : Hid (∀ p ∈ ps, p.1 ≤ 30) := by have := hT.out; rwa [List.take_length] at this
      have HQ := Lib.hid (plain_plain HV.out HP.out HTA.out)
      have hWm := below_drewN hW9 m
      have hO10 := HO9.out.below (below_drewN (Below.refl w9.heap.size w9) m)
      generalize w9.drewN m = wm at hWm hO10 ⊢
      go_wp2_with (first
        | (go_at_call 25; refine (iceLoss_any ps _ _ fr tt _ hO10).mono ?_; rintro e w11 ⟨r11, E, rfl, hB11, hF11⟩; have e11 := lossF HQ.out.2.2.1 (by unfold depthN; rw [HQ.out.2.2.2]; exact HF.out) (by unfold depthN; rw [HQ.out.2.2.2]; exact HT.out) hF11.out; obtain ⟨e11, h11, _, _⟩ := e11; subst e11; have e11 : r11 = r6 := (by rw [h11, H5.out, HQ.out.2.2.2]); subst e11; clear h11 hF11; have hW11 := below_step hWm hB11)
        | (go_at_call 48; refine (icePlain_any ps _ _ _ (hO10.below hB11)).mono ?_; rintro e w12 ⟨A12, c12, qs, E12, rfl, hO12, hB12, hF12⟩; have e12 := hF12.out.2.trans HQ.out.1; subst e12; have e12 := hF12.out.1.trans HQ.out.2.1; subst e12; clear hF12; have hW12 := below_step hW11 hB12)
        | (go_at_call 52; refine (sameIce_same qs _ _ _ _ _ hO12.marks ((hO10.below hB11).below hB12).marks hO12.len).mono ?_; rintro e w13 ⟨rfl, hB13⟩; have hW13 := below_step hW12 hB13)
        | (go_at_call 59; refine (lawLamps_any us qs _ _ _ _ s _ (H.out.below hW13) (((hO10.below hB11).below hB12).below hB13) HV.out HS.out (lampsN_same HV.out HQ.out.2.2.1 HQ.out.2.2.2)).mono ?_; rintro e w14 ⟨rfl, hB14⟩; have hW14 := below_step hW13 hB14)
        | (go_at_call 18; refine (sane_any _).mono ?_; rintro e w15 ⟨rfl, hB15⟩)
        | fail)
      go_ret
      exact ⟨rfl, below_step hW14 hB15⟩
end Go.Proofs.Ytmndfcjkokolbaa
