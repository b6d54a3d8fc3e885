/-
  Contracts of the reference: Urgent, Can, Undone, Longest.
-/
import Derived.Test.YthanmiifcpajhaaRefUrg
set_option linter.unusedVariables false
set_option linter.unusedSimpArgs false
namespace Go.Proofs.Ythanmiifcpajhaa
open Go Go.RowKit

set_option maxRecDepth 100000 in
set_option maxHeartbeats 2000000 in
theorem refUrgentX_any (ts : List (Int × Int × Int)) (A : Option Addr) (cap : Nat) (w : World) (h : Marks w A ts) (hl : ts.length ≤ maxLen) :
    Calls Try.prog 29 #[.slice A ts.length cap] w fun e w' => ∃ B c, e = .returned (.tuple #[.slice B (urL ts).length c, .int .i64 (taE ts)]) ∧ Out w' B c (urL ts) ∧ Below w.heap.size w w' := by
  have H := Lib.hid h
  have HL := Lib.hid hl
  have HVA : Hid (Calls Try.prog 20 #[.slice A ts.length cap] w fun e w' => e = .returned (.bool (vaB ts)) ∧ Below w.heap.size w w') := Lib.hid ((refValid_any ts A cap w h hl).mono fun _ _ ⟨h, n, hn⟩ => ⟨h, by rw [hn]; exact below_drewN (Below.refl _ _) _⟩)
  clear h hl
  cases hv : vaB ts with
  | false =>
    have HE := Lib.hid (ta_no hv)
    rw [hv] at HVA
    clear hv
    go_enter Try.func29, Try.ntmps29
    go_wp2_with (first
      | (go_at_call 20; refine HVA.out.mono ?_; rintro e w1 ⟨rfl, hB1⟩)
      | fail)
    go_ret2
    exact ⟨none, 0, by rw [HE.out.1, HE.out.2.1]; rfl, by rw [HE.out.2.1]; exact Out.nil_, hB1⟩
  | true =>
    have HE := Lib.hid (ta_yes hv)
    have HV := Lib.hid hv
    rw [hv] at HVA
    clear hv
    go_enter Try.func29, Try.ntmps29
    go_wp2_with (first
      | (go_at_call 20; refine HVA.out.mono ?_; rintro e w1 ⟨rfl, hB1⟩)
      | (go_at_call 66; refine (refUrgent_any ts _ _ _ (H.out.below hB1) HV.out).mono ?_; rintro e w2 ⟨B2, c2, rfl, hO2, hB2⟩; have HO2 := Lib.hid hO2; have HB12 := Lib.hid hB2; have hB2 := below_step hB1 hB2; clear hO2)
      | fail)
    go_ret2
    exact ⟨B2, c2, by rw [HE.out.1, HE.out.2.1]; rfl, by rw [HE.out.2.1]; exact HO2.out, hB2⟩

set_option maxRecDepth 100000 in
set_option maxHeartbeats 2000000 in
theorem refCanX_any (ts : List (Int × Int × Int)) (A : Option Addr) (cap : Nat) (w : World) (h : Marks w A ts) (hl : ts.length ≤ maxLen) :
    Calls Try.prog 31 #[.slice A ts.length cap] w fun e w' => e = .returned (.tuple #[.bool (caV ts), .int .i64 (taE ts)]) ∧ Below w.heap.size w w' := by
  have H := Lib.hid h
  have HL := Lib.hid hl
  have HVA : Hid (Calls Try.prog 20 #[.slice A ts.length cap] w fun e w' => e = .returned (.bool (vaB ts)) ∧ Below w.heap.size w w') := Lib.hid ((refValid_any ts A cap w h hl).mono fun _ _ ⟨h, n, hn⟩ => ⟨h, by rw [hn]; exact below_drewN (Below.refl _ _) _⟩)
  clear h hl
  cases hv : vaB ts with
  | false =>
    have HE := Lib.hid (ta_no hv)
    rw [hv] at HVA
    clear hv
    go_enter Try.func31, Try.ntmps31
    go_wp2_with (first
      | (go_at_call 20; refine HVA.out.mono ?_; rintro e w1 ⟨rfl, hB1⟩)
      | fail)
    go_ret2
    exact ⟨by rw [HE.out.1, HE.out.2.2.1]; rfl, hB1⟩
  | true =>
    have HE := Lib.hid (ta_yes hv)
    have HV := Lib.hid hv
    have HCS := Lib.hid (can_slack hv)
    have hmb := mnS_bd hv allS
    obtain ⟨m, hm⟩ : ∃ m, mnS ts allS = m := ⟨_, rfl⟩
    rw [hm] at HCS hmb
    obtain ⟨hm1, hm2⟩ := hmb
    have HMM := Lib.hid hm
    clear hm
    rw [hv] at HVA
    clear hv
    by_cases hneg : 0 ≤ m
    · have t1 : decide (0 ≤ m) = true := decide_eq_true hneg
      go_enter Try.func31, Try.ntmps31
      go_wp2_with (first
        | (go_at_call 20; refine HVA.out.mono ?_; rintro e w1 ⟨rfl, hB1⟩)
        | (go_at_call 68; refine (refSlack_any ts _ _ _ (H.out.below hB1) HV.out).mono ?_; rintro e w2 ⟨he, rfl⟩; rw [HMM.out] at he; subst he)
        | fail)
      go_ret2
      exact ⟨by rw [HE.out.1, HE.out.2.2.1, HCS.out, t1]; rfl, hB1⟩
    · have t1 : decide (0 ≤ m) = false := decide_eq_false hneg
      go_enter Try.func31, Try.ntmps31
      go_wp2_with (first
        | (go_at_call 20; refine HVA.out.mono ?_; rintro e w1 ⟨rfl, hB1⟩)
        | (go_at_call 68; refine (refSlack_any ts _ _ _ (H.out.below hB1) HV.out).mono ?_; rintro e w2 ⟨he, rfl⟩; rw [HMM.out] at he; subst he)
        | fail)
      go_ret2
      exact ⟨by rw [HE.out.1, HE.out.2.2.1, HCS.out, t1]; rfl, hB1⟩

set_option maxRecDepth 100000 in
set_option maxHeartbeats 2000000 in
theorem refUndoneX_any (ts : List (Int × Int × Int)) (A : Option Addr) (cap : Nat) (w : World) (h : Marks w A ts) (hl : ts.length ≤ maxLen) :
    Calls Try.prog 33 #[.slice A ts.length cap] w fun e w' => ∃ B c, e = .returned (.tuple #[.slice B (udV ts).length c, .int .i64 (taE ts)]) ∧ Out w' B c (udV ts) ∧ Below w.heap.size w w' := by
  have H := Lib.hid h
  have HL := Lib.hid hl
  have HVA : Hid (Calls Try.prog 20 #[.slice A ts.length cap] w fun e w' => e = .returned (.bool (vaB ts)) ∧ Below w.heap.size w w') := Lib.hid ((refValid_any ts A cap w h hl).mono fun _ _ ⟨h, n, hn⟩ => ⟨h, by rw [hn]; exact below_drewN (Below.refl _ _) _⟩)
  clear h hl
  cases hv : vaB ts with
  | false =>
    have HE := Lib.hid (ta_no hv)
    rw [hv] at HVA
    clear hv
    go_enter Try.func33, Try.ntmps33
    go_wp2_with (first
      | (go_at_call 20; refine HVA.out.mono ?_; rintro e w1 ⟨rfl, hB1⟩)
      | fail)
    go_ret2
    exact ⟨none, 0, by rw [HE.out.1, HE.out.2.2.2.1]; rfl, by rw [HE.out.2.2.2.1]; exact Out.nil_, hB1⟩
  | true =>
    have HE := Lib.hid (ta_yes hv)
    have HV := Lib.hid hv
    have hl2 := va_len hv
    obtain ⟨hl1, hl2⟩ := hl2
    obtain ⟨bl, off, hA, hbk, hcells⟩ := H.out.open_ (show 0 < ts.length by omega)
    subst hA
    have HC := Lib.hid hcells
    clear hcells
    rw [hv] at HVA
    clear hv
    go_enter Try.func33, Try.ntmps33
    go_wp2_with (first
      | (go_at_call 20; refine HVA.out.mono ?_; rintro e w1 ⟨rfl, hB1⟩)
      | (go_at_call 66; refine (refUrgent_any ts _ _ _ (H.out.below hB1) HV.out).mono ?_; rintro e w2 ⟨B2, c2, rfl, hO2, hB2⟩; have HO2 := Lib.hid hO2; have HB12 := Lib.hid hB2; have hB2 := below_step hB1 hB2; clear hO2)
      | (go_at_call 69; refine (minutes_any ts _ _ (vL (urF ts) 100) _ _ _ hl1 hl2 HO2.out.ints (vL_rng ts 100) (by rw [vL_len]; exact Nat.le_refl _)).mono ?_; rintro e w3 ⟨rfl, hO3, hB3⟩; have HO3 : Hid (OwnV w3 w2.heap.size w2.heap.size (fun i => cn (urF ts) i 100) ts.length) := Lib.hid (hO3.congr (fun i _ => by rw [vL_len]; exact cn_vL (urF ts) 100 i)); have hB3 := below_step hB2 hB3; have hgb := (hO3.lt w2.heap.size (by simp [Value.ownBlock])).2; clear hO3)
      | fail)
    obtain ⟨gb, hgb2⟩ : ∃ gb, gb = w2.heap.size := ⟨_, rfl⟩
    rw [← hgb2] at HO3 hgb ⊢
    clear hgb2
    go_loopw [5, 6] (fun l i wr => ∃ k : Nat, k ≤ ts.length ∧ i = .int .i64 k ∧ wr.ownsRow w3.heap.size 3 1 l (udK ts (urF ts) k).length ((udK ts (urF ts) k).map (Value.int .i64)) ∧ Below w3.heap.size w3 wr) (fun _ i _ => ts.length - (intOf i).toNat)
    case atStart => exact ⟨0, Nat.zero_le _, rfl, ⟨rfl, .inl ⟨rfl, rfl⟩⟩, Below.refl _ _⟩
    case round =>
      obtain ⟨k, hk, rfl, hown, hB4⟩ := hrel
      by_cases hlt : k < ts.length
      · obtain ⟨x, y, d, hx⟩ := getT_of_lt hlt
        have f2 := ((below_step hB3 hB4).cell (p := ⟨bl, off + k * 3 + 2, none⟩) hbk).trans (HC.out _ _ hx).2.2
        have c1 := (hB4.cell (p := ⟨gb, k, none⟩) hgb).trans (HO3.out.cell hlt)
        obtain ⟨u, hu⟩ : ∃ u, cn (urF ts) k 100 = u := ⟨_, rfl⟩
        rw [hu] at c1
        have HLB : Hid (udB ts (urF ts) k = decide (u < d)) := Lib.hid (by rw [udB, hu, (getT_parts hx).2.2])
        have hlen := udK_len ts (urF ts) k
        obtain ⟨vs, hvs⟩ : ∃ vs, udK ts (urF ts) k = vs := ⟨_, rfl⟩
        rw [hvs] at hown hlen
        have HVS := Lib.hid hvs
        have HOW := Lib.hid hown
        clear hx hu hown hvs
        by_cases hud : u < d
        · have t1 : decide (u < d) = true := decide_eq_true hud
          have HL1 : Hid (udK ts (urF ts) (k + 1) = vs ++ [(k : Int)]) := Lib.hid (by rw [udK_yes (by rw [HLB.out]; exact t1), HVS.out])
          clear hud
          go_wp2
          go_quiet (fail)
          obtain ⟨W, hWe, hO5, hB5, hS5⟩ : ∃ W, wr.drewN nq = W ∧ Hid (W.ownsRow w3.heap.size 3 1 _ vs.length (vs.map (Value.int .i64))) ∧ Below w3.heap.size w3 W ∧ w3.heap.size ≤ W.heap.size := ⟨_, rfl, Lib.hid HOW.out, below_drewN hB4 _, hB4.size⟩
          rw [hWe]
          clear hWe HOW f2 c1
          go_wp2_with (at_builtin; refine wp_app_int _ rfl (.tmp 30) (.tmp 32) rfl w3.heap.size _ vs.length vs _ rfl hO5.out rfl (by omega) hS5 ?_; intro v' w5 hown5 hB6)
          go_roundw
          case rel =>
            refine ⟨k + 1, by omega, by go_num, ?_, Below.trans hB5 hB6⟩
            rw [HL1.out]; simpa using hown5
          case measure => simp [intOf]; omega
        · have t1 : decide (u < d) = false := decide_eq_false hud
          have HL1 : Hid (udK ts (urF ts) (k + 1) = vs) := Lib.hid (by rw [udK_no (by rw [HLB.out]; exact t1), HVS.out])
          clear hud
          go_wp2
          go_quiet (fail)
          go_wp2
          go_roundw
          case rel =>
            refine ⟨k + 1, by omega, by go_num, ?_, below_drewN hB4 _⟩
            rw [HL1.out]; exact HOW.out
          case measure => simp [intOf]; omega
      · obtain rfl : k = ts.length := by omega
        obtain ⟨B, c, rfl, ho⟩ := own_ints hown
        have HO := Lib.hid ho
        clear hown ho
        go_wp2
        go_ret2
        exact ⟨B, c, by rw [HE.out.1, HE.out.2.2.2.1]; rfl, by rw [HE.out.2.2.2.1]; exact HO.out, below_step hB3 hB4⟩

set_option maxRecDepth 100000 in
set_option maxHeartbeats 2000000 in
theorem refLongestX_any (ts : List (Int × Int × Int)) (A : Option Addr) (cap : Nat) (w : World) (h : Marks w A ts) (hl : ts.length ≤ maxLen) :
    Calls Try.prog 35 #[.slice A ts.length cap] w fun e w' => e = .returned (.tuple #[.int .i64 (lgV ts), .int .i64 (lgW ts), .int .i64 (taE ts)]) ∧ Below w.heap.size w w' := by
  have H := Lib.hid h
  have HL := Lib.hid hl
  have HVA : Hid (Calls Try.prog 20 #[.slice A ts.length cap] w fun e w' => e = .returned (.bool (vaB ts)) ∧ Below w.heap.size w w') := Lib.hid ((refValid_any ts A cap w h hl).mono fun _ _ ⟨h, n, hn⟩ => ⟨h, by rw [hn]; exact below_drewN (Below.refl _ _) _⟩)
  clear h hl
  cases hv : vaB ts with
  | false =>
    have HE := Lib.hid (ta_no hv)
    rw [hv] at HVA
    clear hv
    go_enter Try.func35, Try.ntmps35
    go_wp2_with (first
      | (go_at_call 20; refine HVA.out.mono ?_; rintro e w1 ⟨rfl, hB1⟩)
      | fail)
    go_ret3
    exact ⟨by rw [HE.out.1, HE.out.2.2.2.2.1, HE.out.2.2.2.2.2]; rfl, hB1⟩
  | true =>
    have HE := Lib.hid (ta_yes hv)
    have HV := Lib.hid hv
    rw [hv] at HVA
    clear hv
    have hlen := vL_len (urF ts) 100
    go_enter Try.func35, Try.ntmps35
    go_wp2_with (first
      | (go_at_call 20; refine HVA.out.mono ?_; rintro e w1 ⟨rfl, hB1⟩)
      | (go_at_call 66; refine (refUrgent_any ts _ _ _ (H.out.below hB1) HV.out).mono ?_; rintro e w2 ⟨B2, c2, rfl, hO2, hB2⟩; have HO2 := Lib.hid hO2; have HB12 := Lib.hid hB2; have hB2 := below_step hB1 hB2; clear hO2)
      | fail)
    obtain ⟨bp, op, hA, hbp, hcp⟩ := HO2.out.ints.open_ (by omega)
    have HCP := Lib.hid hcp
    subst hA
    have e100 : (vL (urF ts) 100).length = 100 := hlen
    try rw [e100]
    clear hcp hlen e100
    go_loop [2, 3, 6] (fun a b i => ∃ (f x y : Nat), f ≤ 100 ∧ i = .int .i64 f ∧ a = .int .i64 x ∧ b = .int .i64 y ∧ x ≤ y ∧ y ≤ 100 ∧ Hid (FromK (urF ts) f x y)) (fun _ _ i => 100 - (intOf i).toNat)
    case atStart => exact ⟨0, 0, 0, Nat.zero_le _, rfl, rfl, rfl, by omega, by omega, FromK.start _⟩
    case round =>
      obtain ⟨f, x, y, hf, rfl, rfl, rfl, hxy, hy, hF⟩ := hrel
      by_cases hlt : f < 100
      · have ta : decide ((f : Int) < 100) = true := decide_eq_true (by omega)
        have ta' : decide (f < 100) = true := decide_eq_true hlt
        go_wp2
        go_loop [7] (fun i => ∃ (t : Nat), f ≤ t ∧ t ≤ 100 ∧ i = .int .i64 t ∧ Hid (Busy (urF ts) f t)) (fun i => 100 - (intOf i).toNat)
        case atStart => exact ⟨f, by omega, by omega, rfl, fun m h1 h2 => by omega⟩
        case round =>
          obtain ⟨t, hft, ht, rfl, hbusy⟩ := hrel
          by_cases hlt2 : t < 100
          · have hz := vL_get (p := urF ts) hlt2
            have hbd := ur_bd ts t
            obtain ⟨v, hv⟩ : ∃ v, urF ts t = v := ⟨_, rfl⟩
            rw [hv] at hz hbd
            have c0 := HCP.out t v hz
            have tb : decide ((t : Int) < 100) = true := decide_eq_true (by omega)
            obtain ⟨hb1, _⟩ := hbd
            have HVV := Lib.hid hv
            clear hz hv
            by_cases hneg : 0 ≤ v
            · have t2 : decide (0 ≤ v) = true := decide_eq_true hneg
              have HN : Hid (Busy (urF ts) f (t + 1)) := Lib.hid (by
                intro m h1 h2
                by_cases e : m = t
                · subst e; rw [HVV.out]; omega
                · exact hbusy.out m h1 (by omega))
              go_wp2
              go_round
              case rel => exact ⟨t + 1, by omega, by omega, by go_num, HN⟩
              case measure => simp [intOf]; omega
            · have t2 : decide (0 ≤ v) = false := decide_eq_false hneg
              have HX := Lib.hid (hF.out.next hft ht hbusy.out (.inr (by rw [HVV.out]; omega)))
              by_cases hc : (y : Int) - x < (t : Int) - f
              · have t3 : decide ((y : Int) - x < (t : Int) - f) = true := decide_eq_true hc
                have HN : Hid (FromK (urF ts) (f + 1) f t) := Lib.hid (HX.out.1 (by omega))
                go_wp2
                go_round
                case rel => exact ⟨f + 1, f, t, by omega, by go_num, rfl, rfl, by omega, by omega, HN⟩
                case measure => simp [intOf]; omega
              · have t3 : decide ((y : Int) - x < (t : Int) - f) = false := decide_eq_false hc
                have HN : Hid (FromK (urF ts) (f + 1) x y) := Lib.hid (HX.out.2 (by omega))
                go_wp2
                go_round
                case rel => exact ⟨f + 1, x, y, by omega, by go_num, rfl, rfl, by omega, by omega, HN⟩
                case measure => simp [intOf]; omega
          · obtain rfl : t = 100 := by omega
            have tb : decide (((100 : Nat) : Int) < 100) = false := by decide
            have HX := Lib.hid (hF.out.next hft ht hbusy.out (.inl rfl))
            by_cases hc : (y : Int) - x < (100 : Int) - f
            · have t3 : decide ((y : Int) - x < (100 : Int) - f) = true := decide_eq_true hc
              have HN : Hid (FromK (urF ts) (f + 1) f 100) := Lib.hid (HX.out.1 (by omega))
              go_wp2
              go_round
              case rel => exact ⟨f + 1, f, 100, by omega, by go_num, rfl, rfl, by omega, by omega, HN⟩
              case measure => simp [intOf]; omega
            · have t3 : decide ((y : Int) - x < (100 : Int) - f) = false := decide_eq_false hc
              have HN : Hid (FromK (urF ts) (f + 1) x y) := Lib.hid (HX.out.2 (by omega))
              go_wp2
              go_round
              case rel => exact ⟨f + 1, x, y, by omega, by go_num, rfl, rfl, by omega, by omega, HN⟩
              case measure => simp [intOf]; omega
      · obtain rfl : f = 100 := by omega
        have HX := Lib.hid (from_eq hF.out)
        go_wp2
        go_ret3
        exact ⟨by rw [HE.out.1, HE.out.2.2.2.2.1, HE.out.2.2.2.2.2, lgA, lgB, ← HX.out.1, ← HX.out.2]; rfl, hB2⟩
end Go.Proofs.Ythanmiifcpajhaa
