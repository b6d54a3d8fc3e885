/-
  Contracts of the reference: Right, DoesAll, Free, Done; SameInts.
-/
import Derived.Test.YthanmiifcpajhaaPlans
set_option linter.unusedVariables false
set_option linter.unusedSimpArgs false
namespace Go.Proofs.Ythanmiifcpajhaa
open Go Go.RowKit

set_option maxRecDepth 100000 in
set_option maxHeartbeats 2000000 in
theorem refRightX_any (ts : List (Int × Int × Int)) (A : Option Addr) (cap : Nat) (ps : List Int) (B : Option Addr) (cb : Nat) (w : World) (h : Marks w A ts) (hl : ts.length ≤ maxLen) (hq : Ints w B ps) (hps : ps.length ≤ maxLen) :
    Calls Try.prog 18 #[.slice A ts.length cap, .slice B ps.length cb] w fun e w' => e = .returned (.tuple #[.bool (riV ts ps), .int .i64 (erE ts ps)]) ∧ Below w.heap.size w w' := by
  have H := Lib.hid h
  have HL := Lib.hid hl
  have HQ := Lib.hid hq
  have HPS := Lib.hid hps
  have HAS : Hid (Calls Try.prog 58 #[.slice A ts.length cap, .slice B ps.length cb] w fun e w' => e = .returned (.int .i64 (erE ts ps)) ∧ ∃ n, w' = w.drewN n) := Lib.hid (asked_any ts A cap ps B cb w h hl hq hps)
  clear h hl hq hps
  by_cases hE : erE ts ps = 0
  case neg =>
    have HE := Lib.hid (ri_e hE)
    obtain ⟨E, hEE⟩ : ∃ E, erE ts ps = E := ⟨_, rfl⟩
    have t1 : (E == 0) = false := by rw [hEE] at hE; simpa using hE
    have t1' : (E != 0) = true := by rw [hEE] at hE; simpa using hE
    rw [hEE] at HAS
    have HEE := Lib.hid hEE
    clear hEE hE
    go_enter Try.func18, Try.ntmps18
    go_wp2_with (first
      | (go_at_call 58; refine HAS.out.mono ?_; rintro e w1 ⟨rfl, n, rfl⟩; have hB1 := below_drewN (Below.refl w.heap.size w) n)
      | fail)
    go_ret2
    exact ⟨by rw [HE.out.1, HEE.out]; rfl, hB1⟩
  case pos =>
    have HE := Lib.hid (ri_o hE)
    have HER := Lib.hid hE
    have hV := er_zero hE
    have HV := Lib.hid hV.1
    have HI := Lib.hid hV.2
    rw [hE] at HAS
    clear hE hV
    go_enter Try.func18, Try.ntmps18
    go_wp2_with (first
      | (go_at_call 58; refine HAS.out.mono ?_; rintro e w1 ⟨rfl, n, rfl⟩; have hB1 := below_drewN (Below.refl w.heap.size w) n)
      | (go_at_call 59; refine (refRight_any ts _ _ ps _ _ _ (H.out.below hB1) HV.out (HQ.out.below hB1) HI.out).mono ?_; rintro e w3 ⟨rfl, hB3⟩; have hB3 := below_step hB1 hB3)
      | fail)
    go_ret2
    exact ⟨by rw [HE.out.1, HER.out]; rfl, hB3⟩

set_option maxRecDepth 100000 in
set_option maxHeartbeats 2000000 in
theorem refDoesX_any (ts : List (Int × Int × Int)) (A : Option Addr) (cap : Nat) (ps : List Int) (B : Option Addr) (cb : Nat) (w : World) (h : Marks w A ts) (hl : ts.length ≤ maxLen) (hq : Ints w B ps) (hps : ps.length ≤ maxLen) :
    Calls Try.prog 22 #[.slice A ts.length cap, .slice B ps.length cb] w fun e w' => e = .returned (.tuple #[.bool (daV ts ps), .int .i64 (erE ts ps)]) ∧ Below w.heap.size w w' := by
  have H := Lib.hid h
  have HL := Lib.hid hl
  have HQ := Lib.hid hq
  have HPS := Lib.hid hps
  have HAS : Hid (Calls Try.prog 58 #[.slice A ts.length cap, .slice B ps.length cb] w fun e w' => e = .returned (.int .i64 (erE ts ps)) ∧ ∃ n, w' = w.drewN n) := Lib.hid (asked_any ts A cap ps B cb w h hl hq hps)
  clear h hl hq hps
  by_cases hE : erE ts ps = 0
  case neg =>
    have HE := Lib.hid (ri_e hE)
    obtain ⟨E, hEE⟩ : ∃ E, erE ts ps = E := ⟨_, rfl⟩
    have t1 : (E == 0) = false := by rw [hEE] at hE; simpa using hE
    have t1' : (E != 0) = true := by rw [hEE] at hE; simpa using hE
    rw [hEE] at HAS
    have HEE := Lib.hid hEE
    clear hEE hE
    go_enter Try.func22, Try.ntmps22
    go_wp2_with (first
      | (go_at_call 58; refine HAS.out.mono ?_; rintro e w1 ⟨rfl, n, rfl⟩; have hB1 := below_drewN (Below.refl w.heap.size w) n)
      | fail)
    go_ret2
    exact ⟨by rw [HE.out.2.1, HEE.out]; rfl, hB1⟩
  case pos =>
    have HE := Lib.hid (ri_o hE)
    have HER := Lib.hid hE
    have hV := er_zero hE
    have HV := Lib.hid hV.1
    have HI := Lib.hid hV.2
    rw [hE] at HAS
    clear hE hV
    go_enter Try.func22, Try.ntmps22
    go_wp2_with (first
      | (go_at_call 58; refine HAS.out.mono ?_; rintro e w1 ⟨rfl, n, rfl⟩; have hB1 := below_drewN (Below.refl w.heap.size w) n)
      | (go_at_call 63; refine (refDoesAll_any ts _ _ ps _ _ _ (H.out.below hB1) HV.out (HQ.out.below hB1) HI.out).mono ?_; rintro e w3 ⟨rfl, hB3⟩; have hB3 := below_step hB1 hB3)
      | fail)
    go_ret2
    exact ⟨by rw [HE.out.2.1, HER.out]; rfl, hB3⟩

set_option maxRecDepth 100000 in
set_option maxHeartbeats 2000000 in
theorem refFreeX_any (ts : List (Int × Int × Int)) (A : Option Addr) (cap : Nat) (ps : List Int) (B : Option Addr) (cb : Nat) (w : World) (h : Marks w A ts) (hl : ts.length ≤ maxLen) (hq : Ints w B ps) (hps : ps.length ≤ maxLen) :
    Calls Try.prog 26 #[.slice A ts.length cap, .slice B ps.length cb] w fun e w' => e = .returned (.tuple #[.int .i64 (frV ts ps), .int .i64 (erE ts ps)]) ∧ Below w.heap.size w w' := by
  have H := Lib.hid h
  have HL := Lib.hid hl
  have HQ := Lib.hid hq
  have HPS := Lib.hid hps
  have HAS : Hid (Calls Try.prog 58 #[.slice A ts.length cap, .slice B ps.length cb] w fun e w' => e = .returned (.int .i64 (erE ts ps)) ∧ ∃ n, w' = w.drewN n) := Lib.hid (asked_any ts A cap ps B cb w h hl hq hps)
  clear h hl hq hps
  by_cases hE : erE ts ps = 0
  case neg =>
    have HE := Lib.hid (ri_e hE)
    obtain ⟨E, hEE⟩ : ∃ E, erE ts ps = E := ⟨_, rfl⟩
    have t1 : (E == 0) = false := by rw [hEE] at hE; simpa using hE
    have t1' : (E != 0) = true := by rw [hEE] at hE; simpa using hE
    rw [hEE] at HAS
    have HEE := Lib.hid hEE
    clear hEE hE
    go_enter Try.func26, Try.ntmps26
    go_wp2_with (first
      | (go_at_call 58; refine HAS.out.mono ?_; rintro e w1 ⟨rfl, n, rfl⟩; have hB1 := below_drewN (Below.refl w.heap.size w) n)
      | fail)
    go_ret2
    exact ⟨by rw [HE.out.2.2.1, HEE.out]; rfl, hB1⟩
  case pos =>
    have HE := Lib.hid (ri_o hE)
    have HER := Lib.hid hE
    have hV := er_zero hE
    have HV := Lib.hid hV.1
    have HI := Lib.hid hV.2
    rw [hE] at HAS
    clear hE hV
    have hpl := isP_len HI.out
    obtain ⟨bp, op, hA, hbp, hcp⟩ := HQ.out.open_ (by omega)
    subst hA
    have HCP := Lib.hid hcp
    have HBD := Lib.hid (inP_bd HI.out)
    have hp1 : ps.length ≤ 100 := by omega
    have HPL := Lib.hid hpl
    clear hpl hcp
    go_enter Try.func26, Try.ntmps26
    go_wp2_with (first
      | (go_at_call 58; refine HAS.out.mono ?_; rintro e w1 ⟨rfl, n, rfl⟩; have hB1 := below_drewN (Below.refl w.heap.size w) n)
      | fail)
    go_loop [7, 8] (fun s i => ∃ (k : Nat) (z : Int), k ≤ ps.length ∧ i = .int .i64 k ∧ s = .int .i64 z ∧ 0 ≤ z ∧ z ≤ k ∧ Hid (z = frI (pF ps) k)) (fun _ i => ps.length - (intOf i).toNat)
    case atStart => exact ⟨0, 0, Nat.zero_le _, rfl, rfl, by omega, by omega, rfl⟩
    case round =>
      obtain ⟨k, z, hk, rfl, rfl, z1, z2, hz⟩ := hrel
      by_cases hlt : k < ps.length
      · obtain ⟨v, hv⟩ := getElem?_of_lt hlt
        have c0 := (hB1.cell (p := ⟨bp, op + k, none⟩) hbp).trans (HCP.out k v hv)
        have hbd := HBD.out k v hv
        have HV2 := Lib.hid (pF_get hv)
        obtain ⟨hb1, _⟩ := hbd
        clear hv
        by_cases hneg : v < 0
        · have t2 : decide (v < 0) = true := decide_eq_true hneg
          have HN : Hid (frI (pF ps) (k + 1) = z + 1) := Lib.hid (by rw [fr_in (by rw [HV2.out]; omega), hz.out])
          clear hneg
          go_wp2
          go_round
          case rel => exact ⟨k + 1, z + 1, by omega, by go_num, rfl, by omega, by omega, Lib.hid HN.out.symm⟩
          case measure => simp [intOf]; omega
        · have t2 : decide (v < 0) = false := decide_eq_false hneg
          have HN : Hid (frI (pF ps) (k + 1) = z) := Lib.hid (by rw [fr_out (by rw [HV2.out]; omega), hz.out])
          clear hneg
          go_wp2
          go_round
          case rel => exact ⟨k + 1, z, by omega, by go_num, rfl, by omega, by omega, Lib.hid HN.out.symm⟩
          case measure => simp [intOf]; omega
      · obtain rfl : k = ps.length := by omega
        go_wp2
        go_ret2
        exact ⟨by rw [HE.out.2.2, HER.out, ← HPL.out, ← hz.out]; rfl, hB1⟩

set_option maxRecDepth 100000 in
set_option maxHeartbeats 2000000 in
theorem refDoneX_any (ts : List (Int × Int × Int)) (A : Option Addr) (cap : Nat) (ps : List Int) (B : Option Addr) (cb : Nat) (w : World) (h : Marks w A ts) (hl : ts.length ≤ maxLen) (hq : Ints w B ps) (hps : ps.length ≤ maxLen) :
    Calls Try.prog 24 #[.slice A ts.length cap, .slice B ps.length cb] w fun e w' => ∃ B c, e = .returned (.tuple #[.slice B (doL ts ps).length c, .int .i64 (doE ts ps)]) ∧ Out w' B c (doL ts ps) ∧ Below w.heap.size w w' := by
  have H := Lib.hid h
  have HL := Lib.hid hl
  have HQ := Lib.hid hq
  have HPS := Lib.hid hps
  have HAS : Hid (Calls Try.prog 58 #[.slice A ts.length cap, .slice B ps.length cb] w fun e w' => e = .returned (.int .i64 (erE ts ps)) ∧ ∃ n, w' = w.drewN n) := Lib.hid (asked_any ts A cap ps B cb w h hl hq hps)
  clear h hl hq hps
  by_cases hE : erE ts ps = 0
  case neg =>
    have HE := Lib.hid (ri_e hE)
    obtain ⟨E, hEE⟩ : ∃ E, erE ts ps = E := ⟨_, rfl⟩
    have t1 : (E == 0) = false := by rw [hEE] at hE; simpa using hE
    have t1' : (E != 0) = true := by rw [hEE] at hE; simpa using hE
    rw [hEE] at HAS
    have HEE := Lib.hid hEE
    clear hEE hE
    go_enter Try.func24, Try.ntmps24
    go_wp2_with (first
      | (go_at_call 58; refine HAS.out.mono ?_; rintro e w1 ⟨rfl, n, rfl⟩; have hB1 := below_drewN (Below.refl w.heap.size w) n)
      | fail)
    go_ret2
    exact ⟨none, 0, by rw [HE.out.2.2.2.2, HE.out.2.2.2.1, HEE.out]; rfl, by rw [HE.out.2.2.2.2]; exact Out.nil_, hB1⟩
  case pos =>
    have HE := Lib.hid (ri_o hE)
    have HER := Lib.hid hE
    have hV := er_zero hE
    have HV := Lib.hid hV.1
    have HI := Lib.hid hV.2
    rw [hE] at HAS
    clear hE hV
    cases hr : riB ts (pF ps) with
    | false =>
      have HRI := Lib.hid hr
      have HD := Lib.hid (do_no HER.out hr)
      clear hr
      go_enter Try.func24, Try.ntmps24
      go_wp2_with (first
        | (go_at_call 58; refine HAS.out.mono ?_; rintro e w1 ⟨rfl, n, rfl⟩; have hB1 := below_drewN (Below.refl w.heap.size w) n)
        | (go_at_call 59; refine (refRight_any ts _ _ ps _ _ _ (H.out.below hB1) HV.out (HQ.out.below hB1) HI.out).mono ?_; rintro e w3 ⟨he, hB3⟩; rw [HRI.out] at he; subst he; have hB3 := below_step hB1 hB3)
        | fail)
      go_ret2
      exact ⟨none, 0, by rw [HD.out.1, HD.out.2]; rfl, by rw [HD.out.2]; exact Out.nil_, hB3⟩
    | true =>
      have HRI := Lib.hid hr
      have HD := Lib.hid (do_yes HER.out hr)
      clear hr
      have hpl := isP_len HI.out
      obtain ⟨bp, op, hA, hbp, hcp⟩ := HQ.out.open_ (by omega)
      subst hA
      have HCP := Lib.hid hcp
      have HBD := Lib.hid (inP_bd HI.out)
      have hp1 : ps.length ≤ 100 := by omega
      have HPL := Lib.hid hpl
      have hl := va_len HV.out
      obtain ⟨hl1, hl2⟩ := hl
      obtain ⟨bl, off, hA2, hbk, hcells⟩ := H.out.open_ (show 0 < ts.length by omega)
      subst hA2
      have HC := Lib.hid hcells
      clear hpl hcp hcells
      go_enter Try.func24, Try.ntmps24
      go_wp2_with (first
        | (go_at_call 58; refine HAS.out.mono ?_; rintro e w1 ⟨rfl, n, rfl⟩; have hB1 := below_drewN (Below.refl w.heap.size w) n)
        | (go_at_call 59; refine (refRight_any ts _ _ ps _ _ _ (H.out.below hB1) HV.out (HQ.out.below hB1) HI.out).mono ?_; rintro e w3 ⟨he, hB3⟩; rw [HRI.out] at he; subst he; have hB3 := below_step hB1 hB3)
        | fail)
      go_loopw [7, 8] (fun l i wr => ∃ k : Nat, k ≤ ts.length ∧ i = .int .i64 k ∧ wr.ownsRow w3.heap.size 3 1 l k ((vL (dnF ts (pF ps) 100) k).map (Value.int .i64)) ∧ w3.heap.size ≤ wr.heap.size ∧ Below w.heap.size w wr) (fun _ i _ => ts.length - (intOf i).toNat)
      case atStart => exact ⟨0, Nat.zero_le _, rfl, ⟨rfl, .inl ⟨rfl, rfl⟩⟩, Nat.le_refl _, hB3⟩
      case round =>
        obtain ⟨k, hk, rfl, hown, hsz, hB⟩ := hrel
        by_cases hlt : k < ts.length
        · obtain ⟨x, y, d, hx⟩ := getT_of_lt hlt
          have f2 := (hB.cell (p := ⟨bl, off + k * 3 + 2, none⟩) hbk).trans (HC.out _ _ hx).2.2
          have HWK := Lib.hid (getT_parts hx).2.2
          have hwd := va_at HV.out hlt
          rw [(getT_parts hx).2.2] at hwd
          obtain ⟨_, _, _, hw1, hw2⟩ := hwd
          have HO := Lib.hid hown
          clear hx hown
          go_wp2
          go_quiet (fail)
          obtain ⟨W, hWe, hO2, hB2, hS2⟩ : ∃ W, wr.drewN nq = W ∧ Hid (W.ownsRow w3.heap.size 3 1 _ k ((vL (dnF ts (pF ps) 100) k).map (Value.int .i64))) ∧ Below w.heap.size w W ∧ w3.heap.size ≤ W.heap.size := ⟨_, rfl, Lib.hid HO.out, below_drewN hB _, hsz⟩
          rw [hWe]
          clear hWe HO f2
          go_wp2
          go_loop [9, 10, 11] (fun dn lf i => ∃ (m : Nat) (z u : Int), m ≤ ps.length ∧ i = .int .i64 m ∧ dn = .int .i64 z ∧ lf = .int .i64 (d - u) ∧ 0 ≤ u ∧ u ≤ m ∧ Hid (u = cn (pF ps) k m) ∧ Hid (z = dnF ts (pF ps) m k)) (fun _ _ i => ps.length - (intOf i).toNat)
          case atStart => exact ⟨0, -1, 0, Nat.zero_le _, rfl, rfl, by go_num, by omega, by omega, rfl, rfl⟩
          case round =>
            obtain ⟨m, z, u, hm, rfl, rfl, rfl, u1, u2, hu, hz⟩ := hrel
            by_cases hlt2 : m < ps.length
            · obtain ⟨v, hv⟩ := getElem?_of_lt hlt2
              have c0 := (hB2.cell (p := ⟨bp, op + m, none⟩) hbp).trans (HCP.out m v hv)
              have HV2 := Lib.hid (pF_get hv)
              clear hv
              by_cases hvk : v = (k : Int)
              · have t2 : (v == (k : Int)) = true := by simpa using hvk
                have HU : Hid (u + 1 = cn (pF ps) k (m + 1)) := Lib.hid (by rw [cn_in (by rw [HV2.out, hvk]), if_pos rfl, hu.out])
                by_cases hdz : d - u - 1 = 0
                · have t3 : (d - u - 1 == 0) = true := by simpa using hdz
                  have HN : Hid (dnF ts (pF ps) (m + 1) k = (m : Int) + 1) := Lib.hid (by rw [dnF_in (by rw [HV2.out, hvk]) (by rw [HWK.out, ← hu.out]; omega), if_pos rfl])
                  clear hvk hdz
                  go_wp2
                  go_round
                  case rel => exact ⟨m + 1, (m : Int) + 1, u + 1, by omega, by go_num, (by first | rfl | go_num), (by first | rfl | (congr 1; omega) | go_num), by omega, by omega, HU, Lib.hid HN.out.symm⟩
                  case measure => simp [intOf]; omega
                · have t3 : (d - u - 1 == 0) = false := by simpa using hdz
                  have HN : Hid (dnF ts (pF ps) (m + 1) k = z) := Lib.hid (by rw [dnF_no (by rw [HV2.out, hvk]) (by rw [HWK.out, ← hu.out]; omega), hz.out])
                  clear hvk hdz
                  go_wp2
                  go_round
                  case rel => exact ⟨m + 1, z, u + 1, by omega, by go_num, rfl, (by first | rfl | (congr 1; omega) | go_num), by omega, by omega, HU, Lib.hid HN.out.symm⟩
                  case measure => simp [intOf]; omega
              · have t2 : (v == (k : Int)) = false := by simpa using hvk
                have HU : Hid (u = cn (pF ps) k (m + 1)) := Lib.hid (by
                  show u = cn (pF ps) k m + (if pF ps m = (k : Int) then 1 else 0)
                  rw [HV2.out, if_neg hvk, hu.out]; omega)
                have HN : Hid (dnF ts (pF ps) (m + 1) k = z) := Lib.hid (by rw [hz.out]; exact dn_else (by rw [HV2.out]; rintro ⟨h, _⟩; exact hvk h))
                clear hvk
                go_wp2
                go_round
                case rel => exact ⟨m + 1, z, u, by omega, by go_num, rfl, rfl, by omega, by omega, HU, Lib.hid HN.out.symm⟩
                case measure => simp [intOf]; omega
            · obtain rfl : m = ps.length := by omega
              have HS : Hid ((vL (dnF ts (pF ps) 100) (k + 1)) = vL (dnF ts (pF ps) 100) k ++ [z]) := Lib.hid (by rw [vL_snoc, hz.out, HPL.out])
              go_wp2_with (at_builtin; refine wp_app_int _ rfl (.tmp 55) (.tmp 57) rfl w3.heap.size _ k (vL (dnF ts (pF ps) 100) k) _ rfl hO2.out rfl (by omega) hS2 ?_; intro v' w5 hown5 hB6)
              go_roundw
              case rel =>
                refine ⟨k + 1, by omega, by go_num, ?_, Nat.le_trans hS2 hB6.size, Below.trans hB2 (hB6.mono hB3.size)⟩
                rw [HS.out]; exact hown5
              case measure => simp [intOf]; omega
        · obtain rfl : k = ts.length := by omega
          obtain ⟨B, c, rfl, ho⟩ := own_ints hown
          have HO := Lib.hid ho
          clear hown ho
          go_wp2
          go_ret2
          exact ⟨B, c, by rw [HD.out.1, HD.out.2]; rfl, by rw [HD.out.2]; exact HO.out, hB⟩

end Go.Proofs.Ythanmiifcpajhaa
