/-
  The walk of WeighBest out of its ways.
-/
import Derived.Test.YtolpbbabmcpdkaaLawBest
set_option linter.unusedVariables false
set_option linter.unusedSimpArgs false
namespace Go.Proofs.Ytolpbbabmcpdkaa
open Go.RowKit Go.Shelf

set_option maxRecDepth 100000 in
set_option maxHeartbeats 1000000 in
theorem best_long (ns ss cs : List Int) (A B C : Option Addr) (c d e1 : Nat) (kk : Int) (w : World)
    (hL : SaysU 15 #[(.agg #[.slice A ns.length c, .slice B ss.length d])] w true) :
    Calls Try.prog 8 #[(.agg #[.slice A ns.length c, .slice B ss.length d]), .int .u8 kk, .slice C cs.length e1] w fun e w' => e = .returned (.bool true) ∧ Below w.heap.size w w' := by
  have HL := Lib.hid hL
  clear hL
  obtain ⟨W0, hW0, HW, HO, z0⟩ := one_new w #[.slice A ns.length c, .slice B ss.length d] 24
  clear z0
  go_enter Try.func8, Try.ntmps8
  go_wp2_with (first
    | (go_at_call 15; with_reducible refine (HL.out _ (by repeat (first | with_reducible exact Below.refl _ _ | with_reducible assumption | refine below_drewN ?_ _ | with_reducible refine Below.drew ?_ | (refine Below.setCell ?_ (by first | (simp; done) | (simp; omega) | omega) _) | (refine Below.alloc ?_ (by first | (simp; done) | (simp; omega) | omega) _)))).mono ?_; rintro e v1 ⟨rfl, hB1⟩; rw [← hW0] at hB1; have HW : Hid (Below w.heap.size w _) := Lib.hid (below_step HW.out hB1); clear hB1)
    | (go_at_call 16; refine (awake_any _).mono ?_; rintro e v12 ⟨rfl, hB12⟩; have HW : Hid (Below w.heap.size w _) := Lib.hid (below_step HW.out hB12); clear hB12)
    | fail)
  go_ret
  exact ⟨rfl, HW.out⟩
set_option maxRecDepth 100000 in
set_option maxHeartbeats 1000000 in
theorem best_long2 (ns ss cs : List Int) (A B C : Option Addr) (c d e1 : Nat) (kk : Int) (w : World)
    (hL : SaysU 15 #[(.agg #[.slice A ns.length c, .slice B ss.length d])] w false) (hcl : decide (60 < (cs.length : Int)) = true) :
    Calls Try.prog 8 #[(.agg #[.slice A ns.length c, .slice B ss.length d]), .int .u8 kk, .slice C cs.length e1] w fun e w' => e = .returned (.bool true) ∧ Below w.heap.size w w' := by
  have HL := Lib.hid hL
  clear hL
  obtain ⟨W0, hW0, HW, HO, z0⟩ := one_new w #[.slice A ns.length c, .slice B ss.length d] 24
  clear z0
  go_enter Try.func8, Try.ntmps8
  go_wp2_with (first
    | (go_at_call 15; with_reducible refine (HL.out _ (by repeat (first | with_reducible exact Below.refl _ _ | with_reducible assumption | refine below_drewN ?_ _ | with_reducible refine Below.drew ?_ | (refine Below.setCell ?_ (by first | (simp; done) | (simp; omega) | omega) _) | (refine Below.alloc ?_ (by first | (simp; done) | (simp; omega) | omega) _)))).mono ?_; rintro e v1 ⟨rfl, hB1⟩; rw [← hW0] at hB1; have HW : Hid (Below w.heap.size w _) := Lib.hid (below_step HW.out hB1); clear hB1)
    | (go_at_call 16; refine (awake_any _).mono ?_; rintro e v12 ⟨rfl, hB12⟩; have HW : Hid (Below w.heap.size w _) := Lib.hid (below_step HW.out hB12); clear hB12)
    | fail)
  go_ret
  exact ⟨rfl, HW.out⟩
set_option maxRecDepth 100000 in
set_option maxHeartbeats 1000000 in
theorem best_bad (ns ss cs : List Int) (A B C : Option Addr) (c d e1 : Nat) (kk : Int) (w : World)
    (hL : SaysU 15 #[(.agg #[.slice A ns.length c, .slice B ss.length d])] w false) (hV : SaysU 22 #[(.agg #[.slice A ns.length c, .slice B ss.length d])] w false) (hcl : decide (60 < (cs.length : Int)) = false) :
    Calls Try.prog 8 #[(.agg #[.slice A ns.length c, .slice B ss.length d]), .int .u8 kk, .slice C cs.length e1] w fun e w' => e = .returned (.bool true) ∧ Below w.heap.size w w' := by
  have HL := Lib.hid hL
  have HV := Lib.hid hV
  clear hL hV
  obtain ⟨W0, hW0, HW, HO, z0⟩ := one_new w #[.slice A ns.length c, .slice B ss.length d] 24
  have HO : Hid (Ou W0 w.heap.size (.slice A ns.length c) (.slice B ss.length d)) := HO
  clear z0
  have b0 := HO.out.c0
  have b1 := HO.out.c1
  go_enter Try.func8, Try.ntmps8
  go_wp2_with (first
    | (go_at_call 15; with_reducible refine (HL.out _ (by repeat (first | with_reducible exact Below.refl _ _ | with_reducible assumption | refine below_drewN ?_ _ | with_reducible refine Below.drew ?_ | (refine Below.setCell ?_ (by first | (simp; done) | (simp; omega) | omega) _) | (refine Below.alloc ?_ (by first | (simp; done) | (simp; omega) | omega) _)))).mono ?_; rintro e v1 ⟨rfl, hB1⟩; rw [← hW0] at hB1; have HO := Lib.hid (HO.out.below hB1); have b0 := HO.out.c0; have b1 := HO.out.c1; have HW : Hid (Below w.heap.size w _) := Lib.hid (below_step HW.out hB1); clear hB1)
    | (go_at_call 22; with_reducible refine (HV.out _ HW.out).mono ?_; rintro e v2 ⟨rfl, hB2⟩; have HW : Hid (Below w.heap.size w _) := Lib.hid (below_step HW.out hB2); clear hB2)
    | (go_at_call 16; refine (awake_any _).mono ?_; rintro e v12 ⟨rfl, hB12⟩; have HW : Hid (Below w.heap.size w _) := Lib.hid (below_step HW.out hB12); clear hB12)
    | fail)
  go_ret
  exact ⟨rfl, HW.out⟩

/-! the arithmetic -/
theorem lowD_le {k s : Int} (hs : 0 < s) : lowD k s ≤ s := Int.ediv_le_self _ (by omega)
theorem lowN_le {k s : Int} (hk : 0 ≤ k) : lowN k s ≤ k := Int.ediv_le_self _ hk
theorem low_eq {k s : Int} (hs : 0 < s) : lowN k s * s = k * lowD k s := by
  obtain ⟨h1, h2⟩ := low_mul (k := k) hs
  generalize lowN k s = n at *
  generalize lowD k s = d at *
  generalize (Int.gcd k s : Int) = g at *
  rw [← h1, ← h2, ← Int.mul_assoc, Int.mul_right_comm]
theorem tg_split (ns ss : List Int) (p q : Int) (cs : List Int) : tgV ns ss p q cs = keptL ss cs * (q * ns.sum) - keptL ns cs * (p * ss.sum) := by
  unfold tgV keptL
  induction cs with
  | nil => simp
  | cons a t ih =>
    simp only [List.map_cons, List.sum_cons]
    rw [ih]
    simp only [gnV]
    rw [Int.add_mul, Int.add_mul, Int.mul_assoc (ss.getD a.toNat 0), Int.mul_assoc (ns.getD a.toNat 0)]
    omega
theorem tg_most {ns ss : List Int} {p q : Int} {cs : List Int} (h : cutB ns.length cs = true) : tgV ns ss p q cs ≤ tgV ns ss p q (deL ns ss p q) := by
  rw [cut_of h, deL, tg_mS, tg_mS]
  refine sum_mono _ _ _ fun i _ => ?_
  by_cases hg : 0 < gnV ns ss p q i
  · rw [decide_eq_true hg]; simp only [if_true]; split <;> omega
  · rw [decide_eq_false hg]; simp only [Bool.false_eq_true, if_false]; split <;> omega
theorem not_lt_low {a b s : Int} (hs : 0 < s) (h : b ≤ a) : decide (lowN a s * lowD b s < lowN b s * lowD a s) = false := by
  refine decide_eq_false fun hl => ?_
  have h2 := (low_cross hs hs).1 hl
  have := Int.mul_le_mul_of_nonneg_right h (show 0 ≤ s by omega)
  omega
theorem le_of_low {a b s : Int} (hs : 0 < s) (h : decide (lowN a s * lowD b s < lowN b s * lowD a s) = false) : b ≤ a := by
  refine Int.not_lt.1 fun hl => ?_
  have h2 := (low_cross hs hs).2 (show a * s < b * s from Int.mul_lt_mul_of_pos_right hl hs)
  rw [decide_eq_true h2] at h
  cases h
theorem weighBest_walk (A : Option Addr) (c : Nat) (ns : List Int) (B : Option Addr) (d : Nat) (ss : List Int) (kk : Int) (cs : List Int) (C : Option Addr) (e1 : Nat) (w : World)
    (hA : Ints w A ns) (_ : ns.length ≤ c) (_ : c ≤ maxLen) (hB : Ints w B ss) (_ : ss.length ≤ d) (_ : d ≤ maxLen) (hk : (Lit.int .u8 kk).wf = true) (hC : Ints w C cs) (_ : cs.length ≤ e1) (_ : e1 ≤ maxLen) :
    Calls Try.prog 8 #[(.agg #[.slice A ns.length c, .slice B ss.length d]), .int .u8 kk, .slice C cs.length e1] w fun e w' => e = .returned (.bool true) ∧ Below w.heap.size w w' := by
  have hk2 : 0 ≤ kk ∧ kk ≤ 255 := by
    have h2 : (decide (0 ≤ kk) && decide (kk ≤ 255)) = true := hk
    simpa using h2
  have L1 : SaysU 15 #[(.agg #[.slice A ns.length c, .slice B ss.length d])] w (decide (60 < ns.length) || decide (60 < ss.length)) := fun W _ => long_any ns ss A B c d W
  cases hl : (decide (60 < ns.length) || decide (60 < ss.length)) with
  | true => rw [hl] at L1; exact best_long ns ss cs A B C c d e1 kk w L1
  | false =>
    rw [hl] at L1
    simp only [Bool.or_eq_false_iff, decide_eq_false_iff_not] at hl
    have h1 : ns.length ≤ 1000 := by omega
    have h2 : ss.length ≤ 1000 := by omega
    cases hcl : decide (60 < (cs.length : Int)) with
    | true => exact best_long2 ns ss cs A B C c d e1 kk w L1 hcl
    | false =>
      have hc3 : cs.length ≤ 1000 := by have := of_decide_eq_false hcl; omega
      have V1 : SaysU 22 #[(.agg #[.slice A ns.length c, .slice B ss.length d])] w (odB ns ss) := fun W hW => refValid_any ns ss A B c d W (hA.below hW) (hB.below hW) h1 h2
      cases hv : odB ns ss with
      | false => rw [hv] at V1; exact best_bad ns ss cs A B C c d e1 kk w L1 V1 hcl
      | true =>
        rw [hv] at V1
        have ho := od_of hv
        have hpos := ho.pos
        have hle := ho.le
        have hm0 := Int.emod_nonneg kk (show (ns.length : Int) ≠ 0 by omega)
        have hm1 := Int.emod_lt_of_pos kk (show 0 < (ns.length : Int) by omega)
        obtain ⟨n, hn⟩ : ∃ n : Nat, 1 + kk % (ns.length : Int) = n := ⟨(1 + kk % (ns.length : Int)).toNat, by omega⟩
        have hn1 : 1 ≤ n := by omega
        have hn2 : n ≤ ns.length := by omega
        have hcut := ct_cut (ns := ns) (ss := ss) n
        have hol := ct_len (ns := ns) (ss := ss) hn2
        have k1 := ho.kb hcut
        have hlp : 0 < lowD (keptL ns (ctL ns ss n)) ns.sum := (sm_of (sm_low k1.1.1 k1.1.2 ho.np (by have := ho.nm; omega))).1
        have hp0 := low_pos k1.1.1 ho.np
        have hpd := low_le k1.1.2 ho.np
        have hdle := lowD_le (k := keptL ns (ctL ns ss n)) ho.np
        have heq := low_eq (k := keptL ns (ctL ns ss n)) ho.np
        obtain ⟨p, hp⟩ : ∃ p, lowN (keptL ns (ctL ns ss n)) ns.sum = p := ⟨_, rfl⟩
        obtain ⟨q, hq⟩ : ∃ q, lowD (keptL ns (ctL ns ss n)) ns.sum = q := ⟨_, rfl⟩
        rw [hq] at hlp hpd hdle heq
        rw [hp] at hp0 hpd heq
        have hok : okN p q = true := by
          have := ho.nm
          rw [okN_eq]
          simp only [Bool.and_eq_true, decide_eq_true_eq]
          omega
        have hbc : cutB ns.length (bsL ns ss p q) = true := bs_cut ns ss p q _
        have k2 := ho.kb hbc
        have hbk : keptL ns (bsL ns ss p q) ≤ keptL ns (ctL ns ss n) := by
          have h := bs_ok (ns := ns) (ss := ss) (p := p) (q := q) (Int.mul_nonneg hp0 (by have := ho.np; omega)) (2 ^ ns.length)
          rw [heq] at h
          exact Int.le_of_mul_le_mul_right h hlp
        have hmax : ∀ os, cutB ns.length os = true → keptL ns os ≤ keptL ns (ctL ns ss n) → keptL ss os ≤ keptL ss (bsL ns ss p q) := fun os ho1 ho2 => bs_max ho1 (by rw [heq]; exact Int.mul_le_mul_of_nonneg_right ho2 (by omega))
        have hsg := hmax _ hcut (Int.le_refl _)
        have sm1 := sm_low k1.1.1 k1.1.2 ho.np (by have := ho.nm; omega)
        have sm2 := sm_low k1.2.1 k1.2.2 ho.sp (by have := ho.sm; omega)
        have sm3 := sm_low k2.1.1 k2.1.2 ho.np (by have := ho.nm; omega)
        have sm4 := sm_low k2.2.1 k2.2.2 ho.sp (by have := ho.sm; omega)
        have K : ∀ os, os.length ≤ 1000 → cutB ns.length os = true → KeptU (.agg #[.slice A ns.length c, .slice B ss.length d]) os w (lowN (keptL ns os) ns.sum) (lowD (keptL ns os) ns.sum) (lowN (keptL ss os) ss.sum) (lowD (keptL ss os) ss.sum) := fun os hos hoc W A' c' hW hO => keptLaw_any ns ss os A B A' c d c' W (hA.below hW) (hB.below hW) hO.ints hos hv hoc
        have K1 := K _ (by omega) hcut
        have K2 := K _ (by have := cutB_len hbc; omega) hbc
        have T1 := fun W (hW : Below w.heap.size w W) => wCut_yes ns ss A B c d W (hA.below hW) (hB.below hW) hv n hn2
        have R1 : ∀ W, Below w.heap.size w W → Calls Try.prog 23 #[(.agg #[.slice A ns.length c, .slice B ss.length d])] W fun e w' => ∃ A' c', e = .returned (.tuple #[.slice A' (rowL ns ss).length c', .int .i64 0]) ∧ Out w' A' c' (rowL ns ss) ∧ Below W.heap.size W w' := fun W hW => by
          refine (wRow_yes ns ss A B c d W (hA.below hW) (hB.below hW) hv).mono fun e w' ⟨gb, he, ho, hb⟩ => ?_
          have hrl : (rowL ns ss).length = ns.length := by rw [rowL, List.length_map, row_len]
          rw [← hrl] at ho he
          obtain ⟨A', c', hv', hO⟩ := own_ints ho
          exact ⟨A', c', by rw [he, hv'], hO, hb⟩
        have hrl : (rowL ns ss).length = ns.length := by rw [rowL, List.length_map, row_len]
        have B1 := fun W (hW : Below w.heap.size w W) => wBest_yes ns ss A B c d p q W (hA.below hW) (hB.below hW) hv hok
        obtain ⟨la1, la2⟩ := la_get (ns := ns) (ss := ss) hn1 hn2
        have d1 : decide (p * lowD (keptL ns (bsL ns ss p q)) ns.sum < lowN (keptL ns (bsL ns ss p q)) ns.sum * q) = false := by
          have := not_lt_low ho.np hbk
          rw [hp, hq] at this
          exact this
        have d2 := not_lt_low ho.sp hsg
        rw [hp, hq] at K1 sm1
        have I1 : SaysU 55 #[(.agg #[.slice A ns.length c, .slice B ss.length d]), .slice C cs.length e1] w (cutB ns.length cs) := fun W hW => isCut_any ns ss cs A B C c d e1 W (hC.below hW) hc3
        by_cases hz : ns.getD (laN ns ss n) 0 = 0
        · have P1 := fun W (hW : Below w.heap.size w W) => price_none ns ss A B c d n W (hA.below hW) (hB.below hW) hv hn1 hn2 hz
          have hz' : ns[laN ns ss n]? = some 0 := by
            rw [List.getD_eq_getElem?_getD, List.getElem?_eq_getElem la1] at hz
            rw [List.getElem?_eq_getElem la1]
            exact congrArg some hz
          cases hi : cutB ns.length cs with
          | false =>
            rw [hi] at I1
            exact best_nn ns ss _ _ _ cs A B C c d e1 n (laN ns ss n) kk _ _ _ _ _ _ _ _ _ _ w L1 V1 T1 P1 R1 K1 B1 K2 I1 hA hpos hrl hol hn1 hn2 hle hcl hn hk2 sm1 sm2 sm3 sm4 d1 d2 la2 la1 hz'
          | true =>
            rw [hi] at I1
            have k3 := ho.kb hi
            have sm5 := sm_low k3.1.1 k3.1.2 ho.np (by have := ho.nm; omega)
            have sm6 := sm_low k3.2.1 k3.2.2 ho.sp (by have := ho.sm; omega)
            have K3 := fun W (hW : Below w.heap.size w W) => keptLaw_any ns ss cs A B C c d e1 W (hA.below hW) (hB.below hW) (hC.below hW) hc3 hv hi
            cases hx : decide (p * lowD (keptL ns cs) ns.sum < lowN (keptL ns cs) ns.sum * q) with
            | true => exact best_nx ns ss _ _ _ cs A B C c d e1 n (laN ns ss n) kk _ _ _ _ _ _ _ _ _ _ _ _ _ _ w L1 V1 T1 P1 R1 K1 B1 K2 I1 K3 hA hpos hrl hol hn1 hn2 hle hcl hn hk2 sm1 sm2 sm3 sm4 sm5 sm6 d1 d2 la2 la1 hz' hx
            | false =>
              have hcs := hmax cs hi (le_of_low ho.np (by rw [hp, hq]; exact hx))
              exact best_ny ns ss _ _ _ cs A B C c d e1 n (laN ns ss n) kk _ _ _ _ _ _ _ _ _ _ _ _ _ _ w L1 V1 T1 P1 R1 K1 B1 K2 I1 K3 hA hpos hrl hol hn1 hn2 hle hcl hn hk2 sm1 sm2 sm3 sm4 sm5 sm6 d1 d2 la2 la1 hz' hx (not_lt_low ho.sp hcs)
        · have P1 := fun W (hW : Below w.heap.size w W) => price_yes ns ss A B c d n W (hA.below hW) (hB.below hW) hv hn1 hn2 hz
          have gx := getD_bd (by omega) ho.nb (laN ns ss n)
          have gs := getD_bd (by omega) ho.sb (laN ns ss n)
          have hx0 : 0 < ns.getD (laN ns ss n) 0 := by omega
          have u0 := ho.np
          have u1 := ho.nm
          have u2 := ho.sp
          have u3 := ho.sm
          have hu : 0 < ss.sum * ns.getD (laN ns ss n) 0 := Int.mul_pos u2 hx0
          obtain ⟨mu0, mu1⟩ := mul_bd (a := ss.sum) (b := ns.getD (laN ns ss n) 0) (A := 10000) (B := 1000) (by omega) u3 gx.1 gx.2
          obtain ⟨mv0, mv1⟩ := mul_bd (a := ss.getD (laN ns ss n) 0) (b := ns.sum) (A := 1000) (B := 10000) gs.1 gs.2 (by omega) u1
          have e1' := low_eq (k := ss.getD (laN ns ss n) 0 * ns.sum) hu
          have e2' := lowD_le (k := ss.getD (laN ns ss n) 0 * ns.sum) hu
          have e3' := lowN_le (s := ss.sum * ns.getD (laN ns ss n) 0) mv0
          have e4' := low_pos mv0 hu
          have e5' : 0 < lowD (ss.getD (laN ns ss n) 0 * ns.sum) (ss.sum * ns.getD (laN ns ss n) 0) := by
            have h := (low_mul (k := ss.getD (laN ns ss n) 0 * ns.sum) hu).2
            rcases Int.lt_trichotomy 0 (lowD (ss.getD (laN ns ss n) 0 * ns.sum) (ss.sum * ns.getD (laN ns ss n) 0)) with h0 | h0 | h0
            · exact h0
            · rw [← h0, Int.zero_mul] at h; omega
            · have := Int.mul_nonpos_of_nonpos_of_nonneg (Int.le_of_lt h0) (Int.natCast_nonneg (Int.gcd (ss.getD (laN ns ss n) 0 * ns.sum) (ss.sum * ns.getD (laN ns ss n) 0)))
              omega
          have hprv := ct_proves ho hn1 hn2 (P := lowN (ss.getD (laN ns ss n) 0 * ns.sum) (ss.sum * ns.getD (laN ns ss n) 0)) hx0 e5' e1'
          obtain ⟨P, hP⟩ : ∃ P, lowN (ss.getD (laN ns ss n) 0 * ns.sum) (ss.sum * ns.getD (laN ns ss n) 0) = P := ⟨_, rfl⟩
          obtain ⟨Q, hQ⟩ : ∃ Q, lowD (ss.getD (laN ns ss n) 0 * ns.sum) (ss.sum * ns.getD (laN ns ss n) 0) = Q := ⟨_, rfl⟩
          rw [hP, hQ] at hprv P1
          rw [hQ] at e2' e5'
          rw [hP] at e3' e4'
          have hokP : okP P Q = true := by
            unfold okP
            simp only [Bool.and_eq_true, decide_eq_true_eq]
            omega
          have PR : ∀ W A' c', Below w.heap.size w W → Out W A' c' (ctL ns ss n) → Calls Try.prog 36 #[(.agg #[.slice A ns.length c, .slice B ss.length d]), .slice A' (ctL ns ss n).length c', (.agg #[.int .i64 P, .int .i64 Q])] W fun e w' => e = .returned (.tuple #[.bool true, .int .i64 0]) ∧ Below W.heap.size W w' := fun W A' c' hW hO => by
            have := wProves_yes ns ss (ctL ns ss n) A B A' c d c' P Q W (hA.below hW) (hB.below hW) hO.ints hv hokP hcut
            rw [hprv, beq_self_eq_true] at this
            exact this
          have hsame : keptL ss (bsL ns ss p q) = keptL ss (ctL ns ss n) := by
            refine Int.le_antisymm ?_ hsg
            have hm := tg_most (ns := ns) (ss := ss) (p := P) (q := Q) hbc
            rw [← hprv, tg_split, tg_split] at hm
            have h3 := Int.mul_le_mul_of_nonneg_right hbk (Int.mul_nonneg e4' (Int.le_of_lt u2))
            have h4 : keptL ss (bsL ns ss p q) * (Q * ns.sum) ≤ keptL ss (ctL ns ss n) * (Q * ns.sum) := by omega
            exact Int.le_of_mul_le_mul_right h4 (Int.mul_pos e5' u0)
          rw [hsame] at K2 d2
          cases hi : cutB ns.length cs with
          | false =>
            rw [hi] at I1
            exact best_tn ns ss _ _ _ cs A B C c d e1 n kk _ _ _ _ _ _ _ _ w L1 V1 T1 P1 R1 K1 B1 K2 PR I1 hA hpos hrl hol hn1 hn2 hle hcl hn hk2 sm1 sm2 sm3 d1 d2
          | true =>
            rw [hi] at I1
            have k3 := ho.kb hi
            have sm5 := sm_low k3.1.1 k3.1.2 ho.np (by have := ho.nm; omega)
            have sm6 := sm_low k3.2.1 k3.2.2 ho.sp (by have := ho.sm; omega)
            have K3 := fun W (hW : Below w.heap.size w W) => keptLaw_any ns ss cs A B C c d e1 W (hA.below hW) (hB.below hW) (hC.below hW) hc3 hv hi
            cases hx : decide (p * lowD (keptL ns cs) ns.sum < lowN (keptL ns cs) ns.sum * q) with
            | true => exact best_tx ns ss _ _ _ cs A B C c d e1 n kk _ _ _ _ _ _ _ _ _ _ _ _ w L1 V1 T1 P1 R1 K1 B1 K2 PR I1 K3 hA hpos hrl hol hn1 hn2 hle hcl hn hk2 sm1 sm2 sm3 sm5 sm6 d1 d2 hx
            | false =>
              have hcs := hmax cs hi (le_of_low ho.np (by rw [hp, hq]; exact hx))
              rw [hsame] at hcs
              exact best_ty ns ss _ _ _ cs A B C c d e1 n kk _ _ _ _ _ _ _ _ _ _ _ _ w L1 V1 T1 P1 R1 K1 B1 K2 PR I1 K3 hA hpos hrl hol hn1 hn2 hle hcl hn hk2 sm1 sm2 sm3 sm5 sm6 d1 d2 hx (not_lt_low ho.sp hcs)
end Go.Proofs.Ytolpbbabmcpdkaa
