/-
  Contracts: both Trigger.
-/
import Derived.Test.YticokhiehejljaaMost
namespace Go.Proofs.Yticokhiehejljaa
open Go.RowKit Go.Shelf

theorem okN_bd {n : Int} (h : okN n = true) : 1 ≤ n ∧ n ≤ 14 := by simpa [okN] using h
theorem trig_sorted {ms : List (Int × Int)} {n v z : Int} {ys : List Int} {k : Nat} (hp : ys.Perm (allL ms.length)) (hs : Srt (timeI ms) ys ys.length) (hz : ys[k]? = some z) (h : TInv ms n v (ys.take k)) (hn : n ≤ cntI ms (timeI ms z) v) : TrigIs ms n v (timeI ms z) 0 := by
  refine .inl ⟨rfl, ⟨z, hp.mem_iff.1 (List.mem_of_getElem? hz), rfl, hn⟩, fun b hb hc => ?_⟩
  obtain ⟨p, hp1, e⟩ := List.mem_iff_getElem.1 (hp.mem_iff.2 hb)
  obtain ⟨hk, ez⟩ := List.getElem?_eq_some_iff.1 hz
  rcases Nat.lt_trichotomy p k with h1 | h1 | h1
  · have := h b (by rw [← e]; exact List.mem_take_iff_getElem.2 ⟨p, by omega, rfl⟩)
    omega
  · subst h1; rw [← e, ez]; exact Int.le_refl _
  · have := hs k p h1 hp1
    rw [List.getD_eq_getElem?_getD, hz, List.getD_eq_getElem?_getD, List.getElem?_eq_getElem hp1] at this
    simpa [e] using this
theorem tinv_next {ms : List (Int × Int)} {n v z : Int} {ys : List Int} {k : Nat} (hz : ys[k]? = some z) (h : TInv ms n v (ys.take k)) (hn : cntI ms (timeI ms z) v < n) : TInv ms n v (ys.take (k + 1)) := by
  intro b hb
  rw [take_snoc hz] at hb
  rcases List.mem_append.1 hb with hb | hb
  · exact h b hb
  · simp at hb; subst hb; exact hn
theorem trig_none {ms : List (Int × Int)} {n v : Int} {ys : List Int} (hp : ys.Perm (allL ms.length)) (h : TInv ms n v ys) : TrigIs ms n v 0 5 := .inr ⟨rfl, rfl, fun b hb => h b (hp.mem_iff.2 hb)⟩
def RInv (ms : List (Int × Int)) (n v t : Int) : Prop := ∀ b ∈ allL ms.length, timeI ms b < t → cntI ms (timeI ms b) v < n
def RIn (ms : List (Int × Int)) (n v t : Int) (k : Nat) : Prop := ∀ b ∈ allL k, timeI ms b = t → cntI ms (timeI ms b) v < n
theorem rinv_start {ms : List (Int × Int)} (hv : vhB ms = true) (n v : Int) : RInv ms n v (-1000) := fun b hb h => by
  have := time_bd hv (allL_has hb); omega
theorem rin_next {ms : List (Int × Int)} {n v t : Int} {k : Nat} (h : RIn ms n v t k) (hn : timeI ms k = t → cntI ms t v < n) : RIn ms n v t (k + 1) := by
  intro b hb e
  rw [allL_succ] at hb
  rcases List.mem_append.1 hb with hb | hb
  · exact h b hb e
  · simp at hb; subst hb; rw [e]; exact hn e
theorem rinv_next {ms : List (Int × Int)} {n v t : Int} (h : RInv ms n v t) (hk : RIn ms n v t ms.length) : RInv ms n v (t + 1) := by
  intro b hb hlt
  by_cases e : timeI ms b = t
  · exact hk b hb e
  · exact h b hb (by omega)
theorem rinv_found {ms : List (Int × Int)} {n v t : Int} {a : Int} (ha : a ∈ allL ms.length) (e : timeI ms a = t) (h : RInv ms n v t) (hn : n ≤ cntI ms t v) : TrigIs ms n v t 0 := by
  refine .inl ⟨rfl, ⟨a, ha, e, hn⟩, fun b hb hc => ?_⟩
  by_cases hlt : timeI ms b < t
  · have := h b hb hlt; omega
  · omega
theorem rinv_none {ms : List (Int × Int)} (hv : vhB ms = true) {n v : Int} (h : RInv ms n v 1001) : TrigIs ms n v 0 5 := .inr ⟨rfl, rfl, fun b hb => h b hb (by have := time_bd hv (allL_has hb); omega)⟩
theorem mem_allK {ms : List (Int × Int)} {a : Int} (ha : hasB ms a = true) : a ∈ allL ms.length := by
  simp [hasB] at ha
  obtain ⟨k, rfl⟩ := Int.eq_ofNat_of_zero_le ha.1
  exact List.mem_map.2 ⟨k, List.mem_range.2 (by omega), rfl⟩
theorem okN_no {n : Int} (h : okN n = false) : n < 1 ∨ 14 < n := by
  have : ¬ (1 ≤ n ∧ n ≤ 14) := by simpa [okN] using h
  omega

set_option maxRecDepth 100000 in
set_option maxHeartbeats 1600000 in
theorem trigger_any (ms : List (Int × Int)) (A : Option Addr) (c : Nat) (n v : Int) (w : World) (h : Clk w A c ms) :
    Calls Try.prog 47 #[.slice A ms.length c, .int .i64 n, .int .i64 v] w fun e w' => ∃ t E : Int, e = .returned (.tuple #[.int .i64 t, .int .i64 E]) ∧ Below w.heap.size w w' ∧ Hid (TrigR ms n v t E) := by
  have H := Lib.hid h
  clear h
  cases hv : vhB ms with
  | true =>
    obtain ⟨hn1, hn2⟩ := vh_parts hv
    have HV := Lib.hid hv
    clear hv
    cases ho : okW v with
    | true =>
      obtain ⟨v0, v1⟩ := okW_bd ho
      have HO := Lib.hid ho
      clear ho
      cases hN : okN n with
      | true =>
        obtain ⟨n0, n1⟩ := okN_bd hN
        have HN := Lib.hid hN
        clear hN
        obtain ⟨bl, off, rfl, hbk, hcells⟩ := H.out.marks.open_ (by omega)
        have HC := Lib.hid hcells
        clear hcells
        go_enter Try.func47, Try.ntmps47
        go_wp2_with (first
          | (go_at_call 21; refine (valid_any ms _ c _ H.out.marks H.out.len).mono ?_; rintro e w1 ⟨he, hB1⟩; rw [HV.out] at he; subst he)
          | (go_at_call 90; refine (validWithin_any v _).mono ?_; rintro e w' ⟨he, rfl⟩; rw [HO.out] at he; subst he)
          | (go_at_call 91; refine (byTime_any ms _ c _ (H.out.marks.below hB1) HV.out).mono ?_; rintro e w2 ⟨A2, c2, ys, rfl, hO2, hB2, hP⟩; have hW2 := below_step hB1 hB2))
        have hyl : ys.length = ms.length := hP.out.1.length_eq.trans (allL_len _)
        have HYL := Lib.hid hyl
        have HO2 := Lib.hid hO2
        have hy14 : ys.length ≤ 14 := by omega
        clear hyl hO2 hB1 hB2
        go_loopw [29] (fun i wr => ∃ (k : Nat), k ≤ ys.length ∧ i = .int .i64 k ∧ Below w2.heap.size w2 wr ∧ Hid (TInv ms n v (ys.take k))) (fun i _ => ys.length - (intOf i).toNat)
        case atStart => exact ⟨0, Nat.zero_le _, rfl, Below.refl _ _, ((by intro b hb; simp at hb) : TInv ms n v (ys.take 0))⟩
        case round =>
          obtain ⟨k, hk, rfl, hB, hM⟩ := hrel
          have hBW := below_step hW2 hB
          by_cases hlt : k < ys.length
          · obtain ⟨ad, z, rfl, hbz, hz, hcz⟩ := HO2.out.ints.get hlt
            have fz := (hB.cell (p := ad.add k) (by rw [block_of_add]; exact hbz)).trans hcz
            have HZ := Lib.hid (perm_has hP.out.1 hz.out)
            obtain ⟨i, hzi, hi, hct⟩ := has_cells HC.out HZ.out
            have ft := (hBW.cell (p := ⟨bl, off + i * 2 + 1, none⟩) hbk).trans hct
            obtain ⟨t0, t1⟩ := time_bd HV.out HZ.out
            have HM2 := Lib.hid (H.out.marks.below hBW)
            have hi0 : (0 : Int) ≤ (i : Int) := by omega
            have hi1 : (i : Int) < (ms.length : Int) := by omega
            subst hzi
            obtain ⟨T, hT⟩ : ∃ T, timeI ms (i : Int) = T := ⟨_, rfl⟩
            rw [hT] at ft t0 t1
            have HT := Lib.hid hT
            clear hT hct hcz
            go_wp2_with (go_at_call 92; refine (within_any ms _ c T v _ HM2.out HV.out ⟨t0, t1⟩ ⟨v0, v1⟩).mono ?_; rintro e w3 ⟨x, rfl, hB3, x0, x1, hx⟩; have hB23 := below_step hB hB3; have ft3 := (hB3.cell (p := ⟨bl, off + i * 2 + 1, none⟩) (by exact Nat.lt_of_lt_of_le hbk hBW.size)).trans ft)
            · have hgt : n ≤ x := by assumption
              go_ret2
              refine ⟨T, 0, rfl, below_step hW2 hB23, ?_⟩
              show TrigR _ _ _ _ _
              rw [TrigR, HV.out, HO.out, HN.out, ← HT.out]
              exact trig_sorted hP.out.1 (by rw [HYL.out]; exact hP.out.2) hz.out hM.out (by rw [HT.out, ← hx.out]; exact hgt)
            · have hgt : x < n := by first | assumption | (exact Int.not_le.1 (by assumption))
              go_roundw
              case rel => exact ⟨k + 1, by omega, by go_num, hB23, tinv_next hz.out hM.out (by rw [HT.out, ← hx.out]; exact hgt)⟩
              case measure => simp [intOf]; omega
          · obtain rfl : k = ys.length := by omega
            go_wp2
            go_ret2
            refine ⟨0, 5, rfl, hBW, ?_⟩
            show TrigR _ _ _ _ _
            rw [TrigR, HV.out, HO.out, HN.out]
            refine trig_none hP.out.1 ?_
            have := hM.out
            rwa [List.take_length] at this
      | false =>
        have HN := Lib.hid hN
        have hor := okN_no hN
        clear hN
        rcases hor with h1 | h1
        all_goals
          go_enter Try.func47, Try.ntmps47
          go_wp2_with (first
            | (go_at_call 21; refine (valid_any ms _ c _ H.out.marks H.out.len).mono ?_; rintro e w1 ⟨he, hB1⟩; rw [HV.out] at he; subst he)
            | (go_at_call 90; refine (validWithin_any v _).mono ?_; rintro e w' ⟨he, rfl⟩; rw [HO.out] at he; subst he))
          go_ret2
          exact ⟨0, 2, rfl, hB1, (by rw [TrigR, HV.out, HN.out]; simp : TrigR _ _ _ _ _)⟩
    | false =>
      have HO := Lib.hid ho
      clear ho
      go_enter Try.func47, Try.ntmps47
      go_wp2_with (first
        | (go_at_call 21; refine (valid_any ms _ c _ H.out.marks H.out.len).mono ?_; rintro e w1 ⟨he, hB1⟩; rw [HV.out] at he; subst he)
        | (go_at_call 90; refine (validWithin_any v _).mono ?_; rintro e w' ⟨he, rfl⟩; rw [HO.out] at he; subst he))
      go_ret2
      exact ⟨0, 2, rfl, hB1, (by rw [TrigR, HV.out, HO.out]; simp : TrigR _ _ _ _ _)⟩
  | false =>
    have HV := Lib.hid hv
    clear hv
    go_enter Try.func47, Try.ntmps47
    go_wp2_with (go_at_call 21; refine (valid_any ms _ c _ H.out.marks H.out.len).mono ?_; rintro e w1 ⟨he, hB1⟩; rw [HV.out] at he; subst he)
    go_ret2
    exact ⟨0, 20, rfl, hB1, (by rw [TrigR, HV.out]; simp : TrigR _ _ _ _ _)⟩

set_option maxRecDepth 100000 in
set_option maxHeartbeats 1600000 in
theorem refTrigger_any (ms : List (Int × Int)) (A : Option Addr) (c : Nat) (n v : Int) (w : World) (h : Clk w A c ms) :
    Calls Try.prog 48 #[.slice A ms.length c, .int .i64 n, .int .i64 v] w fun e w' => ∃ t E : Int, e = .returned (.tuple #[.int .i64 t, .int .i64 E]) ∧ Below w.heap.size w w' ∧ Hid (TrigR ms n v t E) := by
  have H := Lib.hid h
  clear h
  have TA : Hid True := Lib.hid trivial
  cases hv : vhB ms with
  | true =>
    obtain ⟨hn1, hn2⟩ := vh_parts hv
    have HV := Lib.hid hv
    clear hv
    cases hN : okN n with
    | true =>
      obtain ⟨n0, n1⟩ := okN_bd hN
      have HN := Lib.hid hN
      clear hN
      cases ho : okW v with
      | true =>
        obtain ⟨v0, v1⟩ := okW_bd ho
        have HO := Lib.hid ho
        clear ho
        obtain ⟨bl, off, rfl, hbk, hcells⟩ := H.out.marks.open_ (by omega)
        have HC := Lib.hid hcells
        clear hcells
        go_enter Try.func48, Try.ntmps48
        go_wp2_with (first
          | (go_at_call 22; refine (refValid_any ms _ c _ H.out.marks H.out.len).mono ?_; rintro e w1 ⟨he, m1, rfl⟩; rw [HV.out] at he; subst he)
          | (go_at_call 64; clear TA; refine (refWithin_n n _).mono ?_; rintro e w' ⟨he, rfl⟩; rw [HN.out] at he; subst he)
          | (go_at_call 64; refine (refWithin_w v _).mono ?_; rintro e w' ⟨he, rfl⟩; rw [HO.out] at he; subst he))
        have HMW := Lib.hid (H.out.marks.drewN m1)
        have HCW : Hid (∀ (k : Nat) (m : Int × Int), ms[k]? = some m → (w.drewN m1).cell? ⟨bl, off + k * 2, none⟩ = some (.int .i64 m.1) ∧ (w.drewN m1).cell? ⟨bl, off + k * 2 + 1, none⟩ = some (.int .i64 m.2)) := HC.out
        have hBW : Below w.heap.size w (w.drewN m1) := below_drewN (Below.refl _ _) m1
        generalize w.drewN m1 = W at HMW HCW hBW ⊢
        go_loop [8] (fun s => ∃ t : Int, s = .int .i64 t ∧ -1000 ≤ t ∧ t ≤ 1001 ∧ Hid (RInv ms n v t)) (fun s => (1001 - intOf s).toNat)
        case atStart => exact ⟨-1000, rfl, by omega, by omega, rinv_start HV.out n v⟩
        case round =>
          obtain ⟨t, rfl, t0, t1, hR⟩ := hrel
          by_cases ht : t ≤ 1000
          · go_wp2
            go_loop [9] (fun s => ∃ k : Nat, k ≤ ms.length ∧ s = .int .i64 k ∧ Hid (RIn ms n v t k)) (fun s => ms.length - (intOf s).toNat)
            case atStart => exact ⟨0, Nat.zero_le _, rfl, ((by intro b hb; simp [allL] at hb) : RIn ms n v t 0)⟩
            case round =>
              obtain ⟨k, hk, rfl, hI⟩ := hrel
              by_cases hlt : k < ms.length
              · have HZ := Lib.hid (show hasB ms (k : Int) = true by simp [hasB]; omega)
                obtain ⟨i, hzi, hi, ft⟩ := has_cells HCW.out HZ.out
                obtain rfl : i = k := by omega
                clear hzi
                obtain ⟨T, hT⟩ : ∃ T, timeI ms (i : Int) = T := ⟨_, rfl⟩
                rw [hT] at ft
                have HT := Lib.hid hT
                clear hT
                by_cases he : T = t
                · have te : (T == t) = true := by simpa using he
                  have HE := Lib.hid he
                  clear he
                  go_wp2_with (go_at_call 93; refine (refFrom_any ms _ c t v _ HMW.out HV.out ⟨t0, ht⟩ ⟨v0, v1⟩).mono ?_; rintro e w3 ⟨x, rfl, rfl, x0, x1, hx⟩)
                  · have hgt : n ≤ x := by assumption
                    go_ret2
                    refine ⟨t, 0, rfl, hBW, ?_⟩
                    show TrigR _ _ _ _ _
                    rw [TrigR, HV.out, HO.out, HN.out]
                    exact rinv_found (mem_allK HZ.out) (HT.out.trans HE.out) hR.out (by rw [← hx.out]; exact hgt)
                  · have hgt : x < n := by first | assumption | (exact Int.not_le.1 (by assumption))
                    go_round
                    case rel => exact ⟨i + 1, by omega, by go_num, rin_next hI.out (fun _ => by rw [← hx.out]; exact hgt)⟩
                    case measure => simp [intOf]; omega
                · have te : (T == t) = false := by simpa using he
                  have HE := Lib.hid he
                  clear he
                  go_wp2
                  go_round
                  case rel => exact ⟨i + 1, by omega, by go_num, rin_next hI.out (fun e => absurd (HT.out.symm.trans e) HE.out)⟩
                  case measure => simp [intOf]; omega
              · obtain rfl : k = ms.length := by omega
                go_wp2
                go_round
                case rel => exact ⟨t + 1, rfl, by omega, by omega, rinv_next hR.out hI.out⟩
                case measure => simp [intOf]; omega
          · obtain rfl : t = 1001 := by omega
            go_wp2
            go_ret2
            refine ⟨0, 5, rfl, hBW, ?_⟩
            show TrigR _ _ _ _ _
            rw [TrigR, HV.out, HO.out, HN.out]
            exact rinv_none HV.out hR.out
      | false =>
        have HO := Lib.hid ho
        clear ho
        go_enter Try.func48, Try.ntmps48
        go_wp2_with (first
          | (go_at_call 22; refine (refValid_any ms _ c _ H.out.marks H.out.len).mono ?_; rintro e w1 ⟨he, m1, rfl⟩; rw [HV.out] at he; subst he)
          | (go_at_call 64; clear TA; refine (refWithin_n n _).mono ?_; rintro e w' ⟨he, rfl⟩; rw [HN.out] at he; subst he)
          | (go_at_call 64; refine (refWithin_w v _).mono ?_; rintro e w' ⟨he, rfl⟩; rw [HO.out] at he; subst he))
        go_ret2
        exact ⟨0, 2, rfl, (by repeat (first | with_reducible exact Below.refl _ _ | with_reducible assumption | refine below_drewN ?_ _ | with_reducible refine Below.drew ?_ | (refine Below.setCell ?_ (by first | (simp; done) | (simp; omega) | omega) _) | (refine Below.alloc ?_ (by first | (simp; done) | (simp; omega) | omega) _))), (by rw [TrigR, HV.out, HO.out]; simp : TrigR _ _ _ _ _)⟩
    | false =>
      have HN := Lib.hid hN
      clear hN
      go_enter Try.func48, Try.ntmps48
      go_wp2_with (first
        | (go_at_call 22; refine (refValid_any ms _ c _ H.out.marks H.out.len).mono ?_; rintro e w1 ⟨he, m1, rfl⟩; rw [HV.out] at he; subst he)
        | (go_at_call 64; clear TA; refine (refWithin_n n _).mono ?_; rintro e w' ⟨he, rfl⟩; rw [HN.out] at he; subst he))
      go_ret2
      exact ⟨0, 2, rfl, (by repeat (first | with_reducible exact Below.refl _ _ | with_reducible assumption | refine below_drewN ?_ _ | with_reducible refine Below.drew ?_ | (refine Below.setCell ?_ (by first | (simp; done) | (simp; omega) | omega) _) | (refine Below.alloc ?_ (by first | (simp; done) | (simp; omega) | omega) _))), (by rw [TrigR, HV.out, HN.out]; simp : TrigR _ _ _ _ _)⟩
  | false =>
    have HV := Lib.hid hv
    clear hv
    go_enter Try.func48, Try.ntmps48
    go_wp2_with (go_at_call 22; refine (refValid_any ms _ c _ H.out.marks H.out.len).mono ?_; rintro e w1 ⟨he, m1, rfl⟩; rw [HV.out] at he; subst he)
    go_ret2
    exact ⟨0, 20, rfl, (by repeat (first | with_reducible exact Below.refl _ _ | with_reducible assumption | refine below_drewN ?_ _ | with_reducible refine Below.drew ?_ | (refine Below.setCell ?_ (by first | (simp; done) | (simp; omega) | omega) _) | (refine Below.alloc ?_ (by first | (simp; done) | (simp; omega) | omega) _))), (by rw [TrigR, HV.out]; simp : TrigR _ _ _ _ _)⟩
end Go.Proofs.Yticokhiehejljaa
