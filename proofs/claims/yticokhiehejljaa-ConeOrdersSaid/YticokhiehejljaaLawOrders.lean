/-
  The walk of ConeOrders: it returns true, whatever it is given.
-/
import Derived.Test.YticokhiehejljaaLawBefores
namespace Go.Proofs.Yticokhiehejljaa
open Go.RowKit Go.Shelf

set_option maxRecDepth 100000 in
theorem lawHas_any (zs : List Int) (A : Option Addr) (c : Nat) (x : Int) (w : World) (h : Ints w A zs) (hl : zs.length ≤ maxLen) :
    Calls Try.prog 54 #[.slice A zs.length c, .int .i64 x] w fun e w' => e = .returned (.bool (decide (x ∈ zs))) ∧ w = w' := by
  unfold maxLen at hl
  have H := Lib.hid h
  clear h
  go_enter Try.func54, Try.ntmps54
  go_wp2
  go_loop [5] (fun i => ∃ k : Nat, k ≤ zs.length ∧ i = .int .i64 k ∧ Hid (x ∉ zs.take k)) (fun i => zs.length - (intOf i).toNat)
  case atStart => exact ⟨0, Nat.zero_le _, rfl, (by simp : x ∉ zs.take 0)⟩
  case round =>
    obtain ⟨k, hk, rfl, hno⟩ := hrel
    by_cases hlt : k < zs.length
    · obtain ⟨ad, z, rfl, hbk, hz, hc⟩ := H.out.get hlt
      by_cases hx : z = x
      · subst hx
        go_wp2
        go_ret
        exact ⟨ret_bool (by rw [eq_comm]; exact decide_eq_true (List.mem_of_getElem? hz.out)), rfl⟩
      · have t1 : (z == x) = false := by simpa using hx
        go_wp2
        go_round
        case rel => exact ⟨k + 1, by omega, by go_num, not_mem_snoc hz.out hno.out (fun e => hx e.symm)⟩
        case measure => simp [intOf]; omega
    · go_wp2
      go_ret
      exact ⟨ret_bool (by rw [eq_comm]; refine decide_eq_false ?_; have := hno.out; rwa [List.take_of_length_le (by omega)] at this), rfl⟩
theorem lawHas_is (zs : List Int) (A : Option Addr) (c : Nat) (x : Int) (y : Bool) (w : World) (h : Ints w A zs) (hl : zs.length ≤ maxLen) (hy : decide (x ∈ zs) = y) :
    Calls Try.prog 54 #[.slice A zs.length c, .int .i64 x] w fun e w' => e = .returned (.bool y) ∧ w = w' := by
  subst hy; exact lawHas_any zs A c x w h hl
theorem mem_all {ms : List (Int × Int)} {a : Int} (ha : hasB ms a = true) : a ∈ allL ms.length := by
  simp [hasB] at ha
  obtain ⟨k, rfl⟩ := Int.eq_ofNat_of_zero_le ha.1
  exact List.mem_map.2 ⟨k, List.mem_range.2 (by omega), rfl⟩
theorem mem_past {ms : List (Int × Int)} {a b : Int} (ha : hasB ms a = true) : a ∈ pastL ms b ↔ befI ms a b = true := by
  rw [pastL, List.mem_filter]; simp [mem_all ha]
theorem mem_first {ms : List (Int × Int)} {b : Int} (hb : hasB ms b = true) : b ∈ firstL ms ↔ pastL ms b = [] := by
  rw [firstL, firstOfL, List.mem_filter, pastL, List.filter_eq_nil_iff]
  simp [mem_all hb]
theorem befI_irr (ms : List (Int × Int)) (a : Int) : befI ms a a = false := bef_irr _
theorem befI_asym {ms : List (Int × Int)} {a b : Int} (h : befI ms a b = true) : befI ms b a = false := bef_asym h
theorem befI_trans {ms : List (Int × Int)} {a b c : Int} (h : befI ms a b = true) (k : befI ms b c = true) : befI ms a c = true := bef_trans h k
theorem u8_bd {a : Int} (h : (Lit.int .u8 a).wf = true) : 0 ≤ a ∧ a ≤ 255 := by
  have h2 : (decide (0 ≤ a) && decide (a ≤ 255)) = true := h
  simpa using h2
theorem mod_has {ms : List (Int × Int)} {x : Int} (h : 1 ≤ ms.length) : hasB ms (x % (ms.length : Int)) = true := by
  have h0 := Int.emod_nonneg x (show (ms.length : Int) ≠ 0 by omega)
  have h1 := Int.emod_lt_of_pos x (show (0 : Int) < ms.length by omega)
  simp [hasB, h0, h1]
theorem beforeF_ok {ms : List (Int × Int)} {a b : Int} (hv : vhB ms = true) (ha : hasB ms a = true) (hb : hasB ms b = true) : beforeF ms a b = befI ms a b ∧ beforeE ms a b = 0 := by simp [beforeF, beforeE, hv, ha, hb]
theorem coneBefore_ok (ms : List (Int × Int)) (A : Option Addr) (c : Nat) (a b : Int) (x : Bool) (w : World) (h : Clk w A c ms) (hv : vhB ms = true) (ha : hasB ms a = true) (hb : hasB ms b = true) (hx : befI ms a b = x) :
    Calls Try.prog 17 #[.slice A ms.length c, .int .i64 a, .int .i64 b] w fun e w' => e = .returned (.tuple #[.bool x, .int .i64 0]) ∧ Below w.heap.size w w' :=
  (coneBefore_any ms A c a b w h).mono fun e w' ⟨y, E, he, hB, hF⟩ => by
    have := beforeF_ok hv ha hb
    refine ⟨?_, hB⟩
    rw [he, hF.out.1, hF.out.2, this.1, this.2, hx]

theorem conePast_ok (ms : List (Int × Int)) (A : Option Addr) (c : Nat) (a : Int) (w : World) (h : Clk w A c ms) (hv : vhB ms = true) (ha : hasB ms a = true) :
    Calls Try.prog 19 #[.slice A ms.length c, .int .i64 a] w fun e w' => ∃ (A' : Option Addr) (c' : Nat) (ys : List Int), e = .returned (.tuple #[.slice A' ys.length c', .int .i64 0]) ∧ Out w' A' c' ys ∧ Below w.heap.size w w' ∧ Hid (ys = pastL ms a) :=
  (conePast_any ms A c a w h).mono fun e w' ⟨A', c', ys, E, he, hO, hB, hF⟩ => by
    refine ⟨A', c', ys, ?_, hO, hB, ?_⟩
    · rw [he, hF.out.2]; simp [pastE, hv, ha]
    · show _ = _; rw [hF.out.1]; simp [pastF, hv, ha]
theorem coneFirst_ok (ms : List (Int × Int)) (A : Option Addr) (c : Nat) (w : World) (h : Clk w A c ms) (hv : vhB ms = true) :
    Calls Try.prog 24 #[.slice A ms.length c] w fun e w' => ∃ (A' : Option Addr) (c' : Nat) (ys : List Int), e = .returned (.tuple #[.slice A' ys.length c', .int .i64 0]) ∧ Out w' A' c' ys ∧ Below w.heap.size w w' ∧ Hid (ys = firstL ms) :=
  (coneFirst_any ms A c w h).mono fun e w' ⟨A', c', ys, E, he, hO, hB, hF⟩ => by
    refine ⟨A', c', ys, ?_, hO, hB, ?_⟩
    · rw [he, hF.out.2, hitsE_yes hv]
    · show _ = _; rw [hF.out.1]; simp [firstF, hv]
theorem has_past {ms : List (Int × Int)} {a d : Int} {r : Bool} (ha : hasB ms a = true) (h : befI ms a d = r) : decide (a ∈ pastL ms d) = r := by
  rw [← h, Bool.eq_iff_iff]; simp [mem_past ha]
theorem has_first {ms : List (Int × Int)} {b : Int} (hb : hasB ms b = true) : decide (b ∈ firstL ms) = decide ((pastL ms b).length = 0) := by
  rw [Bool.eq_iff_iff]; simp [mem_first hb]
theorem len_zero (zs : List Int) : ((zs.length : Int) == 0) = decide (zs.length = 0) := by
  rw [Bool.eq_iff_iff]; simp
theorem len_zero' {α : Type} (zs : List α) : ((zs.length : Int) == 0) = decide (zs.length = 0) := by
  rw [Bool.eq_iff_iff]; simp
theorem past_mem {ms : List (Int × Int)} {z b : Int} (h : z ∈ pastL ms b) : hasB ms z = true ∧ befI ms z b = true := by
  rw [pastL, List.mem_filter] at h
  exact ⟨allL_has h.1, h.2⟩

set_option maxRecDepth 100000 in
set_option maxHeartbeats 4000000 in
theorem coneOrders_walk (ms : List (Int × Int)) (A : Option Addr) (c : Nat) (x0 x1 x2 : Int) (w : World) (hA : Marks w A ms) (hc : ms.length ≤ c) (hc0 : c ≤ maxLen) (hx0 : (Lit.int .u8 x0).wf = true) (hx1 : (Lit.int .u8 x1).wf = true) (hx2 : (Lit.int .u8 x2).wf = true) :
    Calls Try.prog 11 #[.slice A ms.length c, .agg #[.int .u8 x0, .int .u8 x1, .int .u8 x2]] w fun e w' => e = .returned (.bool true) ∧ Below w.heap.size w w' := by
  have H : Hid (Clk w A c ms) := ⟨hA, hc, hc0⟩
  obtain ⟨b0, b1⟩ := u8_bd hx0
  obtain ⟨b2, b3⟩ := u8_bd hx1
  obtain ⟨b4, b5⟩ := u8_bd hx2
  clear hA hc hc0 hx0 hx1 hx2
  by_cases hm : 40 < ms.length
  · have hm1 : decide (40 < ms.length) = true := decide_eq_true hm
    go_enter Try.func11, Try.ntmps11
    go_wp2_with (first
      | (go_at_call 15; refine (lawLong_any _ _ _ _).mono ?_; rintro e w' ⟨rfl, rfl⟩)
      | (go_at_call 16; refine (sane_any _).mono ?_; rintro e w' ⟨rfl, hW⟩))
    go_ret
    exact ⟨rfl, Below.trans (by repeat (first | with_reducible exact Below.refl _ _ | with_reducible assumption | refine below_drewN ?_ _ | with_reducible refine Below.drew ?_ | (refine Below.setCell ?_ (by first | (simp; done) | (simp; omega) | omega) _) | (refine Below.alloc ?_ (by first | (simp; done) | (simp; omega) | omega) _))) (hW.mono (by first | (simp; done) | (simp; omega) | omega))⟩
  have hm1 : decide (40 < ms.length) = false := decide_eq_false hm
  by_cases hv : vhB ms = true
  · obtain ⟨hn1, hn2⟩ := vh_parts hv
    have HV := Lib.hid hv
    clear hv
    obtain ⟨a, ea⟩ : ∃ a, x0 % (ms.length : Int) = a := ⟨_, rfl⟩
    obtain ⟨b, eb⟩ : ∃ b, x1 % (ms.length : Int) = b := ⟨_, rfl⟩
    obtain ⟨d, ed⟩ : ∃ d, x2 % (ms.length : Int) = d := ⟨_, rfl⟩
    have HA : Hid (hasB ms a = true) := by rw [← ea]; exact mod_has hn1
    have HB : Hid (hasB ms b = true) := by rw [← eb]; exact mod_has hn1
    have HD : Hid (hasB ms d = true) := by rw [← ed]; exact mod_has hn1
    obtain ⟨p, ep⟩ : ∃ p, befI ms a b = p := ⟨_, rfl⟩
    obtain ⟨q, eq⟩ : ∃ q, befI ms b a = q := ⟨_, rfl⟩
    obtain ⟨r, er⟩ : ∃ r, befI ms b d = r := ⟨_, rfl⟩
    obtain ⟨s, es⟩ : ∃ s, befI ms a d = s := ⟨_, rfl⟩
    have hpq : p = true → q = false := fun h => by rw [← eq]; exact befI_asym (ep.trans h)
    have hprs : p = true → r = true → s = true := fun h k => by rw [← es]; exact befI_trans (ep.trans h) (er.trans k)
    have EP := Lib.hid ep
    have EQ := Lib.hid eq
    have ER := Lib.hid er
    have ES := Lib.hid es
    have hna : 0 ≤ a ∧ a < ms.length := by have := HA.out; simpa [hasB] using this
    have hnb : 0 ≤ b ∧ b < ms.length := by have := HB.out; simpa [hasB] using this
    have hnd : 0 ≤ d ∧ d < ms.length := by have := HD.out; simpa [hasB] using this
    clear ep eq er es
    have T1 : Hid True := Lib.hid trivial
    have ea' : x0.tmod (ms.length : Int) = a := by rw [Int.tmod_eq_emod_of_nonneg b0]; exact ea
    have eb' : x1.tmod (ms.length : Int) = b := by rw [Int.tmod_eq_emod_of_nonneg b2]; exact eb
    have ed' : x2.tmod (ms.length : Int) = d := by rw [Int.tmod_eq_emod_of_nonneg b4]; exact ed
    have w0 : IntKind.i64.wrap x0 = x0 := IntWalk.i64_in _ (by omega)
    have w1 : IntKind.i64.wrap x1 = x1 := IntWalk.i64_in _ (by omega)
    have w2 : IntKind.i64.wrap x2 = x2 := IntWalk.i64_in _ (by omega)
    have v0 : IntKind.i64.wrap a = a := IntWalk.i64_in _ (by omega)
    have v1 : IntKind.i64.wrap b = b := IntWalk.i64_in _ (by omega)
    have v2 : IntKind.i64.wrap d = d := IntWalk.i64_in _ (by omega)
    have z0 : ((ms.length : Int) == 0) = false := (len_zero' ms).trans (decide_eq_false (by omega))
    clear ea eb ed
    go_enter Try.func11, Try.ntmps11
    go_wp2_with (first
      | (go_at_call 15; refine (lawLong_any _ _ _ _).mono ?_; rintro e w' ⟨rfl, rfl⟩)
      | (go_at_call 22; refine (refValid_any ms A c _ (H.out.below (by repeat (first | with_reducible exact Below.refl _ _ | with_reducible assumption | refine below_drewN ?_ _ | with_reducible refine Below.drew ?_ | (refine Below.setCell ?_ (by first | (simp; done) | (simp; omega) | omega) _) | (refine Below.alloc ?_ (by first | (simp; done) | (simp; omega) | omega) _)))).marks H.out.len).mono ?_; rintro e w6 ⟨he, n6, rfl⟩; rw [HV.out] at he; subst he))
    go_quiet (fail)
    have hB0 : Below w.heap.size w (((w.alloc (.cells #[.int .u8 x0, .int .u8 x1, .int .u8 x2] 53)).drewN n6).drewN nq) := (by repeat (first | with_reducible exact Below.refl _ _ | with_reducible assumption | refine below_drewN ?_ _ | with_reducible refine Below.drew ?_ | (refine Below.setCell ?_ (by first | (simp; done) | (simp; omega) | omega) _) | (refine Below.alloc ?_ (by first | (simp; done) | (simp; omega) | omega) _)))
    generalize ((w.alloc (.cells #[.int .u8 x0, .int .u8 x1, .int .u8 x2] 53)).drewN n6).drewN nq = W0 at hB0 ⊢
    clear ea' eb' ed' w0 w1 w2 v0 v1 v2 z0 hna hnb hnd b0 b1 b2 b3 b4 b5
    have T2 : Hid True := Lib.hid trivial
    have T3 : Hid True := Lib.hid trivial
    have T4 : Hid True := Lib.hid trivial
    have T6 : Hid True := Lib.hid trivial
    have T7 : Hid True := Lib.hid trivial
    have T8 : Hid True := Lib.hid trivial
    have HR : Hid (∀ l, l = pastL ms d → decide (b ∈ l) = r) := fun l hl => by rw [hl]; exact has_past HB.out ER.out
    have HS : Hid (∀ l, l = pastL ms d → decide (a ∈ l) = s) := fun l hl => by rw [hl]; exact has_past HA.out ES.out
    have HF : Hid (∀ l us, l = pastL ms b → us = firstL ms → ∀ u, decide (l.length = 0) = u → decide (b ∈ us) = u) := fun l us hl hus u hu => by rw [← hu, hl, hus]; exact has_first HB.out
    have HT : Hid (r = true → ∀ l o, l = pastL ms d → o = pastL ms b → ∀ z ∈ o, decide (z ∈ l) = true) := fun hr l o hl ho z hz => by
      rw [ho] at hz
      obtain ⟨h1, h2⟩ := past_mem hz
      rw [hl]
      exact decide_eq_true ((mem_past h1).2 (befI_trans h2 (ER.out.trans hr)))
    have HPQ := Lib.hid hpq
    clear hpq
    have HPR := Lib.hid hprs
    clear hprs
    cases r
    case false =>
      cases p <;> cases s
      all_goals
        have hq := HPQ.out
        try obtain rfl : q = false := hq rfl
        clear hq
        go_wp2_with (first
          | (go_at_call 17; clear T1; refine (coneBefore_ok ms A c a a false _ (H.out.below hB0) HV.out HA.out HA.out (befI_irr ms a)).mono ?_; rintro e w1 ⟨rfl, hB⟩; have hB1 := below_step hB0 hB; clear hB)
          | (go_at_call 17; clear T2; refine (coneBefore_ok ms A c a b _ _ (H.out.below hB1) HV.out HA.out HB.out EP.out).mono ?_; rintro e w2 ⟨rfl, hB⟩; have hB2 := below_step hB1 hB; clear hB)
          | (go_at_call 17; clear T3; refine (coneBefore_ok ms A c b a _ _ (H.out.below hB2) HV.out HB.out HA.out EQ.out).mono ?_; rintro e w3 ⟨rfl, hB⟩; have hB3 := below_step hB2 hB; clear hB)
          | (go_at_call 17; clear T4; refine (coneBefore_ok ms A c b d _ _ (H.out.below hB3) HV.out HB.out HD.out ER.out).mono ?_; rintro e w4 ⟨rfl, hB⟩; have hB4 := below_step hB3 hB; clear hB)
          | (go_at_call 17; refine (coneBefore_ok ms A c a d _ _ (H.out.below hB4) HV.out HA.out HD.out ES.out).mono ?_; rintro e w5 ⟨rfl, hB⟩; have hB5 := below_step hB4 hB; clear hB)
          | (go_at_call 19; clear T6; refine (conePast_ok ms A c d _ (H.out.below hB5) HV.out HD.out).mono ?_; rintro e w6 ⟨A6, c6, ys, rfl, hO6, hB, hF6⟩; have hB6 := below_step hB5 hB; clear hB)
          | (go_at_call 19; refine (conePast_ok ms A c b _ (H.out.below hB6) HV.out HB.out).mono ?_; rintro e w7 ⟨A7, c7, zs, rfl, hO7, hB, hF7⟩; have hB7 := below_step hB6 hB; have hO6 := hO6.below hB; clear hB; obtain ⟨u, hu⟩ : ∃ u, decide (zs.length = 0) = u := ⟨_, rfl⟩; have HU := Lib.hid hu; have hu' : ((zs.length : Int) == 0) = u := (by rw [← hu]; exact len_zero zs); clear hu)
          | (go_at_call 24; refine (coneFirst_ok ms A c _ (H.out.below hB7) HV.out).mono ?_; rintro e w8 ⟨A8, c8, us, rfl, hO8, hB, hF8⟩; have hB8 := below_step hB7 hB; have hO6 := hO6.below hB; have hO7 := hO7.below hB; clear hB)
          | (go_at_call 54; clear T7; refine (lawHas_is ys A6 c6 b _ _ hO6.ints (Nat.le_trans hO6.le hO6.cap) (HR.out ys hF6.out)).mono ?_; rintro e w' ⟨rfl, rfl⟩)
          | (go_at_call 54; clear T8; refine (lawHas_is ys A6 c6 a _ _ hO6.ints (Nat.le_trans hO6.le hO6.cap) (HS.out ys hF6.out)).mono ?_; rintro e w' ⟨rfl, rfl⟩)
          | (go_at_call 54; refine (lawHas_is us A8 c8 b u _ hO8.ints (Nat.le_trans hO8.le hO8.cap) (HF.out zs us hF7.out hF8.out u HU.out)).mono ?_; rintro e w' ⟨rfl, rfl⟩))
        have hzl : zs.length ≤ 14 := by rw [hF7.out]; exact Nat.le_trans (pastL_len ms b) hn2
        go_loop [21] (fun i => ∃ k : Nat, k ≤ zs.length ∧ i = .int .i64 k) (fun i => zs.length - (intOf i).toNat)
        case atStart => exact ⟨0, Nat.zero_le _, rfl⟩
        case round =>
          obtain ⟨k, hk, rfl⟩ := hrel
          by_cases hlt : k < zs.length
          · go_wp2_with (go_at_call 16; refine (sane_any _).mono ?_; rintro e w9 ⟨rfl, hB9⟩)
            go_ret
            exact ⟨rfl, below_step hB8 hB9⟩
          · go_wp2_with (go_at_call 16; refine (sane_any _).mono ?_; rintro e w9 ⟨rfl, hB9⟩)
            go_ret
            exact ⟨rfl, below_step hB8 hB9⟩
    case true =>
      have hprs := HPR.out
      cases p <;> cases s <;> try (exfalso; simp at hprs; done)
      all_goals
        clear hprs
        have hq := HPQ.out
        try obtain rfl : q = false := hq rfl
        clear hq
        go_wp2_with (first
          | (go_at_call 17; clear T1; refine (coneBefore_ok ms A c a a false _ (H.out.below hB0) HV.out HA.out HA.out (befI_irr ms a)).mono ?_; rintro e w1 ⟨rfl, hB⟩; have hB1 := below_step hB0 hB; clear hB)
          | (go_at_call 17; clear T2; refine (coneBefore_ok ms A c a b _ _ (H.out.below hB1) HV.out HA.out HB.out EP.out).mono ?_; rintro e w2 ⟨rfl, hB⟩; have hB2 := below_step hB1 hB; clear hB)
          | (go_at_call 17; clear T3; refine (coneBefore_ok ms A c b a _ _ (H.out.below hB2) HV.out HB.out HA.out EQ.out).mono ?_; rintro e w3 ⟨rfl, hB⟩; have hB3 := below_step hB2 hB; clear hB)
          | (go_at_call 17; clear T4; refine (coneBefore_ok ms A c b d _ _ (H.out.below hB3) HV.out HB.out HD.out ER.out).mono ?_; rintro e w4 ⟨rfl, hB⟩; have hB4 := below_step hB3 hB; clear hB)
          | (go_at_call 17; refine (coneBefore_ok ms A c a d _ _ (H.out.below hB4) HV.out HA.out HD.out ES.out).mono ?_; rintro e w5 ⟨rfl, hB⟩; have hB5 := below_step hB4 hB; clear hB)
          | (go_at_call 19; clear T6; refine (conePast_ok ms A c d _ (H.out.below hB5) HV.out HD.out).mono ?_; rintro e w6 ⟨A6, c6, ys, rfl, hO6, hB, hF6⟩; have hB6 := below_step hB5 hB; clear hB)
          | (go_at_call 19; refine (conePast_ok ms A c b _ (H.out.below hB6) HV.out HB.out).mono ?_; rintro e w7 ⟨A7, c7, zs, rfl, hO7, hB, hF7⟩; have hB7 := below_step hB6 hB; have hO6 := hO6.below hB; clear hB; obtain ⟨u, hu⟩ : ∃ u, decide (zs.length = 0) = u := ⟨_, rfl⟩; have HU := Lib.hid hu; have hu' : ((zs.length : Int) == 0) = u := (by rw [← hu]; exact len_zero zs); clear hu)
          | (go_at_call 24; refine (coneFirst_ok ms A c _ (H.out.below hB7) HV.out).mono ?_; rintro e w8 ⟨A8, c8, us, rfl, hO8, hB, hF8⟩; have hB8 := below_step hB7 hB; have hO6 := hO6.below hB; have hO7 := hO7.below hB; clear hB)
          | (go_at_call 54; clear T7; refine (lawHas_is ys A6 c6 b _ _ hO6.ints (Nat.le_trans hO6.le hO6.cap) (HR.out ys hF6.out)).mono ?_; rintro e w' ⟨rfl, rfl⟩)
          | (go_at_call 54; clear T8; refine (lawHas_is ys A6 c6 a _ _ hO6.ints (Nat.le_trans hO6.le hO6.cap) (HS.out ys hF6.out)).mono ?_; rintro e w' ⟨rfl, rfl⟩)
          | (go_at_call 54; refine (lawHas_is us A8 c8 b u _ hO8.ints (Nat.le_trans hO8.le hO8.cap) (HF.out zs us hF7.out hF8.out u HU.out)).mono ?_; rintro e w' ⟨rfl, rfl⟩))
        have hzl : zs.length ≤ 14 := by rw [hF7.out]; exact Nat.le_trans (pastL_len ms b) hn2
        go_loop [21] (fun i => ∃ k : Nat, k ≤ zs.length ∧ i = .int .i64 k) (fun i => zs.length - (intOf i).toNat)
        case atStart => exact ⟨0, Nat.zero_le _, rfl⟩
        case round =>
          obtain ⟨k, hk, rfl⟩ := hrel
          by_cases hlt : k < zs.length
          · obtain ⟨ad, z, rfl, hbk, hz, hc⟩ := hO7.ints.get hlt
            have HZ := Lib.hid (HT.out (by first | trivial | rfl) ys zs hF6.out hF7.out z (List.mem_of_getElem? hz.out))
            go_wp2_with (go_at_call 54; refine (lawHas_is ys A6 c6 z true _ hO6.ints (Nat.le_trans hO6.le hO6.cap) HZ.out).mono ?_; rintro e w' ⟨rfl, rfl⟩)
            go_round
            case rel => exact ⟨k + 1, by omega, by go_num⟩
            case measure => simp [intOf]; omega
          · go_wp2_with (go_at_call 16; refine (sane_any _).mono ?_; rintro e w9 ⟨rfl, hB9⟩)
            go_ret
            exact ⟨rfl, below_step hB8 hB9⟩
  · have hv2 : vhB ms = false := by simpa using hv
    go_enter Try.func11, Try.ntmps11
    go_wp2_with (first
      | (go_at_call 15; refine (lawLong_any _ _ _ _).mono ?_; rintro e w' ⟨rfl, rfl⟩)
      | (go_at_call 22; refine (refValid_any ms A c _ (H.out.below (by repeat (first | with_reducible exact Below.refl _ _ | with_reducible assumption | refine below_drewN ?_ _ | with_reducible refine Below.drew ?_ | (refine Below.setCell ?_ (by first | (simp; done) | (simp; omega) | omega) _) | (refine Below.alloc ?_ (by first | (simp; done) | (simp; omega) | omega) _)))).marks H.out.len).mono ?_; rintro e w6 ⟨he, n6, rfl⟩; rw [hv2] at he; subst he)
      | (go_at_call 16; refine (sane_any _).mono ?_; rintro e w9 ⟨rfl, hB9⟩))
    go_ret
    exact ⟨rfl, Below.trans (by repeat (first | with_reducible exact Below.refl _ _ | with_reducible assumption | refine below_drewN ?_ _ | with_reducible refine Below.drew ?_ | (refine Below.setCell ?_ (by first | (simp; done) | (simp; omega) | omega) _) | (refine Below.alloc ?_ (by first | (simp; done) | (simp; omega) | omega) _))) (hB9.mono (by first | (simp; done) | (simp; omega) | omega))⟩
end Go.Proofs.Yticokhiehejljaa
