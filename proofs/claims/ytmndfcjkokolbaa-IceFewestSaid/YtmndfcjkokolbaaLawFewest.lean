/-
  The walk of IceFewest: it returns true, whatever it is given.
-/
import Derived.Test.YtmndfcjkokolbaaLeast
namespace Go.Proofs.Ytmndfcjkokolbaa
open Go.RowKit Go.Shelf

theorem okS_lamps {ms : List (Int × Int)} {n s : Int} (hv : viB ms = true) (hs : 0 ≤ s ∧ s ≤ 100000) (h : okS (mtL ms) n s = true) : lampsE ms s = 0 ∧ ((lampsL ms s).length : Int) ≤ n := by
  have h0 := askedE_ok (ms := ms) hv hs
  cases hp : lampO (mtL ms) s with
  | none => rw [okS_none hp] at h; cases h
  | some ps =>
    have e := lampsE_ok h0 hp
    rw [okS_some hp] at h
    exact ⟨e.1, by rw [e.2.1, List.length_map]; simpa using h⟩
theorem okS_no {ms : List (Int × Int)} {n s : Int} (hv : viB ms = true) (hs : 0 ≤ s ∧ s ≤ 100000) (h : okS (mtL ms) n s = false) : lampsE ms s = 5 ∨ (lampsE ms s = 0 ∧ n < ((lampsL ms s).length : Int)) := by
  have h0 := askedE_ok (ms := ms) hv hs
  cases hp : lampO (mtL ms) s with
  | none => exact .inl (lampsE_none h0 hp)
  | some ps =>
    have e := lampsE_ok h0 hp
    rw [okS_some hp] at h
    exact .inr ⟨e.1, by rw [e.2.1, List.length_map]; simp at h; omega⟩
theorem okS_wide {l : List Int} {n n' s : Int} (hn : n ≤ n') (h : okS l n s = true) : okS l n' s = true := by
  cases hp : lampO l s with
  | none => rw [okS_none hp] at h; cases h
  | some ps => rw [okS_some hp] at h ⊢; simp at h ⊢; omega
theorem least_facts {ms : List (Int × Int)} {n r E : Int} (hv : viB ms = true) (hn : 1 ≤ n ∧ n ≤ 600) (h : LeastRes ms n r E) :
    E = 0 ∧ 0 ≤ r ∧ r ≤ 60000 ∧ lampsE ms r = 0 ∧ ((lampsL ms r).length : Int) ≤ n ∧ (0 < r → lampsE ms (r - 1) = 5 ∨ (lampsE ms (r - 1) = 0 ∧ n < ((lampsL ms (r - 1)).length : Int))) ∧ okS (mtL ms) n r = true := by
  have e0 := leastE_ok (n := n) hv hn
  obtain ⟨rfl, h⟩ := h
  rcases h with ⟨_, h⟩ | ⟨h, _⟩
  · have hw := dims_bd (mt_ok hv) (mtL ms).length
    rw [sumN_all] at hw
    have h1 := least_le h hw.1 (okS_whole (mt_ok hv) hn.1)
    have h2 := okS_lamps hv (s := r) ⟨h.1, by omega⟩ h.2.1
    exact ⟨e0, h.1, by omega, h2.1, h2.2, fun hr => okS_no hv ⟨by omega, by omega⟩ (h.2.2 (r - 1) (by omega) (by omega)), h.2.1⟩
  · exact absurd e0 h
theorem least_next {ms : List (Int × Int)} {n r r2 E2 : Int} (hv : viB ms = true) (hn : 1 ≤ n ∧ n + 1 ≤ 600) (hr : 0 ≤ r) (hk : okS (mtL ms) n r = true) (h : LeastRes ms (n + 1) r2 E2) : E2 = 0 ∧ r2 ≤ r := by
  have e0 := leastE_ok (n := n + 1) hv ⟨by omega, hn.2⟩
  obtain ⟨rfl, h⟩ := h
  rcases h with ⟨_, h⟩ | ⟨h, _⟩
  · exact ⟨e0, least_le h hr (okS_wide (by omega) hk)⟩
  · exact absurd e0 h

set_option maxRecDepth 100000 in
set_option maxHeartbeats 4000000 in
theorem iceFewest_walk (ms : List (Int × Int)) (A : Option Addr) (c : Nat) (a : Int) (w : World) (hA : Marks w A ms) (hc : ms.length ≤ c) (hc0 : c ≤ maxLen) (ha : (Lit.int .u16 a).wf = true) :
    Calls Try.prog 13 #[.slice A ms.length c, .int .u16 a] w fun e w' => e = .returned (.bool true) ∧ Below w.heap.size w w' := by
  have H : Hid (Clk w A c ms) := ⟨hA, hc, hc0⟩
  have hab := bounds_u16 ha
  clear hA hc hc0 ha
  by_cases hm : 60 < ms.length
  · have hm1 : decide (60 < ms.length) = true := decide_eq_true hm
    go_enter Try.func13, Try.ntmps13
    go_wp2_with (first
      | (go_at_call 17; refine (lawLong_any _ _ _ _).mono ?_; rintro e w' ⟨rfl, rfl⟩)
      | (go_at_call 18; refine (sane_any _).mono ?_; rintro e w' ⟨rfl, hW⟩))
    go_ret
    exact ⟨rfl, hW⟩
  have hm1 : decide (60 < ms.length) = false := decide_eq_false hm
  clear hm
  cases hv : viB ms with
  | false =>
    go_enter Try.func13, Try.ntmps13
    go_wp2_with (first
      | (go_at_call 17; refine (lawLong_any _ _ _ _).mono ?_; rintro e w' ⟨rfl, rfl⟩)
      | (go_at_call 22; refine (refValid_any ms _ _ _ H.out.marks H.out.len).mono ?_; rintro e w1 ⟨rfl, n, rfl⟩)
      | (go_at_call 18; refine (sane_any _).mono ?_; rintro e w' ⟨rfl, hW⟩))
    go_ret
    exact ⟨rfl, below_step (below_drewN (Below.refl _ _) n) hW⟩
  | true =>
  have HV := Lib.hid hv
  have s0 : IntKind.i64.wrap a = a := IntWalk.i64_in _ (by omega)
  obtain ⟨q, hq, hq0, hq1⟩ : ∃ q : Int, a % 600 = q ∧ 0 ≤ q ∧ q < 600 := ⟨_, rfl, by omega, by omega⟩
  obtain ⟨n, hn, hnb⟩ : ∃ n : Int, IntKind.i64.wrap (1 + q) = n ∧ 1 ≤ n ∧ n ≤ 600 := ⟨_, rfl, by rw [IntWalk.i64_in _ (by omega)]; omega, by rw [IntWalk.i64_in _ (by omega)]; omega⟩
  have HNB := Lib.hid hnb
  have s1 : IntKind.i64.wrap (n + 1) = n + 1 := IntWalk.i64_in _ (by omega)
  go_enter Try.func13, Try.ntmps13
  go_wp2_with (first
    | (go_at_call 17; refine (lawLong_any _ _ _ _).mono ?_; rintro e w' ⟨rfl, rfl⟩)
    | (go_at_call 22; refine (refValid_any ms _ _ _ H.out.marks H.out.len).mono ?_; rintro e w1 ⟨rfl, m, rfl⟩))
  have hW1 := below_drewN (Below.refl w.heap.size w) m
  refine (iceLeast_any ms _ _ n _ (H.out.below hW1)).mono ?_
  rintro e w2 ⟨r, E, rfl, hB2, hF2⟩
  have hW2 := below_step hW1 hB2
  obtain ⟨rfl, hr0, hr1, hl0, hl1, hl2, hok⟩ := least_facts HV.out HNB.out hF2.out
  clear hF2
  have HOK := Lib.hid hok
  have HL := Lib.hid (And.intro hl0 hl1)
  have t0 : decide (r < 0) = false := decide_eq_false (by omega)
  have t1 : decide (60000 < r) = false := decide_eq_false (by omega)
  have s2 : IntKind.i64.wrap (r - 1) = r - 1 := IntWalk.i64_in _ (by omega)
  clear hok hl0 hl1
  have TA : Hid True := Lib.hid trivial
  by_cases hr : 0 < r
  · have t2 : decide (0 < r) = true := decide_eq_true hr
    rcases hl2 hr with hx | ⟨hx, hy⟩
    · have HX := Lib.hid hx
      clear hx hl2 hr
      by_cases h6 : n = 600
      · have t6 : (n == 600) = true := by simpa using h6
        clear h6
        go_wp2_with (first
          | (go_at_call 37; clear TA; refine (iceLamps_any ms _ _ r _ (H.out.below hW2)).mono ?_; rintro e w3 ⟨A3, c3, xs, E3, rfl, hO3, hB3, hF3⟩; obtain rfl : E3 = 0 := hF3.out.2.trans HL.out.1; have hW3 := below_step hW2 hB3; have u1 : decide (n < (xs.length : Int)) = false := decide_eq_false (by rw [hF3.out.1]; have := HL.out.2; omega); clear hO3 hF3)
          | (go_at_call 37; refine (iceLamps_any ms _ _ (r - 1) _ (H.out.below hW3)).mono ?_; rintro e w4 ⟨A4, c4, ys, E4, rfl, hO4, hB4, hF4⟩; obtain rfl : E4 = 5 := hF4.out.2.trans HX.out; have hW4 := below_step hW3 hB4; clear hO4 hF4)
          | (go_at_call 18; refine (sane_any _).mono ?_; rintro e w9 ⟨rfl, hB9⟩)
          | fail)
        go_ret
        exact ⟨rfl, below_step hW4 hB9⟩
      · have t6 : (n == 600) = false := by simpa using h6
        have H6 := Lib.hid h6
        clear h6
        go_wp2_with (first
          | (go_at_call 37; clear TA; refine (iceLamps_any ms _ _ r _ (H.out.below hW2)).mono ?_; rintro e w3 ⟨A3, c3, xs, E3, rfl, hO3, hB3, hF3⟩; obtain rfl : E3 = 0 := hF3.out.2.trans HL.out.1; have hW3 := below_step hW2 hB3; have u1 : decide (n < (xs.length : Int)) = false := decide_eq_false (by rw [hF3.out.1]; have := HL.out.2; omega); clear hO3 hF3)
          | (go_at_call 37; refine (iceLamps_any ms _ _ (r - 1) _ (H.out.below hW3)).mono ?_; rintro e w4 ⟨A4, c4, ys, E4, rfl, hO4, hB4, hF4⟩; obtain rfl : E4 = 5 := hF4.out.2.trans HX.out; have hW4 := below_step hW3 hB4; clear hO4 hF4)
          | (go_at_call 46; refine (iceLeast_any ms _ _ (n + 1) _ (H.out.below hW4)).mono ?_; rintro e w5 ⟨r5, E5, rfl, hB5, hF5⟩; obtain ⟨e5, h5⟩ := least_next HV.out (And.intro HNB.out.1 (by have := H6.out; have := HNB.out.2; omega)) hr0 HOK.out hF5.out; subst e5; have u5 : decide (r5 ≤ r) = true := decide_eq_true h5; have hW5 := below_step hW4 hB5; clear hF5)
          | (go_at_call 18; refine (sane_any _).mono ?_; rintro e w9 ⟨rfl, hB9⟩)
          | fail)
        go_ret
        exact ⟨rfl, below_step hW5 hB9⟩
    · have HX := Lib.hid (And.intro hx hy)
      clear hx hy hl2 hr
      by_cases h6 : n = 600
      · have t6 : (n == 600) = true := by simpa using h6
        clear h6
        go_wp2_with (first
          | (go_at_call 37; clear TA; refine (iceLamps_any ms _ _ r _ (H.out.below hW2)).mono ?_; rintro e w3 ⟨A3, c3, xs, E3, rfl, hO3, hB3, hF3⟩; obtain rfl : E3 = 0 := hF3.out.2.trans HL.out.1; have hW3 := below_step hW2 hB3; have u1 : decide (n < (xs.length : Int)) = false := decide_eq_false (by rw [hF3.out.1]; have := HL.out.2; omega); clear hO3 hF3)
          | (go_at_call 37; refine (iceLamps_any ms _ _ (r - 1) _ (H.out.below hW3)).mono ?_; rintro e w4 ⟨A4, c4, ys, E4, rfl, hO4, hB4, hF4⟩; obtain rfl : E4 = 0 := hF4.out.2.trans HX.out.1; have u4 : decide ((ys.length : Int) ≤ n) = false := decide_eq_false (by rw [hF4.out.1]; have := HX.out.2; omega); have hW4 := below_step hW3 hB4; clear hO4 hF4)
          | (go_at_call 18; refine (sane_any _).mono ?_; rintro e w9 ⟨rfl, hB9⟩)
          | fail)
        go_ret
        exact ⟨rfl, below_step hW4 hB9⟩
      · have t6 : (n == 600) = false := by simpa using h6
        have H6 := Lib.hid h6
        clear h6
        go_wp2_with (first
          | (go_at_call 37; clear TA; refine (iceLamps_any ms _ _ r _ (H.out.below hW2)).mono ?_; rintro e w3 ⟨A3, c3, xs, E3, rfl, hO3, hB3, hF3⟩; obtain rfl : E3 = 0 := hF3.out.2.trans HL.out.1; have hW3 := below_step hW2 hB3; have u1 : decide (n < (xs.length : Int)) = false := decide_eq_false (by rw [hF3.out.1]; have := HL.out.2; omega); clear hO3 hF3)
          | (go_at_call 37; refine (iceLamps_any ms _ _ (r - 1) _ (H.out.below hW3)).mono ?_; rintro e w4 ⟨A4, c4, ys, E4, rfl, hO4, hB4, hF4⟩; obtain rfl : E4 = 0 := hF4.out.2.trans HX.out.1; have u4 : decide ((ys.length : Int) ≤ n) = false := decide_eq_false (by rw [hF4.out.1]; have := HX.out.2; omega); have hW4 := below_step hW3 hB4; clear hO4 hF4)
          | (go_at_call 46; refine (iceLeast_any ms _ _ (n + 1) _ (H.out.below hW4)).mono ?_; rintro e w5 ⟨r5, E5, rfl, hB5, hF5⟩; obtain ⟨e5, h5⟩ := least_next HV.out (And.intro HNB.out.1 (by have := H6.out; have := HNB.out.2; omega)) hr0 HOK.out hF5.out; subst e5; have u5 : decide (r5 ≤ r) = true := decide_eq_true h5; have hW5 := below_step hW4 hB5; clear hF5)
          | (go_at_call 18; refine (sane_any _).mono ?_; rintro e w9 ⟨rfl, hB9⟩)
          | fail)
        go_ret
        exact ⟨rfl, below_step hW5 hB9⟩
  · have t2 : decide (0 < r) = false := decide_eq_false hr
    clear hl2 hr
    by_cases h6 : n = 600
    · have t6 : (n == 600) = true := by simpa using h6
      clear h6
      go_wp2_with (first
        | (go_at_call 37; clear TA; refine (iceLamps_any ms _ _ r _ (H.out.below hW2)).mono ?_; rintro e w3 ⟨A3, c3, xs, E3, rfl, hO3, hB3, hF3⟩; obtain rfl : E3 = 0 := hF3.out.2.trans HL.out.1; have hW3 := below_step hW2 hB3; have u1 : decide (n < (xs.length : Int)) = false := decide_eq_false (by rw [hF3.out.1]; have := HL.out.2; omega); clear hO3 hF3)
        | (go_at_call 18; refine (sane_any _).mono ?_; rintro e w9 ⟨rfl, hB9⟩)
        | fail)
      go_ret
      exact ⟨rfl, below_step hW3 hB9⟩
    · have t6 : (n == 600) = false := by simpa using h6
      have H6 := Lib.hid h6
      clear h6
      go_wp2_with (first
        | (go_at_call 37; clear TA; refine (iceLamps_any ms _ _ r _ (H.out.below hW2)).mono ?_; rintro e w3 ⟨A3, c3, xs, E3, rfl, hO3, hB3, hF3⟩; obtain rfl : E3 = 0 := hF3.out.2.trans HL.out.1; have hW3 := below_step hW2 hB3; have u1 : decide (n < (xs.length : Int)) = false := decide_eq_false (by rw [hF3.out.1]; have := HL.out.2; omega); clear hO3 hF3)
        | (go_at_call 46; refine (iceLeast_any ms _ _ (n + 1) _ (H.out.below hW3)).mono ?_; rintro e w5 ⟨r5, E5, rfl, hB5, hF5⟩; obtain ⟨e5, h5⟩ := least_next HV.out (And.intro HNB.out.1 (by have := H6.out; have := HNB.out.2; omega)) hr0 HOK.out hF5.out; subst e5; have u5 : decide (r5 ≤ r) = true := decide_eq_true h5; have hW5 := below_step hW3 hB5; clear hF5)
        | (go_at_call 18; refine (sane_any _).mono ?_; rintro e w9 ⟨rfl, hB9⟩)
        | fail)
      go_ret
      exact ⟨rfl, below_step hW5 hB9⟩
end Go.Proofs.Ytmndfcjkokolbaa
