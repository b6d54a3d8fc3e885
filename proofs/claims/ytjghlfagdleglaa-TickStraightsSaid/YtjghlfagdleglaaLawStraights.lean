/-
  The walk of TickStraights.
-/
import Derived.Test.YtjghlfagdleglaaStraightM2
import Derived.Test.YtjghlfagdleglaaLawFar
import Derived.Test.YtjghlfagdleglaaGrow
import Derived.Deep.CutRange
namespace Go.Proofs.Ytjghlfagdleglaa
open Go.RowKit

theorem clkE_of {ms : List (Int × Int)} (hv : vkB ms = true) : clkE ms = 0 := by rw [clkE, if_pos hv]

set_option maxRecDepth 100000 in
theorem sameLine_any (a b c d : Int × Int) (w : World) (ha : okM a = true) (hb : okM b = true) (hc : okM c = true) (hd : okM d = true) :
    Calls Try.prog 54 #[.agg #[.int .i64 a.1, .int .i64 a.2], .agg #[.int .i64 b.1, .int .i64 b.2], .agg #[.int .i64 c.1, .int .i64 c.2], .agg #[.int .i64 d.1, .int .i64 d.2]] w fun e w' => e = .returned (.bool (sameLB a b c d)) ∧ Below w.heap.size w w' := by
  obtain ⟨a1, a2⟩ := a
  obtain ⟨b1, b2⟩ := b
  obtain ⟨c1, c2⟩ := c
  obtain ⟨d1, d2⟩ := d
  simp only [okM, tickB, Bool.and_eq_true, decide_eq_true_eq] at ha hb hc hd
  obtain ⟨⟨x1, x2⟩, ⟨x3, x4⟩⟩ := ha
  obtain ⟨⟨x5, x6⟩, ⟨x7, x8⟩⟩ := hb
  obtain ⟨⟨y1, y2⟩, ⟨y3, y4⟩⟩ := hc
  obtain ⟨⟨y5, y6⟩, ⟨y7, y8⟩⟩ := hd
  have hbx : ∀ x y : Int, -100000 ≤ x → x ≤ 100000 → -100000 ≤ y → y ≤ 100000 → -10000000000 ≤ x * y ∧ x * y ≤ 10000000000 := by
    intro x y h1 h2 h3 h4
    rcases Int.le_total 0 y with h | h
    · have := mul_box (x := x) (y := y) (X := 100000) (Y := 100000) h1 h2 h h4; omega
    · have := mul_box (x := x) (y := -y) (X := 100000) (Y := 100000) h1 h2 (by omega) (by omega)
      rw [Int.mul_neg] at this; omega
  have m1 := hbx (c2 - a2) (b1 - a1) (by omega) (by omega) (by omega) (by omega)
  have m2 := hbx (c1 - a1) (b2 - a2) (by omega) (by omega) (by omega) (by omega)
  have m3 := hbx (d2 - a2) (b1 - a1) (by omega) (by omega) (by omega) (by omega)
  have m4 := hbx (d1 - a1) (b2 - a2) (by omega) (by omega) (by omega) (by omega)
  clear hbx
  go_enter Try.func54, Try.ntmps54
  go_wp2
  go_quiet (fail)
  go_wp2
  all_goals go_ret
  all_goals refine ⟨ret_bool ?_, (by repeat (first | with_reducible exact Below.refl _ _ | with_reducible assumption | refine below_drewN ?_ _ | with_reducible refine Below.drew ?_ | (refine Below.setCell ?_ (by first | (simp; done) | (simp; omega) | omega) _) | (refine Below.alloc ?_ (by first | (simp; done) | (simp; omega) | omega) _)))⟩
  all_goals (rw [sameLB]; simp_all)
  all_goals (try exact Bool.eq_iff_iff.2 (by simp))

theorem equal_in (xs ys : List (Int × Int)) (A B : Option Addr) (n m c d : Nat) (w : World) (hn : xs.length = n) (hm : ys.length = m) (hA : Marks w A xs) (hB : Marks w B ys) (hl : xs.length ≤ maxLen) :
    Calls Try.prog 42 #[.slice A n c, .slice B m d] w fun e w' => e = .returned (.bool (decide (xs = ys))) ∧ ∃ n, w' = w.drewN n := by
  subst hn hm
  exact equal_any xs ys A B c d w hA hB hl
theorem flat_drop1 (ms : List (Int × Int)) : (ms.drop 1).flatMap mk2 = (ms.flatMap mk2).drop 2 := by
  cases ms with
  | nil => rfl
  | cons a t => simp [mk2]
theorem flat_take (k : Nat) : ∀ (ms : List (Int × Int)), (ms.take k).flatMap mk2 = (ms.flatMap mk2).take (2 * k) := by
  induction k with
  | zero => intro ms; simp
  | succ k ih =>
    intro ms
    cases ms with
    | nil => simp
    | cons a t =>
      rw [List.take_succ_cons, List.flatMap_cons, List.flatMap_cons, ih t, show 2 * (k + 1) = 2 * k + 2 by omega]
      simp [mk2]
theorem inner_marks {w : World} {b o : Nat} {ms : List (Int × Int)} (h : Marks w (some ⟨b, o, none⟩) ms) (h2 : 2 ≤ ms.length) : Marks w (some ⟨b, o + 2, none⟩) (inner ms) := by
  refine ⟨flat_len _, fun _ => ⟨⟨b, o + 2, none⟩, rfl, ?_, ?_⟩⟩
  · obtain ⟨ad, e, hb, _⟩ := h.2 (by omega)
    cases e; exact hb
  · intro j u hj
    obtain ⟨ad, e, _, hall⟩ := h.2 (by omega)
    cases e
    rw [inner, flat_take, flat_drop1] at hj
    have hj2 : (ms.flatMap mk2)[j + 2]? = some u := by
      rcases Nat.lt_or_ge j (2 * (ms.length - 2)) with h3 | h3
      · rw [List.getElem?_take_of_lt h3, List.getElem?_drop] at hj
        rw [Nat.add_comm]; exact hj
      · rw [List.getElem?_eq_none (by rw [List.length_take]; omega)] at hj; cases hj
    have := hall _ _ hj2
    rw [add_mk] at this ⊢
    rw [show o + 2 + j = o + (j + 2) by omega]; exact this

set_option maxRecDepth 100000 in
set_option maxHeartbeats 3200000 in
theorem tickStraights_walk (ms : List (Int × Int)) (A : Option Addr) (c : Nat) (ns : List (Int × Int)) (B : Option Addr) (d : Nat) (w : World) (hA : Marks w A ms) (hle : ms.length ≤ c) (hcap : c ≤ maxLen) (hB : Marks w B ns) (hle' : ns.length ≤ d) (hcap' : d ≤ maxLen) :
    Calls Try.prog 12 #[.slice A ms.length c, .slice B ns.length d] w fun e w' => e = .returned (.bool true) ∧ Below w.heap.size w w' := by
  have HC : Hid (Clk w A c ms) := ⟨hA, hle, hcap⟩
  have HD : Hid (Clk w B d ns) := ⟨hB, hle', hcap'⟩
  clear hA hle hcap hB hle' hcap'
  by_cases hl : 100 < ms.length ∨ 100 < ns.length
  · by_cases hl0 : 100 < ms.length
    · have hl1 : decide (100 < ms.length) = true := decide_eq_true hl0
      go_enter Try.func12, Try.ntmps12
      go_wp2_with (first
        | (go_at_call 29; refine (long_any _ _ _ _).mono ?_; rintro e w' ⟨rfl, rfl⟩)
        | (go_at_call 15; refine (awake_any _).mono ?_; rintro e w1 ⟨rfl, hB1⟩))
      go_ret
      exact ⟨rfl, Below.trans (by repeat (first | with_reducible exact Below.refl _ _ | with_reducible assumption | refine below_drewN ?_ _ | with_reducible refine Below.drew ?_ | (refine Below.setCell ?_ (by first | (simp; done) | (simp; omega) | omega) _) | (refine Below.alloc ?_ (by first | (simp; done) | (simp; omega) | omega) _))) (hB1.mono (by first | (simp; done) | (simp; omega) | omega))⟩
    · have hl1 : decide (100 < ms.length) = false := decide_eq_false hl0
      have hl2 : decide (100 < ns.length) = true := decide_eq_true (by omega)
      go_enter Try.func12, Try.ntmps12
      go_wp2_with (first
        | (go_at_call 29; refine (long_any _ _ _ _).mono ?_; rintro e w' ⟨rfl, rfl⟩)
        | (go_at_call 15; refine (awake_any _).mono ?_; rintro e w1 ⟨rfl, hB1⟩))
      go_ret
      exact ⟨rfl, Below.trans (by repeat (first | with_reducible exact Below.refl _ _ | with_reducible assumption | refine below_drewN ?_ _ | with_reducible refine Below.drew ?_ | (refine Below.setCell ?_ (by first | (simp; done) | (simp; omega) | omega) _) | (refine Below.alloc ?_ (by first | (simp; done) | (simp; omega) | omega) _))) (hB1.mono (by first | (simp; done) | (simp; omega) | omega))⟩
  · have hl1 : decide (100 < ms.length) = false := decide_eq_false (by omega)
    have hl2 : decide (100 < ns.length) = false := decide_eq_false (by omega)
    clear hl
    by_cases hv : vkB ms = true
    · have HV := Lib.hid hv
      by_cases hv' : vkB ns = true
      · have HV' := Lib.hid hv'
        obtain ⟨hn2, hn30⟩ := vk_parts hv
        obtain ⟨hm2, hm30⟩ := vk_parts hv'
        have HEm := Lib.hid (clkE_of hv)
        have HEn := Lib.hid (clkE_of hv')
        have HEs := Lib.hid (clkE_of (straight_vk hv))
        have HTW := Lib.hid (straight_twice hv)
        have HSS := Lib.hid (straight_same hv)
        have HLA := Lib.hid (vk_parts (straight_vk hv))
        have HLB := Lib.hid (vk_parts (straight_vk hv'))
        have HT1 : Hid (twoE ms (straightF ms) = 0) := by show _ = _; rw [twoE, hv, straight_vk hv]; rfl
        have HT2 : Hid (twoE ms ns = 0) := by show _ = _; rw [twoE, hv, hv']; rfl
        have HLK := Lib.hid (same_straight hv hv')
        clear hv hv'
        go_enter Try.func12, Try.ntmps12
        have TA : Hid True := Lib.hid trivial
        have T3 := TA
        have T4 := TA
        have TS := TA
        go_upto_region 10 with (first
          | (go_at_call 29; refine (long_any _ _ _ _).mono ?_; rintro e w' ⟨rfl, rfl⟩)
          | (go_at_call 33; have hstop := hB1; refine (refValidClock_any ns _ _ _ (HD.out.below (by exact (by repeat (first | with_reducible exact Below.refl _ _ | with_reducible assumption | refine below_drewN ?_ _ | with_reducible refine Below.drew ?_ | (refine Below.setCell ?_ (by first | (simp; done) | (simp; omega) | omega) _) | (refine Below.alloc ?_ (by first | (simp; done) | (simp; omega) | omega) _))))).marks HD.out.len).mono ?_; rintro e w2 ⟨he, hB2⟩; rw [HV'.out] at he; subst he; have hW2 : Below w.heap.size w w2 := Below.trans (by exact (by repeat (first | with_reducible exact Below.refl _ _ | with_reducible assumption | refine below_drewN ?_ _ | with_reducible refine Below.drew ?_ | (refine Below.setCell ?_ (by first | (simp; done) | (simp; omega) | omega) _) | (refine Below.alloc ?_ (by first | (simp; done) | (simp; omega) | omega) _)))) (hB2.mono (by first | omega | (simp; omega))); have y2 := hW2.size)
          | (clear TA; go_at_call 33; refine (refValidClock_any ms _ _ _ (HC.out.below (by exact (by repeat (first | with_reducible exact Below.refl _ _ | with_reducible assumption | refine below_drewN ?_ _ | with_reducible refine Below.drew ?_ | (refine Below.setCell ?_ (by first | (simp; done) | (simp; omega) | omega) _) | (refine Below.alloc ?_ (by first | (simp; done) | (simp; omega) | omega) _))))).marks HC.out.len).mono ?_; rintro e w1 ⟨he, hB1⟩; rw [HV.out] at he; subst he; have hW1 : Below w.heap.size w w1 := Below.trans (by exact (by repeat (first | with_reducible exact Below.refl _ _ | with_reducible assumption | refine below_drewN ?_ _ | with_reducible refine Below.drew ?_ | (refine Below.setCell ?_ (by first | (simp; done) | (simp; omega) | omega) _) | (refine Below.alloc ?_ (by first | (simp; done) | (simp; omega) | omega) _)))) (hB1.mono (by first | omega | (simp; omega))); have y1 := hW1.size)
          | (go_at_call 40; have hstop := HS4; refine (straight_any ps _ _ _ (HS3.out.below hB4)).mono ?_; rintro e w5 ⟨A5, c5, zs, E, rfl, hC5, hB5, hF5⟩; obtain rfl : E = 0 := hF5.out.2.trans HEa.out; obtain rfl : ps = zs := (by rw [hF5.out.1, HAS.out]; exact HTW.out.symm); have HS5 := Lib.hid hC5; have HS4 := Lib.hid (HS4.out.below hB5); have HS3 := Lib.hid (HS3.out.below (hB4.trans (hB5.mono hB4.size))); clear hC5 hF5; have hW5 : Below w.heap.size w w5 := Below.trans (by exact (by repeat (first | with_reducible exact Below.refl _ _ | with_reducible assumption | refine below_drewN ?_ _ | with_reducible refine Below.drew ?_ | (refine Below.setCell ?_ (by first | (simp; done) | (simp; omega) | omega) _) | (refine Below.alloc ?_ (by first | (simp; done) | (simp; omega) | omega) _)))) (hB5.mono (by first | omega | (simp; omega))); have y5 := hW5.size)
          | (clear T4; go_at_call 40; have hstop := HS3; refine (straight_any ns _ _ _ (HD.out.below (by exact (by repeat (first | with_reducible exact Below.refl _ _ | with_reducible assumption | refine below_drewN ?_ _ | with_reducible refine Below.drew ?_ | (refine Below.setCell ?_ (by first | (simp; done) | (simp; omega) | omega) _) | (refine Below.alloc ?_ (by first | (simp; done) | (simp; omega) | omega) _)))))).mono ?_; rintro e w4 ⟨A4, c4, qs, E, rfl, hC4, hB4, hF4⟩; obtain rfl : E = 0 := hF4.out.2.trans HEn.out; have HBS := Lib.hid hF4.out.1; have HS4 := Lib.hid hC4; clear hC4 hF4; have hW4 : Below w.heap.size w w4 := Below.trans (by exact (by repeat (first | with_reducible exact Below.refl _ _ | with_reducible assumption | refine below_drewN ?_ _ | with_reducible refine Below.drew ?_ | (refine Below.setCell ?_ (by first | (simp; done) | (simp; omega) | omega) _) | (refine Below.alloc ?_ (by first | (simp; done) | (simp; omega) | omega) _)))) (hB4.mono (by first | omega | (simp; omega))); have y4 := hW4.size)
          | (clear T3; go_at_call 40; refine (straight_any ms _ _ _ (HC.out.below (by exact (by repeat (first | with_reducible exact Below.refl _ _ | with_reducible assumption | refine below_drewN ?_ _ | with_reducible refine Below.drew ?_ | (refine Below.setCell ?_ (by first | (simp; done) | (simp; omega) | omega) _) | (refine Below.alloc ?_ (by first | (simp; done) | (simp; omega) | omega) _)))))).mono ?_; rintro e w3 ⟨A3, c3, ps, E, rfl, hC3, hB3, hF3⟩; obtain rfl : E = 0 := hF3.out.2.trans HEm.out; have HAS := Lib.hid hF3.out.1; have HEa : Hid (clkE ps = 0) := (by show _ = _; rw [HAS.out]; exact HEs.out); have HS3 := Lib.hid hC3; clear hC3 hF3; have hW3 : Below w.heap.size w w3 := Below.trans (by exact (by repeat (first | with_reducible exact Below.refl _ _ | with_reducible assumption | refine below_drewN ?_ _ | with_reducible refine Below.drew ?_ | (refine Below.setCell ?_ (by first | (simp; done) | (simp; omega) | omega) _) | (refine Below.alloc ?_ (by first | (simp; done) | (simp; omega) | omega) _)))) (hB3.mono (by first | omega | (simp; omega))); have y3 := hW3.size)
          | (go_at_call 49; have hstop := hB6; refine (same_any ms ns _ _ _ _ _ (HC.out.below (by exact (by repeat (first | with_reducible exact Below.refl _ _ | with_reducible assumption | refine below_drewN ?_ _ | with_reducible refine Below.drew ?_ | (refine Below.setCell ?_ (by first | (simp; done) | (simp; omega) | omega) _) | (refine Below.alloc ?_ (by first | (simp; done) | (simp; omega) | omega) _))))) (HD.out.below (by exact (by repeat (first | with_reducible exact Below.refl _ _ | with_reducible assumption | refine below_drewN ?_ _ | with_reducible refine Below.drew ?_ | (refine Below.setCell ?_ (by first | (simp; done) | (simp; omega) | omega) _) | (refine Below.alloc ?_ (by first | (simp; done) | (simp; omega) | omega) _)))))).mono ?_; rintro e w7 ⟨he, hB7⟩; rw [HT2.out] at he; subst he; have HS5 := Lib.hid (HS5.out.below (hB6.trans (hB7.mono hB6.size))); have HS4 := Lib.hid (HS4.out.below (hB6.trans (hB7.mono hB6.size))); have HS3 := Lib.hid (HS3.out.below (hB6.trans (hB7.mono hB6.size))); have hW7 : Below w.heap.size w w7 := Below.trans (by exact (by repeat (first | with_reducible exact Below.refl _ _ | with_reducible assumption | refine below_drewN ?_ _ | with_reducible refine Below.drew ?_ | (refine Below.setCell ?_ (by first | (simp; done) | (simp; omega) | omega) _) | (refine Below.alloc ?_ (by first | (simp; done) | (simp; omega) | omega) _)))) (hB7.mono (by first | omega | (simp; omega))); have y7 := hW7.size)
          | (clear TS; go_at_call 49; refine (same_any ms ps _ _ _ _ _ (HC.out.below (by exact (by repeat (first | with_reducible exact Below.refl _ _ | with_reducible assumption | refine below_drewN ?_ _ | with_reducible refine Below.drew ?_ | (refine Below.setCell ?_ (by first | (simp; done) | (simp; omega) | omega) _) | (refine Below.alloc ?_ (by first | (simp; done) | (simp; omega) | omega) _))))) (HS3.out.below (by exact (by repeat (first | with_reducible exact Below.refl _ _ | with_reducible assumption | refine below_drewN ?_ _ | with_reducible refine Below.drew ?_ | (refine Below.setCell ?_ (by first | (simp; done) | (simp; omega) | omega) _) | (refine Below.alloc ?_ (by first | (simp; done) | (simp; omega) | omega) _)))))).mono ?_; rintro e w6 ⟨he, hB6⟩; rw [HAS.out, HSS.out, HT1.out] at he; subst he; obtain ⟨la1, la2⟩ : 2 ≤ ps.length ∧ ps.length ≤ 30 := (by rw [HAS.out]; exact HLA.out); obtain ⟨lb1, lb2⟩ : 2 ≤ qs.length ∧ qs.length ≤ 30 := (by rw [HBS.out]; exact HLB.out); have va : decide ((ps.length : Int) < 2) = false := decide_eq_false (by omega); have vb : decide ((qs.length : Int) < 2) = false := decide_eq_false (by omega); have hW6 : Below w.heap.size w w6 := Below.trans (by exact (by repeat (first | with_reducible exact Below.refl _ _ | with_reducible assumption | refine below_drewN ?_ _ | with_reducible refine Below.drew ?_ | (refine Below.setCell ?_ (by first | (simp; done) | (simp; omega) | omega) _) | (refine Below.alloc ?_ (by first | (simp; done) | (simp; omega) | omega) _)))) (hB6.mono (by first | omega | (simp; omega))); have y6 := hW6.size)
          | (go_at_call 42; refine (equal_any ps ps _ _ _ _ _ (HS5.out.below (by exact (by repeat (first | with_reducible exact Below.refl _ _ | with_reducible assumption | refine below_drewN ?_ _ | with_reducible refine Below.drew ?_ | (refine Below.setCell ?_ (by first | (simp; done) | (simp; omega) | omega) _) | (refine Below.alloc ?_ (by first | (simp; done) | (simp; omega) | omega) _))))).marks (HS3.out.below (by exact (by repeat (first | with_reducible exact Below.refl _ _ | with_reducible assumption | refine below_drewN ?_ _ | with_reducible refine Below.drew ?_ | (refine Below.setCell ?_ (by first | (simp; done) | (simp; omega) | omega) _) | (refine Below.alloc ?_ (by first | (simp; done) | (simp; omega) | omega) _))))).marks HS3.out.len).mono ?_; rintro e w' ⟨rfl, q, rfl⟩))
        have hWW : Below w.heap.size w (w7.drewN q) := below_drewN hW7 q
        have HP : Hid (Clk (w7.drewN q) A3 c3 ps) := HS3.out.below (below_drewN (Below.refl _ _) q)
        have HQ : Hid (Clk (w7.drewN q) A4 c4 qs) := HS4.out.below (below_drewN (Below.refl _ _) q)
        have HCW := Lib.hid (HC.out.below hWW)
        have HDW := Lib.hid (HD.out.below hWW)
        generalize w7.drewN q = W at *
        clear HS3 HS4 HS5 HEa hW7 hW6 hW5 hW4 hW3 hW2 hW1 hB7 hB6 hB5 hB4 hB3 hB2 hB1 HC HD
        have hyW := hWW.size
        obtain ⟨bc, oc, rfl, hbc, cc⟩ := HCW.out.marks.open_ (by omega)
        obtain ⟨bd, od, rfl, hbd, cd⟩ := HDW.out.marks.open_ (by omega)
        obtain ⟨a0, b0, hm0⟩ := getM_of_lt (show 0 < ms.length by omega)
        obtain ⟨a1, b1, hm1⟩ := getM_of_lt (show ms.length - 1 < ms.length by omega)
        obtain ⟨a2, b2, hn0⟩ := getM_of_lt (show 0 < ns.length by omega)
        obtain ⟨a3, b3, hn1⟩ := getM_of_lt (show ns.length - 1 < ns.length by omega)
        have f0 := (cc _ _ hm0).1
        have f1 := (cc _ _ hm0).2
        have f2 := (cc _ _ hm1).1
        have f3 := (cc _ _ hm1).2
        have g0 := (cd _ _ hn0).1
        have g1 := (cd _ _ hn0).2
        have g2 := (cd _ _ hn1).1
        have g3 := (cd _ _ hn1).2
        simp only [Nat.zero_mul, Nat.add_zero] at f0 f1 g0 g1
        have HM : Hid ((mA ms 0 = (a0, b0) ∧ mA ms (ms.length - 1) = (a1, b1)) ∧ (mA ns 0 = (a2, b2) ∧ mA ns (ns.length - 1) = (a3, b3))) := ⟨⟨mA_of hm0, mA_of hm1⟩, ⟨mA_of hn0, mA_of hn1⟩⟩
        have w1' : IntKind.i64.wrap ((ms.length : Int) - 1) = (ms.length : Int) - 1 := IntWalk.i64_in _ (by omega)
        have w2' : IntKind.i64.wrap ((ns.length : Int) - 1) = (ns.length : Int) - 1 := IntWalk.i64_in _ (by omega)
        have i1 : ((ms.length : Int) - 1).toNat = ms.length - 1 := by omega
        have i2 : ((ns.length : Int) - 1).toNat = ns.length - 1 := by omega
        have i3 : (0 : Int) ≤ (ms.length : Int) - 1 := by omega
        have i4 : (ms.length : Int) - 1 < (ms.length : Int) := by omega
        have i5 : (0 : Int) ≤ (ns.length : Int) - 1 := by omega
        have i6 : (ns.length : Int) - 1 < (ns.length : Int) := by omega
        have i7 : (0 : Int) < (ms.length : Int) := by omega
        have i8 : (0 : Int) < (ns.length : Int) := by omega
        have i9 : 0 < ms.length := by omega
        have i10 : 0 < ns.length := by omega
        clear hm0 hm1 hn0 hn1 cc cd
        have HS : Hid (sameV ms ns = sameV ms ns) := rfl
        go_cut [13, 137] from 56 to 137 (fun s v wx => s = .bool (sameV ms ns) ∧ v = .bool false ∧ ∃ m, wx = W.drewN m)
        case first =>
          cases hs : sameV ms ns
          · go_quiet (fail)
            go_wp2_with fail
            go_meet
            exact ⟨by rw [hs], rfl, _, rfl⟩
          · by_cases h0 : a0 = a2
            · by_cases h1 : b0 = b2
              · by_cases h2 : a1 = a3
                · by_cases h3 : b1 = b3
                  · subst h0 h1 h2 h3
                    have hse := same_ends HV.out HV'.out hs (HM.out.1.1.trans HM.out.2.1.symm) (HM.out.1.2.trans HM.out.2.2.symm)
                    rw [← HAS.out, ← HBS.out] at hse
                    have hpq := hse.1
                    have vlt : decide ((ns.length : Int) < (ps.length : Int)) = false := decide_eq_false (by omega)
                    have vlt2 : decide (ns.length < ps.length) = false := decide_eq_false (by omega)
                    have vlt3 : ¬ ns.length < ps.length := by omega
                    subst hpq
                    clear hse
                    go_quiet ((go_at_call 42; exact Calls.quiet_of (v := .bool true) ((equal_any ps ps _ _ _ _ _ (HP.out.below (below_drewN (Below.refl _ _) _)).marks (HQ.out.below (below_drewN (Below.refl _ _) _)).marks HP.out.len).mono fun e w' h => ⟨h.1.trans (by simp), h.2⟩)))
                    go_wp2_with fail
                    go_meet
                    exact ⟨by rw [hs], rfl, _, rfl⟩
                  · have t1 : (b1 == b3) = false := by simpa using h3
                    subst h0 h1 h2
                    clear h3
                    go_quiet (fail)
                    go_wp2_with fail
                    go_meet
                    exact ⟨by rw [hs], rfl, _, rfl⟩
                · have t1 : (a1 == a3) = false := by simpa using h2
                  subst h0 h1
                  clear h2
                  go_quiet (fail)
                  go_wp2_with fail
                  go_meet
                  exact ⟨by rw [hs], rfl, _, rfl⟩
              · have t1 : (b0 == b2) = false := by simpa using h1
                subst h0
                clear h1
                go_quiet (fail)
                go_wp2_with fail
                go_meet
                exact ⟨by rw [hs], rfl, _, rfl⟩
            · have t1 : (a0 == a2) = false := by simpa using h0
              clear h0
              go_quiet (fail)
              go_wp2_with fail
              go_meet
              exact ⟨by rw [hs], rfl, _, rfl⟩
        case rest =>
          obtain ⟨rfl, rfl, m, rfl⟩ := hcut
          clear f0 f1 f2 f3 g0 g1 g2 g3 HM
          go_upto_region 13 with fail
          obtain ⟨ba, oa, rfl, hba, kba⟩ := HP.out.marks.open_ (by omega)
          obtain ⟨x0, x1, ex0⟩ := getM_of_lt (show 0 < ps.length by omega)
          obtain ⟨x2, x3, ex1⟩ := getM_of_lt (show 1 < ps.length by omega)
          obtain ⟨x4, x5, ex2⟩ := getM_of_lt (show ps.length - 2 < ps.length by omega)
          obtain ⟨x6, x7, ex3⟩ := getM_of_lt (show ps.length - 1 < ps.length by omega)
          have xc0 : (W.drewN m).cell? ⟨ba, oa, none⟩ = some (.int .i64 x0) := by simpa using (kba _ _ ex0).1
          have xc1 : (W.drewN m).cell? ⟨ba, oa + 1, none⟩ = some (.int .i64 x1) := by simpa using (kba _ _ ex0).2
          have xc2 : (W.drewN m).cell? ⟨ba, oa + 2, none⟩ = some (.int .i64 x2) := by simpa using (kba _ _ ex1).1
          have xc3 : (W.drewN m).cell? ⟨ba, oa + 3, none⟩ = some (.int .i64 x3) := by simpa using (kba _ _ ex1).2
          have xc4 : (W.drewN m).cell? ⟨ba, oa + (ps.length - 2) * 2, none⟩ = some (.int .i64 x4) := by exact (kba _ _ ex2).1
          have xc5 : (W.drewN m).cell? ⟨ba, oa + (ps.length - 2) * 2 + 1, none⟩ = some (.int .i64 x5) := by exact (kba _ _ ex2).2
          have xc6 : (W.drewN m).cell? ⟨ba, oa + (ps.length - 1) * 2, none⟩ = some (.int .i64 x6) := by exact (kba _ _ ex3).1
          have xc7 : (W.drewN m).cell? ⟨ba, oa + (ps.length - 1) * 2 + 1, none⟩ = some (.int .i64 x7) := by exact (kba _ _ ex3).2
          obtain ⟨bb, ob, rfl, hbb, kbb⟩ := HQ.out.marks.open_ (by omega)
          obtain ⟨y0, y1, ey0⟩ := getM_of_lt (show 0 < qs.length by omega)
          obtain ⟨y2, y3, ey1⟩ := getM_of_lt (show 1 < qs.length by omega)
          obtain ⟨y4, y5, ey2⟩ := getM_of_lt (show qs.length - 2 < qs.length by omega)
          obtain ⟨y6, y7, ey3⟩ := getM_of_lt (show qs.length - 1 < qs.length by omega)
          have yc0 : (W.drewN m).cell? ⟨bb, ob, none⟩ = some (.int .i64 y0) := by simpa using (kbb _ _ ey0).1
          have yc1 : (W.drewN m).cell? ⟨bb, ob + 1, none⟩ = some (.int .i64 y1) := by simpa using (kbb _ _ ey0).2
          have yc2 : (W.drewN m).cell? ⟨bb, ob + 2, none⟩ = some (.int .i64 y2) := by simpa using (kbb _ _ ey1).1
          have yc3 : (W.drewN m).cell? ⟨bb, ob + 3, none⟩ = some (.int .i64 y3) := by simpa using (kbb _ _ ey1).2
          have yc4 : (W.drewN m).cell? ⟨bb, ob + (qs.length - 2) * 2, none⟩ = some (.int .i64 y4) := by exact (kbb _ _ ey2).1
          have yc5 : (W.drewN m).cell? ⟨bb, ob + (qs.length - 2) * 2 + 1, none⟩ = some (.int .i64 y5) := by exact (kbb _ _ ey2).2
          have yc6 : (W.drewN m).cell? ⟨bb, ob + (qs.length - 1) * 2, none⟩ = some (.int .i64 y6) := by exact (kbb _ _ ey3).1
          have yc7 : (W.drewN m).cell? ⟨bb, ob + (qs.length - 1) * 2 + 1, none⟩ = some (.int .i64 y7) := by exact (kbb _ _ ey3).2
          have HIP : Hid (Marks (W.drewN m) (some ⟨ba, oa + 2, none⟩) (inner ps)) := inner_marks (HP.out.marks.below (below_drewN (Below.refl _ _) m)) la1
          have HIQ : Hid (Marks (W.drewN m) (some ⟨bb, ob + 2, none⟩) (inner qs)) := inner_marks (HQ.out.marks.below (below_drewN (Below.refl _ _) m)) lb1
          have hcp := HP.out.le
          have hcq := HQ.out.le
          have hcp1 : c3 ≠ 1 := by omega
          have hcq1 : c4 ≠ 1 := by omega
          have hcp2 : ps.length - 1 ≤ c3 := by omega
          have hcq2 : qs.length - 1 ≤ c4 := by omega
          have HLP : Hid ((inner ps).length = ps.length - 1 - 1 ∧ (inner qs).length = qs.length - 1 - 1 ∧ (inner ps).length ≤ maxLen) := by
            refine ⟨by rw [inner_len la1]; omega, by rw [inner_len lb1]; omega, ?_⟩
            rw [inner_len la1]; unfold maxLen; omega
          have hpa : W.heap.size = (W.drewN m).heap.size := rfl
          have hwx : Below w.heap.size w (W.drewN m) := below_drewN hWW m
          have hww : w.heap.size ≤ (W.drewN m).heap.size := hyW
          have HOK : Hid ((okM (x0, x1) = true ∧ okM (x2, x3) = true ∧ okM (x4, x5) = true ∧ okM (x6, x7) = true) ∧ (okM (y0, y1) = true ∧ okM (y2, y3) = true ∧ okM (y4, y5) = true ∧ okM (y6, y7) = true)) := by
            have vp := straight_vk HV.out
            have vq := straight_vk HV'.out
            rw [← HAS.out] at vp
            rw [← HBS.out] at vq
            rw [← mA_of ex0, ← mA_of ex1, ← mA_of ex2, ← mA_of ex3, ← mA_of ey0, ← mA_of ey1, ← mA_of ey2, ← mA_of ey3]
            exact ⟨⟨okM_at vp (by omega), okM_at vp (by omega), okM_at vp (by omega), okM_at vp (by omega)⟩, okM_at vq (by omega), okM_at vq (by omega), okM_at vq (by omega), okM_at vq (by omega)⟩
          have HLL : Hid (likeB ps qs = (decide (inner ps = inner qs) && sameLB (x0, x1) (x2, x3) (y0, y1) (y2, y3) && sameLB (x4, x5) (x6, x7) (y4, y5) (y6, y7))) := by
            show _ = _
            rw [likeB, mA_of ex0, mA_of ex1, mA_of ex2, mA_of ex3, mA_of ey0, mA_of ey1, mA_of ey2, mA_of ey3]
          have HLK2 : Hid (sameV ms ns = likeB ps qs) := by show _ = _; rw [HLK.out, HAS.out, HBS.out]
          clear ex0 ex1 ex2 ex3 ey0 ey1 ey2 ey3 kba kbb HP HQ HCW HDW
          have hba' : ba < (W.drewN m).heap.size := hba
          have hbb' : bb < (W.drewN m).heap.size := hbb
          clear hba hbb hyW hpa hWW w1' w2' i1 i2 i3 i4 i5 i6 i7 i8 i9 i10 hbc hbd
          generalize W.drewN m = V at *
          have HVW := Lib.hid hwx
          clear hwx
          have v1' : IntKind.i64.wrap ((ps.length : Int) - 1) = (ps.length : Int) - 1 := IntWalk.i64_in _ (by omega)
          have v2' : IntKind.i64.wrap ((ps.length : Int) - 2) = (ps.length : Int) - 2 := IntWalk.i64_in _ (by omega)
          have v3' : IntKind.i64.wrap ((qs.length : Int) - 1) = (qs.length : Int) - 1 := IntWalk.i64_in _ (by omega)
          have v4' : IntKind.i64.wrap ((qs.length : Int) - 2) = (qs.length : Int) - 2 := IntWalk.i64_in _ (by omega)
          have i1 : ((ps.length : Int) - 1).toNat = ps.length - 1 := by omega
          have i2 : ((ps.length : Int) - 2).toNat = ps.length - 2 := by omega
          have i3 : ((qs.length : Int) - 1).toNat = qs.length - 1 := by omega
          have i4 : ((qs.length : Int) - 2).toNat = qs.length - 2 := by omega
          have i5 : (0 : Int) ≤ (ps.length : Int) - 1 := by omega
          have i6 : (ps.length : Int) - 1 < (ps.length : Int) := by omega
          have i7 : (0 : Int) ≤ (ps.length : Int) - 2 := by omega
          have i8 : (ps.length : Int) - 2 < (ps.length : Int) := by omega
          have i9 : (0 : Int) ≤ (qs.length : Int) - 1 := by omega
          have i10 : (qs.length : Int) - 1 < (qs.length : Int) := by omega
          have i11 : (0 : Int) ≤ (qs.length : Int) - 2 := by omega
          have i12 : (qs.length : Int) - 2 < (qs.length : Int) := by omega
          have i13 : (0 : Int) < (ps.length : Int) := by omega
          have i14 : (0 : Int) < (qs.length : Int) := by omega
          have i15 : (1 : Int) < (ps.length : Int) := by omega
          have i16 : (1 : Int) < (qs.length : Int) := by omega
          have i17 : (1 : Int) ≤ (ps.length : Int) - 1 := by omega
          have i18 : (1 : Int) ≤ (qs.length : Int) - 1 := by omega
          have i19 : (ps.length : Int) - 1 ≤ (c3 : Int) := by omega
          have i20 : (qs.length : Int) - 1 ≤ (c4 : Int) := by omega
          have i21 : 1 ≤ ps.length - 1 := by omega
          have i22 : 1 ≤ qs.length - 1 := by omega
          have i23 : 0 < ps.length := by omega
          have i24 : 1 < ps.length := by omega
          have i25 : 0 < qs.length := by omega
          have i26 : 1 < qs.length := by omega
          have i27 : ps.length - 1 < ps.length := by omega
          have i28 : ps.length - 2 < ps.length := by omega
          have i29 : qs.length - 1 < qs.length := by omega
          have i30 : qs.length - 2 < qs.length := by omega
          go_cut [17] from 142 to 188 (fun s wx => s = .bool (likeB ps qs) ∧ Below w.heap.size w wx)
          case first =>
            cases hL1 : decide (inner ps = inner qs)
            · go_quiet ((go_at_call 42; exact Calls.quiet_of (v := .bool false) ((equal_in (inner ps) (inner qs) _ _ _ _ _ _ _ HLP.out.1 HLP.out.2.1 (HIP.out.below (below_drewN (Below.refl _ _) _)) (HIQ.out.below (below_drewN (Below.refl _ _) _)) HLP.out.2.2).mono fun e w' h => ⟨h.1.trans (by rw [hL1]), h.2⟩)))
              go_wp2_with fail
              go_meet
              exact ⟨by rw [HLL.out, hL1]; rfl, below_drewN HVW.out _⟩
            · cases hL2 : sameLB (x0, x1) (x2, x3) (y0, y1) (y2, y3)
              · skip
                have HEQ : Hid (∀ g : Gw V, Calls Try.prog 42 #[.slice (some ⟨ba, oa + 2, none⟩) (ps.length - 1 - 1) (c3 - 1), .slice (some ⟨bb, ob + 2, none⟩) (qs.length - 1 - 1) (c4 - 1)] g.v fun e w' => e = .returned (.bool true) ∧ Below g.v.heap.size g.v w') := Lib.hid fun g => (equal_in (inner ps) (inner qs) _ _ _ _ _ _ _ HLP.out.1 HLP.out.2.1 (HIP.out.below g.h) (HIQ.out.below g.h) HLP.out.2.2).mono fun e w' ⟨he, q', hq'⟩ => ⟨he.trans (by rw [hL1]), by rw [hq']; exact below_drewN (Below.refl _ _) _⟩
                have HSA : Hid (∀ W, Calls Try.prog 54 #[.agg #[.int .i64 x0, .int .i64 x1], .agg #[.int .i64 x2, .int .i64 x3], .agg #[.int .i64 y0, .int .i64 y1], .agg #[.int .i64 y2, .int .i64 y3]] W fun e w' => e = .returned (.bool false) ∧ Below W.heap.size W w') := Lib.hid fun W => (sameLine_any (x0, x1) (x2, x3) (y0, y1) (y2, y3) W HOK.out.1.1 HOK.out.1.2.1 HOK.out.2.1 HOK.out.2.2.1).mono fun e w' h => ⟨h.1.trans (by rw [hL2]), h.2⟩
                have q0 : ∀ g : Gw V, g.v.cell? ⟨ba, oa, none⟩ = some (.int .i64 x0) := fun g => (g.h.cell (p := ⟨ba, oa, none⟩) hba').trans xc0
                have q1 : ∀ g : Gw V, g.v.cell? ⟨ba, oa + 1, none⟩ = some (.int .i64 x1) := fun g => (g.h.cell (p := ⟨ba, oa + 1, none⟩) hba').trans xc1
                have q2 : ∀ g : Gw V, g.v.cell? ⟨ba, oa + 2, none⟩ = some (.int .i64 x2) := fun g => (g.h.cell (p := ⟨ba, oa + 2, none⟩) hba').trans xc2
                have q3 : ∀ g : Gw V, g.v.cell? ⟨ba, oa + 3, none⟩ = some (.int .i64 x3) := fun g => (g.h.cell (p := ⟨ba, oa + 3, none⟩) hba').trans xc3
                have q4 : ∀ g : Gw V, g.v.cell? ⟨ba, oa + (ps.length - 2) * 2, none⟩ = some (.int .i64 x4) := fun g => (g.h.cell (p := ⟨ba, oa + (ps.length - 2) * 2, none⟩) hba').trans xc4
                have q5 : ∀ g : Gw V, g.v.cell? ⟨ba, oa + (ps.length - 2) * 2 + 1, none⟩ = some (.int .i64 x5) := fun g => (g.h.cell (p := ⟨ba, oa + (ps.length - 2) * 2 + 1, none⟩) hba').trans xc5
                have q6 : ∀ g : Gw V, g.v.cell? ⟨ba, oa + (ps.length - 1) * 2, none⟩ = some (.int .i64 x6) := fun g => (g.h.cell (p := ⟨ba, oa + (ps.length - 1) * 2, none⟩) hba').trans xc6
                have q7 : ∀ g : Gw V, g.v.cell? ⟨ba, oa + (ps.length - 1) * 2 + 1, none⟩ = some (.int .i64 x7) := fun g => (g.h.cell (p := ⟨ba, oa + (ps.length - 1) * 2 + 1, none⟩) hba').trans xc7
                have q8 : ∀ g : Gw V, g.v.cell? ⟨bb, ob, none⟩ = some (.int .i64 y0) := fun g => (g.h.cell (p := ⟨bb, ob, none⟩) hbb').trans yc0
                have q9 : ∀ g : Gw V, g.v.cell? ⟨bb, ob + 1, none⟩ = some (.int .i64 y1) := fun g => (g.h.cell (p := ⟨bb, ob + 1, none⟩) hbb').trans yc1
                have q10 : ∀ g : Gw V, g.v.cell? ⟨bb, ob + 2, none⟩ = some (.int .i64 y2) := fun g => (g.h.cell (p := ⟨bb, ob + 2, none⟩) hbb').trans yc2
                have q11 : ∀ g : Gw V, g.v.cell? ⟨bb, ob + 3, none⟩ = some (.int .i64 y3) := fun g => (g.h.cell (p := ⟨bb, ob + 3, none⟩) hbb').trans yc3
                have q12 : ∀ g : Gw V, g.v.cell? ⟨bb, ob + (qs.length - 2) * 2, none⟩ = some (.int .i64 y4) := fun g => (g.h.cell (p := ⟨bb, ob + (qs.length - 2) * 2, none⟩) hbb').trans yc4
                have q13 : ∀ g : Gw V, g.v.cell? ⟨bb, ob + (qs.length - 2) * 2 + 1, none⟩ = some (.int .i64 y5) := fun g => (g.h.cell (p := ⟨bb, ob + (qs.length - 2) * 2 + 1, none⟩) hbb').trans yc5
                have q14 : ∀ g : Gw V, g.v.cell? ⟨bb, ob + (qs.length - 1) * 2, none⟩ = some (.int .i64 y6) := fun g => (g.h.cell (p := ⟨bb, ob + (qs.length - 1) * 2, none⟩) hbb').trans yc6
                have q15 : ∀ g : Gw V, g.v.cell? ⟨bb, ob + (qs.length - 1) * 2 + 1, none⟩ = some (.int .i64 y7) := fun g => (g.h.cell (p := ⟨bb, ob + (qs.length - 1) * 2 + 1, none⟩) hbb').trans yc7
                clear xc0 xc1 xc2 xc3 xc4 xc5 xc6 xc7 yc0 yc1 yc2 yc3 yc4 yc5 yc6 yc7
                go_wp2
                refine wp_region_grow (by kernel_rfl) (by kernel_rfl) ?_
                repeat (go_big_quiet_step ((first
                  | (go_at_call 42; with_reducible exact Calls.grow_of (HEQ.out _))
                  | (go_at_call 54; with_reducible exact Calls.grow_of (HSA.out _))
                  | fail)))
                refine wpQuiet_nil ?_
                rintro _ ⟨gq, rfl⟩
                have hX := Lib.hid gq.h
                generalize gq.v = V1 at hX ⊢
                clear q0 q1 q2 q3 q4 q5 q6 q7 q8 q9 q10 q11 q12 q13 q14 q15
                go_wp2_with fail
                go_meet
                exact ⟨by rw [HLL.out, hL1, hL2]; rfl, HVW.out.trans (hX.out.mono hww)⟩
              · cases hL3 : sameLB (x4, x5) (x6, x7) (y4, y5) (y6, y7)
                · skip
                  have HEQ : Hid (∀ g : Gw V, Calls Try.prog 42 #[.slice (some ⟨ba, oa + 2, none⟩) (ps.length - 1 - 1) (c3 - 1), .slice (some ⟨bb, ob + 2, none⟩) (qs.length - 1 - 1) (c4 - 1)] g.v fun e w' => e = .returned (.bool true) ∧ Below g.v.heap.size g.v w') := Lib.hid fun g => (equal_in (inner ps) (inner qs) _ _ _ _ _ _ _ HLP.out.1 HLP.out.2.1 (HIP.out.below g.h) (HIQ.out.below g.h) HLP.out.2.2).mono fun e w' ⟨he, q', hq'⟩ => ⟨he.trans (by rw [hL1]), by rw [hq']; exact below_drewN (Below.refl _ _) _⟩
                  have HSA : Hid (∀ W, Calls Try.prog 54 #[.agg #[.int .i64 x0, .int .i64 x1], .agg #[.int .i64 x2, .int .i64 x3], .agg #[.int .i64 y0, .int .i64 y1], .agg #[.int .i64 y2, .int .i64 y3]] W fun e w' => e = .returned (.bool true) ∧ Below W.heap.size W w') := Lib.hid fun W => (sameLine_any (x0, x1) (x2, x3) (y0, y1) (y2, y3) W HOK.out.1.1 HOK.out.1.2.1 HOK.out.2.1 HOK.out.2.2.1).mono fun e w' h => ⟨h.1.trans (by rw [hL2]), h.2⟩
                  have HSB : Hid (∀ W, Calls Try.prog 54 #[.agg #[.int .i64 x4, .int .i64 x5], .agg #[.int .i64 x6, .int .i64 x7], .agg #[.int .i64 y4, .int .i64 y5], .agg #[.int .i64 y6, .int .i64 y7]] W fun e w' => e = .returned (.bool false) ∧ Below W.heap.size W w') := Lib.hid fun W => (sameLine_any (x4, x5) (x6, x7) (y4, y5) (y6, y7) W HOK.out.1.2.2.1 HOK.out.1.2.2.2 HOK.out.2.2.2.1 HOK.out.2.2.2.2).mono fun e w' h => ⟨h.1.trans (by rw [hL3]), h.2⟩
                  have q0 : ∀ g : Gw V, g.v.cell? ⟨ba, oa, none⟩ = some (.int .i64 x0) := fun g => (g.h.cell (p := ⟨ba, oa, none⟩) hba').trans xc0
                  have q1 : ∀ g : Gw V, g.v.cell? ⟨ba, oa + 1, none⟩ = some (.int .i64 x1) := fun g => (g.h.cell (p := ⟨ba, oa + 1, none⟩) hba').trans xc1
                  have q2 : ∀ g : Gw V, g.v.cell? ⟨ba, oa + 2, none⟩ = some (.int .i64 x2) := fun g => (g.h.cell (p := ⟨ba, oa + 2, none⟩) hba').trans xc2
                  have q3 : ∀ g : Gw V, g.v.cell? ⟨ba, oa + 3, none⟩ = some (.int .i64 x3) := fun g => (g.h.cell (p := ⟨ba, oa + 3, none⟩) hba').trans xc3
                  have q4 : ∀ g : Gw V, g.v.cell? ⟨ba, oa + (ps.length - 2) * 2, none⟩ = some (.int .i64 x4) := fun g => (g.h.cell (p := ⟨ba, oa + (ps.length - 2) * 2, none⟩) hba').trans xc4
                  have q5 : ∀ g : Gw V, g.v.cell? ⟨ba, oa + (ps.length - 2) * 2 + 1, none⟩ = some (.int .i64 x5) := fun g => (g.h.cell (p := ⟨ba, oa + (ps.length - 2) * 2 + 1, none⟩) hba').trans xc5
                  have q6 : ∀ g : Gw V, g.v.cell? ⟨ba, oa + (ps.length - 1) * 2, none⟩ = some (.int .i64 x6) := fun g => (g.h.cell (p := ⟨ba, oa + (ps.length - 1) * 2, none⟩) hba').trans xc6
                  have q7 : ∀ g : Gw V, g.v.cell? ⟨ba, oa + (ps.length - 1) * 2 + 1, none⟩ = some (.int .i64 x7) := fun g => (g.h.cell (p := ⟨ba, oa + (ps.length - 1) * 2 + 1, none⟩) hba').trans xc7
                  have q8 : ∀ g : Gw V, g.v.cell? ⟨bb, ob, none⟩ = some (.int .i64 y0) := fun g => (g.h.cell (p := ⟨bb, ob, none⟩) hbb').trans yc0
                  have q9 : ∀ g : Gw V, g.v.cell? ⟨bb, ob + 1, none⟩ = some (.int .i64 y1) := fun g => (g.h.cell (p := ⟨bb, ob + 1, none⟩) hbb').trans yc1
                  have q10 : ∀ g : Gw V, g.v.cell? ⟨bb, ob + 2, none⟩ = some (.int .i64 y2) := fun g => (g.h.cell (p := ⟨bb, ob + 2, none⟩) hbb').trans yc2
                  have q11 : ∀ g : Gw V, g.v.cell? ⟨bb, ob + 3, none⟩ = some (.int .i64 y3) := fun g => (g.h.cell (p := ⟨bb, ob + 3, none⟩) hbb').trans yc3
                  have q12 : ∀ g : Gw V, g.v.cell? ⟨bb, ob + (qs.length - 2) * 2, none⟩ = some (.int .i64 y4) := fun g => (g.h.cell (p := ⟨bb, ob + (qs.length - 2) * 2, none⟩) hbb').trans yc4
                  have q13 : ∀ g : Gw V, g.v.cell? ⟨bb, ob + (qs.length - 2) * 2 + 1, none⟩ = some (.int .i64 y5) := fun g => (g.h.cell (p := ⟨bb, ob + (qs.length - 2) * 2 + 1, none⟩) hbb').trans yc5
                  have q14 : ∀ g : Gw V, g.v.cell? ⟨bb, ob + (qs.length - 1) * 2, none⟩ = some (.int .i64 y6) := fun g => (g.h.cell (p := ⟨bb, ob + (qs.length - 1) * 2, none⟩) hbb').trans yc6
                  have q15 : ∀ g : Gw V, g.v.cell? ⟨bb, ob + (qs.length - 1) * 2 + 1, none⟩ = some (.int .i64 y7) := fun g => (g.h.cell (p := ⟨bb, ob + (qs.length - 1) * 2 + 1, none⟩) hbb').trans yc7
                  clear xc0 xc1 xc2 xc3 xc4 xc5 xc6 xc7 yc0 yc1 yc2 yc3 yc4 yc5 yc6 yc7
                  go_wp2
                  refine wp_region_grow (by kernel_rfl) (by kernel_rfl) ?_
                  repeat (go_big_quiet_step ((first
                    | (go_at_call 42; with_reducible exact Calls.grow_of (HEQ.out _))
                    | (go_at_call 54; with_reducible exact Calls.grow_of (HSA.out _))
                    | (go_at_call 54; with_reducible exact Calls.grow_of (HSB.out _))
                    | fail)))
                  refine wpQuiet_nil ?_
                  rintro _ ⟨gq, rfl⟩
                  have hX := Lib.hid gq.h
                  generalize gq.v = V1 at hX ⊢
                  clear q0 q1 q2 q3 q4 q5 q6 q7 q8 q9 q10 q11 q12 q13 q14 q15
                  go_wp2_with fail
                  go_meet
                  exact ⟨by rw [HLL.out, hL1, hL2, hL3]; rfl, HVW.out.trans (hX.out.mono hww)⟩
                · skip
                  have HEQ : Hid (∀ g : Gw V, Calls Try.prog 42 #[.slice (some ⟨ba, oa + 2, none⟩) (ps.length - 1 - 1) (c3 - 1), .slice (some ⟨bb, ob + 2, none⟩) (qs.length - 1 - 1) (c4 - 1)] g.v fun e w' => e = .returned (.bool true) ∧ Below g.v.heap.size g.v w') := Lib.hid fun g => (equal_in (inner ps) (inner qs) _ _ _ _ _ _ _ HLP.out.1 HLP.out.2.1 (HIP.out.below g.h) (HIQ.out.below g.h) HLP.out.2.2).mono fun e w' ⟨he, q', hq'⟩ => ⟨he.trans (by rw [hL1]), by rw [hq']; exact below_drewN (Below.refl _ _) _⟩
                  have HSA : Hid (∀ W, Calls Try.prog 54 #[.agg #[.int .i64 x0, .int .i64 x1], .agg #[.int .i64 x2, .int .i64 x3], .agg #[.int .i64 y0, .int .i64 y1], .agg #[.int .i64 y2, .int .i64 y3]] W fun e w' => e = .returned (.bool true) ∧ Below W.heap.size W w') := Lib.hid fun W => (sameLine_any (x0, x1) (x2, x3) (y0, y1) (y2, y3) W HOK.out.1.1 HOK.out.1.2.1 HOK.out.2.1 HOK.out.2.2.1).mono fun e w' h => ⟨h.1.trans (by rw [hL2]), h.2⟩
                  have HSB : Hid (∀ W, Calls Try.prog 54 #[.agg #[.int .i64 x4, .int .i64 x5], .agg #[.int .i64 x6, .int .i64 x7], .agg #[.int .i64 y4, .int .i64 y5], .agg #[.int .i64 y6, .int .i64 y7]] W fun e w' => e = .returned (.bool true) ∧ Below W.heap.size W w') := Lib.hid fun W => (sameLine_any (x4, x5) (x6, x7) (y4, y5) (y6, y7) W HOK.out.1.2.2.1 HOK.out.1.2.2.2 HOK.out.2.2.2.1 HOK.out.2.2.2.2).mono fun e w' h => ⟨h.1.trans (by rw [hL3]), h.2⟩
                  have q0 : ∀ g : Gw V, g.v.cell? ⟨ba, oa, none⟩ = some (.int .i64 x0) := fun g => (g.h.cell (p := ⟨ba, oa, none⟩) hba').trans xc0
                  have q1 : ∀ g : Gw V, g.v.cell? ⟨ba, oa + 1, none⟩ = some (.int .i64 x1) := fun g => (g.h.cell (p := ⟨ba, oa + 1, none⟩) hba').trans xc1
                  have q2 : ∀ g : Gw V, g.v.cell? ⟨ba, oa + 2, none⟩ = some (.int .i64 x2) := fun g => (g.h.cell (p := ⟨ba, oa + 2, none⟩) hba').trans xc2
                  have q3 : ∀ g : Gw V, g.v.cell? ⟨ba, oa + 3, none⟩ = some (.int .i64 x3) := fun g => (g.h.cell (p := ⟨ba, oa + 3, none⟩) hba').trans xc3
                  have q4 : ∀ g : Gw V, g.v.cell? ⟨ba, oa + (ps.length - 2) * 2, none⟩ = some (.int .i64 x4) := fun g => (g.h.cell (p := ⟨ba, oa + (ps.length - 2) * 2, none⟩) hba').trans xc4
                  have q5 : ∀ g : Gw V, g.v.cell? ⟨ba, oa + (ps.length - 2) * 2 + 1, none⟩ = some (.int .i64 x5) := fun g => (g.h.cell (p := ⟨ba, oa + (ps.length - 2) * 2 + 1, none⟩) hba').trans xc5
                  have q6 : ∀ g : Gw V, g.v.cell? ⟨ba, oa + (ps.length - 1) * 2, none⟩ = some (.int .i64 x6) := fun g => (g.h.cell (p := ⟨ba, oa + (ps.length - 1) * 2, none⟩) hba').trans xc6
                  have q7 : ∀ g : Gw V, g.v.cell? ⟨ba, oa + (ps.length - 1) * 2 + 1, none⟩ = some (.int .i64 x7) := fun g => (g.h.cell (p := ⟨ba, oa + (ps.length - 1) * 2 + 1, none⟩) hba').trans xc7
                  have q8 : ∀ g : Gw V, g.v.cell? ⟨bb, ob, none⟩ = some (.int .i64 y0) := fun g => (g.h.cell (p := ⟨bb, ob, none⟩) hbb').trans yc0
                  have q9 : ∀ g : Gw V, g.v.cell? ⟨bb, ob + 1, none⟩ = some (.int .i64 y1) := fun g => (g.h.cell (p := ⟨bb, ob + 1, none⟩) hbb').trans yc1
                  have q10 : ∀ g : Gw V, g.v.cell? ⟨bb, ob + 2, none⟩ = some (.int .i64 y2) := fun g => (g.h.cell (p := ⟨bb, ob + 2, none⟩) hbb').trans yc2
                  have q11 : ∀ g : Gw V, g.v.cell? ⟨bb, ob + 3, none⟩ = some (.int .i64 y3) := fun g => (g.h.cell (p := ⟨bb, ob + 3, none⟩) hbb').trans yc3
                  have q12 : ∀ g : Gw V, g.v.cell? ⟨bb, ob + (qs.length - 2) * 2, none⟩ = some (.int .i64 y4) := fun g => (g.h.cell (p := ⟨bb, ob + (qs.length - 2) * 2, none⟩) hbb').trans yc4
                  have q13 : ∀ g : Gw V, g.v.cell? ⟨bb, ob + (qs.length - 2) * 2 + 1, none⟩ = some (.int .i64 y5) := fun g => (g.h.cell (p := ⟨bb, ob + (qs.length - 2) * 2 + 1, none⟩) hbb').trans yc5
                  have q14 : ∀ g : Gw V, g.v.cell? ⟨bb, ob + (qs.length - 1) * 2, none⟩ = some (.int .i64 y6) := fun g => (g.h.cell (p := ⟨bb, ob + (qs.length - 1) * 2, none⟩) hbb').trans yc6
                  have q15 : ∀ g : Gw V, g.v.cell? ⟨bb, ob + (qs.length - 1) * 2 + 1, none⟩ = some (.int .i64 y7) := fun g => (g.h.cell (p := ⟨bb, ob + (qs.length - 1) * 2 + 1, none⟩) hbb').trans yc7
                  clear xc0 xc1 xc2 xc3 xc4 xc5 xc6 xc7 yc0 yc1 yc2 yc3 yc4 yc5 yc6 yc7
                  go_wp2
                  refine wp_region_grow (by kernel_rfl) (by kernel_rfl) ?_
                  repeat (go_big_quiet_step ((first
                    | (go_at_call 42; with_reducible exact Calls.grow_of (HEQ.out _))
                    | (go_at_call 54; with_reducible exact Calls.grow_of (HSA.out _))
                    | (go_at_call 54; with_reducible exact Calls.grow_of (HSB.out _))
                    | fail)))
                  refine wpQuiet_nil ?_
                  rintro _ ⟨gq, rfl⟩
                  have hX := Lib.hid gq.h
                  generalize gq.v = V1 at hX ⊢
                  clear q0 q1 q2 q3 q4 q5 q6 q7 q8 q9 q10 q11 q12 q13 q14 q15
                  go_wp2_with fail
                  go_meet
                  exact ⟨by rw [HLL.out, hL1, hL2, hL3]; rfl, HVW.out.trans (hX.out.mono hww)⟩
          case rest =>
            obtain ⟨rfl, hBV⟩ := hcut
            have HVW := Lib.hid hBV
            have hzz := hBV.size
            clear hBV
            have heq : (sameV ms ns == likeB ps qs) = true := by rw [HLK2.out]; simp
            go_wp2_with (go_at_call 15; refine (awake_any _).mono ?_; rintro e w9 ⟨rfl, hB9⟩)
            go_ret
            exact ⟨by simp, HVW.out.trans (hB9.mono hzz)⟩
      · have hv2 : vkB ns = false := by simpa using hv'
        have TA : Hid True := Lib.hid trivial
        go_enter Try.func12, Try.ntmps12
        go_wp2_with (first
        | (go_at_call 29; refine (long_any _ _ _ _).mono ?_; rintro e w' ⟨rfl, rfl⟩)
        | (go_at_call 33; have hstop := hB1; refine (refValidClock_any ns _ _ _ (HD.out.below (by exact (by repeat (first | with_reducible exact Below.refl _ _ | with_reducible assumption | refine below_drewN ?_ _ | with_reducible refine Below.drew ?_ | (refine Below.setCell ?_ (by first | (simp; done) | (simp; omega) | omega) _) | (refine Below.alloc ?_ (by first | (simp; done) | (simp; omega) | omega) _))))).marks HD.out.len).mono ?_; rintro e w2 ⟨he, hB2⟩; rw [hv2] at he; subst he; have hW2 : Below w.heap.size w w2 := Below.trans (by exact (by repeat (first | with_reducible exact Below.refl _ _ | with_reducible assumption | refine below_drewN ?_ _ | with_reducible refine Below.drew ?_ | (refine Below.setCell ?_ (by first | (simp; done) | (simp; omega) | omega) _) | (refine Below.alloc ?_ (by first | (simp; done) | (simp; omega) | omega) _)))) (hB2.mono (by first | omega | (simp; omega))); have y2 := hW2.size)
        | (clear TA; go_at_call 33; refine (refValidClock_any ms _ _ _ (HC.out.below (by exact (by repeat (first | with_reducible exact Below.refl _ _ | with_reducible assumption | refine below_drewN ?_ _ | with_reducible refine Below.drew ?_ | (refine Below.setCell ?_ (by first | (simp; done) | (simp; omega) | omega) _) | (refine Below.alloc ?_ (by first | (simp; done) | (simp; omega) | omega) _))))).marks HC.out.len).mono ?_; rintro e w1 ⟨he, hB1⟩; rw [HV.out] at he; subst he; have hW1 : Below w.heap.size w w1 := Below.trans (by exact (by repeat (first | with_reducible exact Below.refl _ _ | with_reducible assumption | refine below_drewN ?_ _ | with_reducible refine Below.drew ?_ | (refine Below.setCell ?_ (by first | (simp; done) | (simp; omega) | omega) _) | (refine Below.alloc ?_ (by first | (simp; done) | (simp; omega) | omega) _)))) (hB1.mono (by first | omega | (simp; omega))); have y1 := hW1.size)
        | (go_at_call 15; refine (awake_any _).mono ?_; rintro e w9 ⟨rfl, hB9⟩))
        go_ret
        exact ⟨by simp, Below.trans (by exact (by repeat (first | with_reducible exact Below.refl _ _ | with_reducible assumption | refine below_drewN ?_ _ | with_reducible refine Below.drew ?_ | (refine Below.setCell ?_ (by first | (simp; done) | (simp; omega) | omega) _) | (refine Below.alloc ?_ (by first | (simp; done) | (simp; omega) | omega) _)))) (hB9.mono (by first | (simp; done) | (simp; omega) | omega))⟩
    · have hv2 : vkB ms = false := by simpa using hv
      have TA : Hid True := Lib.hid trivial
      go_enter Try.func12, Try.ntmps12
      go_wp2_with (first
      | (go_at_call 29; refine (long_any _ _ _ _).mono ?_; rintro e w' ⟨rfl, rfl⟩)
      | (clear TA; go_at_call 33; refine (refValidClock_any ms _ _ _ (HC.out.below (by exact (by repeat (first | with_reducible exact Below.refl _ _ | with_reducible assumption | refine below_drewN ?_ _ | with_reducible refine Below.drew ?_ | (refine Below.setCell ?_ (by first | (simp; done) | (simp; omega) | omega) _) | (refine Below.alloc ?_ (by first | (simp; done) | (simp; omega) | omega) _))))).marks HC.out.len).mono ?_; rintro e w1 ⟨he, hB1⟩; rw [hv2] at he; subst he; have hW1 : Below w.heap.size w w1 := Below.trans (by exact (by repeat (first | with_reducible exact Below.refl _ _ | with_reducible assumption | refine below_drewN ?_ _ | with_reducible refine Below.drew ?_ | (refine Below.setCell ?_ (by first | (simp; done) | (simp; omega) | omega) _) | (refine Below.alloc ?_ (by first | (simp; done) | (simp; omega) | omega) _)))) (hB1.mono (by first | omega | (simp; omega))); have y1 := hW1.size)
      | (go_at_call 15; refine (awake_any _).mono ?_; rintro e w9 ⟨rfl, hB9⟩))
      go_ret
      exact ⟨by simp, Below.trans (by exact (by repeat (first | with_reducible exact Below.refl _ _ | with_reducible assumption | refine below_drewN ?_ _ | with_reducible refine Below.drew ?_ | (refine Below.setCell ?_ (by first | (simp; done) | (simp; omega) | omega) _) | (refine Below.alloc ?_ (by first | (simp; done) | (simp; omega) | omega) _)))) (hB9.mono (by first | (simp; done) | (simp; omega) | omega))⟩
end Go.Proofs.Ytjghlfagdleglaa
