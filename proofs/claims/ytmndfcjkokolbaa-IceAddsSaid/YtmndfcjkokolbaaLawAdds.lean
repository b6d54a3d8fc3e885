/-
  The walk of IceAdds: it returns true, whatever it is given.
-/
import Derived.Test.YtmndfcjkokolbaaLawReaches
namespace Go.Proofs.Ytmndfcjkokolbaa
open Go.RowKit Go.Shelf

theorem add_md {x y z : Int} : ∃ m lw h hi : Int, (if y < x then y else x) = m ∧ (if z < m then z else m) = lw ∧ (if x < y then y else x) = h ∧ (if h < z then z else h) = hi ∧ lw ≤ x ∧ x ≤ hi ∧ lw ≤ x + y + z - lw - hi ∧ x + y + z - lw - hi ≤ hi ∧ (0 ≤ x → 0 ≤ y → 0 ≤ z → 0 ≤ lw) ∧ (∀ n, x ≤ n → y ≤ n → z ≤ n → hi ≤ n) :=
  ⟨_, _, _, _, rfl, rfl, rfl, rfl, by split <;> split <;> omega, by split <;> split <;> omega, by split <;> split <;> split <;> split <;> omega, by split <;> split <;> split <;> split <;> omega, by intro _ _ _; split <;> split <;> omega, by intro n _ _ _; split <;> split <;> omega⟩
theorem lossI_le {l : List Int} {a b : Int} (hab : a ≤ b) : lossI l a b = sumN l b.toNat - sumN l a.toNat ∧ lossI l b a = sumN l b.toNat - sumN l a.toNat := by
  unfold lossI
  rw [show max a b = b by omega, show min a b = a by omega, show max b a = b by omega, show min b a = a by omega]
  exact ⟨rfl, rfl⟩
/-- What the loop over the metres between two depths has found. -/
def DimsOK (l : List Int) (a m lo hg : Int) : Prop := lo * (m - a) ≤ lossI l a m ∧ lossI l a m ≤ hg * (m - a)
theorem dims_start {l : List Int} {a : Int} : DimsOK l a a 100 0 := by
  unfold DimsOK lossI; simp
theorem dims_next {l : List Int} {a : Int} {k : Nat} {lo hg d : Int} (h : DimsOK l a k lo hg) (ha : 0 ≤ a) (hak : a ≤ k) (hd : l[k]? = some d) : DimsOK l a ((k : Int) + 1) (if d < lo then d else lo) (if hg < d then d else hg) := by
  unfold DimsOK at *
  obtain ⟨x, rfl⟩ := Int.eq_ofNat_of_zero_le ha
  rw [loss_le (by omega)] at h
  rw [show ((k : Int) + 1) = ((k + 1 : Nat) : Int) by omega, loss_le (by omega), sumN_succ hd]
  have e : (((k + 1 : Nat) : Int) - (x : Int)) = ((k : Int) - x) + 1 := by omega
  rw [e]
  have hj : 0 ≤ (k : Int) - x := by omega
  generalize (k : Int) - x = j at *
  have h1 : (if d < lo then d else lo) * j ≤ lo * j := Int.mul_le_mul_of_nonneg_right (by split <;> omega) hj
  have h2 : hg * j ≤ (if hg < d then d else hg) * j := Int.mul_le_mul_of_nonneg_right (by split <;> omega) hj
  have h3 : (if d < lo then d else lo) ≤ d := by split <;> omega
  have h4 : d ≤ (if hg < d then d else hg) := by split <;> omega
  rw [Int.mul_add, Int.mul_add, Int.mul_one, Int.mul_one]
  omega
theorem low_facts {n d : Int} (hn : 0 ≤ n ∧ n ≤ 60000) (hd : 1 ≤ d ∧ d ≤ 600) : 0 ≤ lowN n d ∧ lowN n d ≤ 60000 ∧ 1 ≤ lowD n d ∧ lowD n d ≤ 600 ∧ lowN n d * d = n * lowD n d ∧ (∀ q, q * d ≤ n → q * lowD n d ≤ lowN n d) ∧ (∀ q, n ≤ q * d → lowN n d ≤ q * lowD n d) := by
  have hg := gcd_pos (n := n) (d := d) (by omega)
  have e1 : lowN n d * (Int.gcd n d : Int) = n := Int.ediv_mul_cancel (Int.gcd_dvd_left n d)
  have e2 : lowD n d * (Int.gcd n d : Int) = d := Int.ediv_mul_cancel (Int.gcd_dvd_right n d)
  have h3 := lowD_bd (n := n) (d := d) (by omega)
  have h4 : 0 ≤ lowN n d := Int.ediv_nonneg hn.1 (by omega)
  have h5 : lowN n d ≤ n := Int.ediv_le_self _ hn.1
  generalize (Int.gcd n d : Int) = g at *
  generalize lowN n d = a at *
  generalize lowD n d = b at *
  refine ⟨h4, by omega, h3.1, by omega, ?_, fun q hq => ?_, fun q hq => ?_⟩
  · rw [← e2, ← e1]; grind
  · rw [← e1, ← e2, ← Int.mul_assoc] at hq
    exact Int.le_of_mul_le_mul_right hq hg
  · rw [← e1, ← e2, ← Int.mul_assoc] at hq
    exact Int.le_of_mul_le_mul_right hq hg
theorem box_bd {a b A B : Int} (ha : 0 ≤ a) (haA : a ≤ A) (hb : 0 ≤ b) (hbB : b ≤ B) : 0 ≤ a * b ∧ a * b ≤ A * B :=
  ⟨Int.mul_nonneg ha hb, Int.le_trans (Int.mul_le_mul_of_nonneg_right haA hb) (Int.mul_le_mul_of_nonneg_left hbB (by omega))⟩

set_option maxRecDepth 100000 in
set_option maxHeartbeats 4000000 in
theorem iceAdds_walk (ms : List (Int × Int)) (A : Option Addr) (c : Nat) (a0 a1 a2 : Int) (w : World) (hA : Marks w A ms) (hc : ms.length ≤ c) (hc0 : c ≤ maxLen) (h0 : (Lit.int .u16 a0).wf = true) (h1 : (Lit.int .u16 a1).wf = true) (h2 : (Lit.int .u16 a2).wf = true) :
    Calls Try.prog 10 #[.slice A ms.length c, .agg #[.int .u16 a0, .int .u16 a1, .int .u16 a2]] w fun e w' => e = .returned (.bool true) ∧ Below w.heap.size w w' := by
  have H : Hid (Clk w A c ms) := ⟨hA, hc, hc0⟩
  have hb0 := bounds_u16 h0
  have hb1 := bounds_u16 h1
  have hb2 := bounds_u16 h2
  clear hA hc hc0 h0 h1 h2
  have hB0 : Below w.heap.size w (w.alloc (.cells #[.int .u16 a0, .int .u16 a1, .int .u16 a2] 55)) := (by repeat (first | with_reducible exact Below.refl _ _ | with_reducible assumption | refine below_drewN ?_ _ | with_reducible refine Below.drew ?_ | (refine Below.setCell ?_ (by first | (simp; done) | (simp; omega) | omega) _) | (refine Below.alloc ?_ (by first | (simp; done) | (simp; omega) | omega) _)))
  by_cases hm : 60 < ms.length
  · have hm1 : decide (60 < ms.length) = true := decide_eq_true hm
    go_enter Try.func10, Try.ntmps10
    go_wp2_with (first
      | (go_at_call 17; refine (lawLong_any _ _ _ _).mono ?_; rintro e w' ⟨rfl, rfl⟩)
      | (go_at_call 18; refine (sane_any _).mono ?_; rintro e w' ⟨rfl, hW⟩))
    go_ret
    exact ⟨rfl, hB0.trans (hW.mono (by simp))⟩
  have hm1 : decide (60 < ms.length) = false := decide_eq_false hm
  clear hm
  cases hv : viB ms with
  | false =>
    go_enter Try.func10, Try.ntmps10
    go_wp2_with (first
      | (go_at_call 17; refine (lawLong_any _ _ _ _).mono ?_; rintro e w' ⟨rfl, rfl⟩)
      | (go_at_call 22; refine (refValid_any ms _ _ _ (H.out.below hB0).marks H.out.len).mono ?_; rintro e w1 ⟨rfl, n, rfl⟩)
      | (go_at_call 18; refine (sane_any _).mono ?_; rintro e w' ⟨rfl, hW⟩))
    go_ret
    exact ⟨rfl, Below.trans (below_drewN hB0 n) (hW.mono (by simp))⟩
  | true =>
  have HV := Lib.hid hv
  have hlen := (mt_ok hv).2
  have s0 : IntKind.i64.wrap a0 = a0 := IntWalk.i64_in _ (by omega)
  have s1 : IntKind.i64.wrap a1 = a1 := IntWalk.i64_in _ (by omega)
  have s2 : IntKind.i64.wrap a2 = a2 := IntWalk.i64_in _ (by omega)
  have hxb := modF (a := a0) (n := (mtL ms).length) (by omega)
  have hyb := modF (a := a1) (n := (mtL ms).length) (by omega)
  have hzb := modF (a := a2) (n := (mtL ms).length) (by omega)
  have hn1 : ((mtL ms).length : Int) + 1 ≠ 0 := by omega
  have hn2 : (((mtL ms).length : Int) + 1 == 0) = false := by simp; omega
  generalize hx : a0 % (((mtL ms).length : Int) + 1) = x at hxb
  generalize hy : a1 % (((mtL ms).length : Int) + 1) = y at hyb
  generalize hz : a2 % (((mtL ms).length : Int) + 1) = z at hzb
  obtain ⟨mn, lw, mx, hi, q1, q2, q3, q4, q5, q6, q7, q8, q9, q10⟩ := add_md (x := x) (y := y) (z := z)
  have hlw := q9 (by omega) (by omega) (by omega)
  have hhi := q10 (mtL ms).length (by omega) (by omega) (by omega)
  have s3 : IntKind.i64.wrap (x + y) = x + y := IntWalk.i64_in _ (by omega)
  have s4 : IntKind.i64.wrap (x + y + z) = x + y + z := IntWalk.i64_in _ (by omega)
  have s5 : IntKind.i64.wrap (x + y + z - lw) = x + y + z - lw := IntWalk.i64_in _ (by omega)
  obtain ⟨md, s6, hmd0, hmd1⟩ : ∃ md : Int, IntKind.i64.wrap (x + y + z - lw - hi) = md ∧ lw ≤ md ∧ md ≤ hi := ⟨_, rfl, by rw [IntWalk.i64_in _ (by omega)]; omega, by rw [IntWalk.i64_in _ (by omega)]; omega⟩
  have HLW : Hid (0 ≤ lw ∧ lw ≤ depthN ms) := Lib.hid (by unfold depthN; omega)
  have HHI : Hid (0 ≤ hi ∧ hi ≤ depthN ms) := Lib.hid (by unfold depthN; omega)
  have HMD : Hid (0 ≤ md ∧ md ≤ depthN ms) := Lib.hid (by unfold depthN; omega)
  clear q5 q6 q7 q8 q9 q10
  have TA : Hid True := Lib.hid trivial
  have TB : Hid True := Lib.hid trivial
  have TC : Hid True := Lib.hid trivial
  have hlh : lw ≤ hi := by omega
  have HLM : Hid (lw ≤ md ∧ md ≤ hi ∧ lw ≤ hi) := Lib.hid (by omega)
  have d0 : ((mtL ms).length != (mtL ms).length) = false := by simp
  have d1 : (((mtL ms).length : Int) != ((mtL ms).length : Int)) = false := by simp
  by_cases heq : lw = hi
  · have e1 : (lw == hi) = true := by simpa using heq
    have HNE := Lib.hid heq
    clear heq
    go_enter Try.func10, Try.ntmps10
    go_wp2_with (first
      | (go_at_call 17; refine (lawLong_any _ _ _ _).mono ?_; rintro e w' ⟨rfl, rfl⟩)
      | (go_at_call 22; refine (refValid_any ms _ _ _ (H.out.below hB0).marks H.out.len).mono ?_; rintro e w1 ⟨rfl, n, rfl⟩)
      | (go_at_call 19; refine (iceDepth_any ms _ _ _ (H.out.below (below_drewN hB0 n))).mono ?_; rintro e w1 ⟨r0, E0, rfl, hB1, hF1⟩; obtain rfl : E0 = 0 := hF1.out.2.trans (depthE_ok HV.out); obtain rfl : r0 = ((mtL ms).length : Int) := hF1.out.1.trans (depthR_of HV.out); have hW1 : Below w.heap.size w w1 := Below.trans (below_drewN hB0 n) (hB1.mono (by simp)); have c0 := (hB1.cell (p := ⟨w.heap.size, 0, none⟩) (by simp)).trans (show World.cell? _ _ = some (.int .u16 a0) by go_simp); have c1 := (hB1.cell (p := ⟨w.heap.size, 1, none⟩) (by simp)).trans (show World.cell? _ _ = some (.int .u16 a1) by go_simp); have c2 := (hB1.cell (p := ⟨w.heap.size, 2, none⟩) (by simp)).trans (show World.cell? _ _ = some (.int .u16 a2) by go_simp); have hz1 := hB1.size; simp at hz1; clear hB1 hF1)
      | (go_at_call 58; refine (metres_any ms _ _ _ (H.out.below hW1).marks HV.out).mono ?_; rintro e w2 ⟨A2, c2', xs, rfl, hO, hB2, hx2⟩; obtain rfl := hx2.out; have hW2 : Below w.heap.size w w2 := below_step hW1 hB2; have c0 := (hB2.cell (p := ⟨w.heap.size, 0, none⟩) (by simp; omega)).trans c0; have c1 := (hB2.cell (p := ⟨w.heap.size, 1, none⟩) (by simp; omega)).trans c1; have c2 := (hB2.cell (p := ⟨w.heap.size, 2, none⟩) (by simp; omega)).trans c2; clear hB2 hx2 hO))
    go_quiet (fail)
    go_wp2_with (first
      | (go_at_call 25; clear TA; refine (iceLoss_any ms _ _ lw hi _ (H.out.below (below_drewN hW2 _))).mono ?_; rintro e w3 ⟨r, E, rfl, hB3, hF3⟩; obtain ⟨e3, h3, h30, h31⟩ := lossF HV.out HLW.out HHI.out hF3.out; subst e3; have H3 := Lib.hid h3; clear h3 hF3; have hW3 : Below w.heap.size w w3 := Below.trans (below_drewN hW2 _) (hB3.mono (by have := hW2.size; simp; omega)))
      | (go_at_call 25; clear TB; refine (iceLoss_any ms _ _ md lw _ (H.out.below hW3)).mono ?_; rintro e w4 ⟨r4, E, rfl, hB4, hF4⟩; obtain ⟨e4, h4, h40, h41⟩ := lossF HV.out HMD.out HLW.out hF4.out; subst e4; have H4 := Lib.hid h4; clear h4 hF4; have hW4 := below_step hW3 hB4)
      | (go_at_call 25; clear TC; refine (iceLoss_any ms _ _ md hi _ (H.out.below hW4)).mono ?_; rintro e w5 ⟨r5, E, rfl, hB5, hF5⟩; obtain ⟨e5, h5, h50, h51⟩ := lossF HV.out HMD.out HHI.out hF5.out; subst e5; have H5 := Lib.hid h5; clear h5 hF5; have hW5 := below_step hW4 hB5)
      | (go_at_call 25; refine (iceLoss_any ms _ _ hi lw _ (H.out.below hW5)).mono ?_; rintro e w6 ⟨r6, E, rfl, hB6, hF6⟩; obtain ⟨e6, h6, h60, h61⟩ := lossF HV.out HHI.out HLW.out hF6.out; subst e6; have H6 := Lib.hid h6; clear h6 hF6; have hW6 := below_step hW5 hB6; have g1 : IntKind.i64.wrap (r4 + r5) = r := (by rw [IntWalk.i64_in _ (by omega), H3.out, H4.out, H5.out, (lossI_le HLM.out.2.2).1, (lossI_le HLM.out.1).2, (lossI_le HLM.out.2.1).1]; omega); have g2 : r6 = r := (by rw [H3.out, H6.out, (lossI_le HLM.out.2.2).1, (lossI_le HLM.out.2.2).2]); subst g2)
      | (go_at_call 27; refine (iceMean_any ms _ _ lw hi _ (H.out.below hW6)).mono ?_; rintro e w7 ⟨n7, d7, E7, rfl, hB7, hF7⟩; obtain rfl : E7 = 2 := hF7.out.2.2.trans (meanE_same (lossE_ok HV.out HLW.out HHI.out) HNE.out); have hW7 := below_step hW6 hB7; have g3 : r6 = 0 := (by rw [H3.out, HNE.out]; unfold lossI; simp); subst g3; have hz7 := hW7.size)
      | (go_at_call 18; refine (sane_any _).mono ?_; rintro e w9 ⟨rfl, hB9⟩)
      | fail)
    go_ret
    exact ⟨rfl, Below.trans (show Below w.heap.size w (w7.alloc (.cells #[.int .i64 n7, .int .i64 d7] 31)) from (by repeat (first | with_reducible exact Below.refl _ _ | with_reducible assumption | refine below_drewN ?_ _ | with_reducible refine Below.drew ?_ | (refine Below.setCell ?_ (by first | (simp; done) | (simp; omega) | omega) _) | (refine Below.alloc ?_ (by first | (simp; done) | (simp; omega) | omega) _)))) (hB9.mono (by simp; omega))⟩
  · have e1 : (lw == hi) = false := by simpa using heq
    have HNE := Lib.hid heq
    clear heq
    go_enter Try.func10, Try.ntmps10
    go_wp2_with (first
      | (go_at_call 17; refine (lawLong_any _ _ _ _).mono ?_; rintro e w' ⟨rfl, rfl⟩)
      | (go_at_call 22; refine (refValid_any ms _ _ _ (H.out.below hB0).marks H.out.len).mono ?_; rintro e w1 ⟨rfl, n, rfl⟩)
      | (go_at_call 19; refine (iceDepth_any ms _ _ _ (H.out.below (below_drewN hB0 n))).mono ?_; rintro e w1 ⟨r0, E0, rfl, hB1, hF1⟩; obtain rfl : E0 = 0 := hF1.out.2.trans (depthE_ok HV.out); obtain rfl : r0 = ((mtL ms).length : Int) := hF1.out.1.trans (depthR_of HV.out); have hW1 : Below w.heap.size w w1 := Below.trans (below_drewN hB0 n) (hB1.mono (by simp)); have c0 := (hB1.cell (p := ⟨w.heap.size, 0, none⟩) (by simp)).trans (show World.cell? _ _ = some (.int .u16 a0) by go_simp); have c1 := (hB1.cell (p := ⟨w.heap.size, 1, none⟩) (by simp)).trans (show World.cell? _ _ = some (.int .u16 a1) by go_simp); have c2 := (hB1.cell (p := ⟨w.heap.size, 2, none⟩) (by simp)).trans (show World.cell? _ _ = some (.int .u16 a2) by go_simp); have hz1 := hB1.size; simp at hz1; clear hB1 hF1)
      | (go_at_call 58; refine (metres_any ms _ _ _ (H.out.below hW1).marks HV.out).mono ?_; rintro e w2 ⟨A2, c2', xs, rfl, hO, hB2, hx2⟩; obtain rfl := hx2.out; have hW2 : Below w.heap.size w w2 := below_step hW1 hB2; have c0 := (hB2.cell (p := ⟨w.heap.size, 0, none⟩) (by simp; omega)).trans c0; have c1 := (hB2.cell (p := ⟨w.heap.size, 1, none⟩) (by simp; omega)).trans c1; have c2 := (hB2.cell (p := ⟨w.heap.size, 2, none⟩) (by simp; omega)).trans c2; clear hB2 hx2 hO))
    go_quiet (fail)
    go_wp2_with (first
      | (go_at_call 25; clear TA; refine (iceLoss_any ms _ _ lw hi _ (H.out.below (below_drewN hW2 _))).mono ?_; rintro e w3 ⟨r, E, rfl, hB3, hF3⟩; obtain ⟨e3, h3, h30, h31⟩ := lossF HV.out HLW.out HHI.out hF3.out; subst e3; have H3 := Lib.hid h3; clear h3 hF3; have hW3 : Below w.heap.size w w3 := Below.trans (below_drewN hW2 _) (hB3.mono (by have := hW2.size; simp; omega)))
      | (go_at_call 25; clear TB; refine (iceLoss_any ms _ _ md lw _ (H.out.below hW3)).mono ?_; rintro e w4 ⟨r4, E, rfl, hB4, hF4⟩; obtain ⟨e4, h4, h40, h41⟩ := lossF HV.out HMD.out HLW.out hF4.out; subst e4; have H4 := Lib.hid h4; clear h4 hF4; have hW4 := below_step hW3 hB4)
      | (go_at_call 25; clear TC; refine (iceLoss_any ms _ _ md hi _ (H.out.below hW4)).mono ?_; rintro e w5 ⟨r5, E, rfl, hB5, hF5⟩; obtain ⟨e5, h5, h50, h51⟩ := lossF HV.out HMD.out HHI.out hF5.out; subst e5; have H5 := Lib.hid h5; clear h5 hF5; have hW5 := below_step hW4 hB5)
      | (go_at_call 25; refine (iceLoss_any ms _ _ hi lw _ (H.out.below hW5)).mono ?_; rintro e w6 ⟨r6, E, rfl, hB6, hF6⟩; obtain ⟨e6, h6, h60, h61⟩ := lossF HV.out HHI.out HLW.out hF6.out; subst e6; have H6 := Lib.hid h6; clear h6 hF6; have hW6 := below_step hW5 hB6; have g1 : IntKind.i64.wrap (r4 + r5) = r := (by rw [IntWalk.i64_in _ (by omega), H3.out, H4.out, H5.out, (lossI_le HLM.out.2.2).1, (lossI_le HLM.out.1).2, (lossI_le HLM.out.2.1).1]; omega); have g2 : r6 = r := (by rw [H3.out, H6.out, (lossI_le HLM.out.2.2).1, (lossI_le HLM.out.2.2).2]); subst g2)
      | (go_at_call 27; refine (iceMean_any ms _ _ lw hi _ (H.out.below hW6)).mono ?_; rintro e w7 ⟨n7, d7, E7, rfl, hB7, hF7⟩; obtain rfl : E7 = 0 := hF7.out.2.2.trans (meanE_ok (lossE_ok HV.out HLW.out HHI.out) HNE.out); have hW7 := below_step hW6 hB7)
      | fail)
    have hm0 : Below w.heap.size w (w7.alloc (.cells #[.int .i64 n7, .int .i64 d7] 31)) := by have hz7 := hW7.size; exact (by repeat (first | with_reducible exact Below.refl _ _ | with_reducible assumption | refine below_drewN ?_ _ | with_reducible refine Below.drew ?_ | (refine Below.setCell ?_ (by first | (simp; done) | (simp; omega) | omega) _) | (refine Below.alloc ?_ (by first | (simp; done) | (simp; omega) | omega) _)))
    have k0 : (w7.alloc (.cells #[.int .i64 n7, .int .i64 d7] 31)).cell? ⟨w7.heap.size, 0, none⟩ = some (.int .i64 n7) := by go_simp
    have k1 : (w7.alloc (.cells #[.int .i64 n7, .int .i64 d7] 31)).cell? ⟨w7.heap.size, 1, none⟩ = some (.int .i64 d7) := by go_simp
    have k2 : w7.heap.size < (w7.alloc (.cells #[.int .i64 n7, .int .i64 d7] 31)).heap.size := by simp
    have hnd : n7 = lowN r6 (hi - lw) ∧ d7 = lowD r6 (hi - lw) := by
      have e0 := meanE_ok (lossE_ok HV.out HLW.out HHI.out) HNE.out
      have hfar : farI lw hi = hi - lw := by have := HLM.out.2.2; unfold farI; omega
      rw [hF7.out.1, hF7.out.2.1, meanN, meanD, if_pos e0, if_pos e0, hfar, ← H3.out]
      exact ⟨rfl, rfl⟩
    have hlt : lw < hi := by have := HNE.out; omega
    have hlow := low_facts (n := r6) (d := hi - lw) ⟨h30, h31⟩ ⟨by omega, by omega⟩
    rw [← hnd.1, ← hnd.2] at hlow
    have HLOW := Lib.hid hlow
    obtain ⟨f0, f1, f2, f3, _, _, _⟩ := hlow
    clear hnd hF7
    generalize w7.alloc (.cells #[.int .i64 n7, .int .i64 d7] 31) = wm at hm0 k0 k1 k2 ⊢
    go_loopw [22, 23, 24] (fun vl vh vm wr => ∃ (lo hg : Int) (k : Nat), vl = .int .i64 lo ∧ vh = .int .i64 hg ∧ vm = .int .i64 k ∧ 0 ≤ lo ∧ lo ≤ 100 ∧ 0 ≤ hg ∧ hg ≤ 100 ∧ lw ≤ k ∧ (k : Int) ≤ hi ∧ Below wm.heap.size wm wr ∧ Hid (DimsOK (mtL ms) lw k lo hg)) (fun _ _ vm _ => hi.toNat - (intOf vm).toNat)
    case atStart =>
      have e : ((lw.toNat : Nat) : Int) = lw := by omega
      exact ⟨100, 0, lw.toNat, rfl, rfl, by rw [e], by omega, by omega, by omega, by omega, by omega, by omega, Below.refl _ _, by show DimsOK _ _ _ _ _; rw [e]; exact dims_start⟩
    case round =>
      obtain ⟨lo, hg, k, rfl, rfl, rfl, hl0, hl1, hh0, hh1, hk0, hk1, hB, hD⟩ := hrel
      have hW := hm0.trans (hB.mono hm0.size)
      by_cases hkl : (k : Int) < hi
      · have t1 : decide ((k : Int) < hi) = true := decide_eq_true hkl
        obtain ⟨d, hd⟩ := getElem?_of_lt (show k < (mtL ms).length by omega)
        have hdb := (mt_ok HV.out).1 d (List.mem_of_getElem? hd)
        have HDD := Lib.hid hd
        clear hd
        obtain ⟨nlo, u1, hnl⟩ : ∃ nlo, (if d < lo then d else lo) = nlo ∧ 0 ≤ nlo ∧ nlo ≤ 100 := ⟨_, rfl, by split <;> omega, by split <;> omega⟩
        obtain ⟨nhg, u2, hnh⟩ : ∃ nhg, (if hg < d then d else hg) = nhg ∧ 0 ≤ nhg ∧ nhg ≤ 100 := ⟨_, rfl, by split <;> omega, by split <;> omega⟩
        have HU := Lib.hid (And.intro u1 u2)
        go_wp2_with (go_at_call 23; refine (iceDim_any ms _ _ (k : Int) _ (H.out.below hW)).mono ?_; rintro e w8 ⟨r8, E8, rfl, hB8, hF8⟩; obtain rfl : E8 = 0 := hF8.out.2.trans (dimE_ok HV.out (List.getElem?_eq_some_iff.1 HDD.out).1).2; obtain rfl : r8 = d := hF8.out.1.trans (dimR_ok HV.out HDD.out); have hB9 := below_step hB hB8)
        go_roundw
        case rel => exact ⟨nlo, nhg, k + 1, rfl, rfl, by go_num, hnl.1, hnl.2, hnh.1, hnh.2, by omega, by omega, hB9, by show DimsOK _ _ _ _ _; rw [← HU.out.1, ← HU.out.2]; exact dims_next hD.out HLW.out.1 hk0 HDD.out⟩
        case measure => simp [intOf]; omega
      · have t1 : decide ((k : Int) < hi) = false := decide_eq_false hkl
        obtain rfl : (k : Int) = hi := by omega
        have j0 := (hB.cell (p := ⟨w7.heap.size, 0, none⟩) k2).trans k0
        have j1 := (hB.cell (p := ⟨w7.heap.size, 1, none⟩) k2).trans k1
        have x1 := box_bd (a := n7) (b := (k : Int) - lw) (A := 60000) (B := 600) f0 f1 (by omega) (by omega)
        have x2 := box_bd (a := r6) (b := d7) (A := 60000) (B := 600) h30 h31 (by omega) f3
        have x3 := box_bd (a := lo) (b := d7) (A := 100) (B := 600) hl0 hl1 (by omega) f3
        have x4 := box_bd (a := hg) (b := d7) (A := 100) (B := 600) hh0 hh1 (by omega) f3
        have y1 : IntKind.i64.wrap ((k : Int) - lw) = (k : Int) - lw := IntWalk.i64_in _ (by omega)
        have y2 : IntKind.i64.wrap (n7 * ((k : Int) - lw)) = n7 * ((k : Int) - lw) := IntWalk.i64_in _ (by omega)
        have y3 : IntKind.i64.wrap (r6 * d7) = r6 * d7 := IntWalk.i64_in _ (by omega)
        have y4 : IntKind.i64.wrap (lo * d7) = lo * d7 := IntWalk.i64_in _ (by omega)
        have y5 : IntKind.i64.wrap (hg * d7) = hg * d7 := IntWalk.i64_in _ (by omega)
        have v1 : decide (1 ≤ d7) = true := decide_eq_true f2
        have v2 : decide (d7 ≤ 600) = true := decide_eq_true f3
        have v3 : (n7 * ((k : Int) - lw) == r6 * d7) = true := by rw [HLOW.out.2.2.2.2.1]; simp
        have hDD := hD.out
        unfold DimsOK at hDD
        rw [← H3.out] at hDD
        have v4 : decide (lo * d7 ≤ n7) = true := decide_eq_true (HLOW.out.2.2.2.2.2.1 lo hDD.1)
        have v5 : decide (n7 ≤ hg * d7) = true := decide_eq_true (HLOW.out.2.2.2.2.2.2 hg hDD.2)
        clear hDD x1 x2 x3 x4
        go_wp2_with (go_at_call 18; refine (sane_any _).mono ?_; rintro e w9 ⟨rfl, hB9⟩)
        go_ret
        exact ⟨rfl, below_step hW hB9⟩
end Go.Proofs.Ytmndfcjkokolbaa
