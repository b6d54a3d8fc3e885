/-
  Contracts: firnref04's loss, Depth, Dim, Loss.
-/
import Derived.Test.YtmndfcjkokolbaaRef
namespace Go.Proofs.Ytmndfcjkokolbaa
open Go.RowKit Go.Shelf

theorem below_drew_ex {w w' : World} (h : ∃ n, w' = w.drewN n) : Below w.heap.size w w' := by
  obtain ⟨n, rfl⟩ := h; exact below_drewN (Below.refl _ _) n

set_option maxRecDepth 100000 in
set_option maxHeartbeats 400000 in
theorem refloss_any (l : List Int) (A : Option Addr) (c : Nat) (a b : Nat) (w : World) (h : Ints w A l) (hd : dimsB l) (ha : a ≤ l.length) (hb : b ≤ l.length) :
    Calls Try.prog 67 #[.slice A l.length c, .int .i64 a, .int .i64 b] w fun e w' => e = .returned (.int .i64 (lossI l a b)) ∧ ∃ n, w' = w.drewN n := by
  have H := Lib.hid h
  have HD := Lib.hid hd
  have hlen := hd.2
  obtain ⟨x, y, m1, m2, hxy, hy, hL⟩ : ∃ x y : Nat, (if a < b then (b : Int) else (a : Int)) = (y : Int) ∧ (if b < a then (b : Int) else (a : Int)) = (x : Int) ∧ x ≤ y ∧ y ≤ l.length ∧ lossI l a b = sumN l y - sumN l x := by
    by_cases hab : a ≤ b
    · exact ⟨a, b, by split <;> omega, by split <;> omega, hab, hb, loss_le hab⟩
    · exact ⟨b, a, by split <;> omega, by split <;> omega, by omega, ha, loss_ge (by omega)⟩
  have HL := Lib.hid hL
  clear h hd hL ha hb
  go_enter Try.func67, Try.ntmps67
  go_wp2
  go_loopw [7, 8] (fun s i wr => ∃ k n : Nat, x ≤ k ∧ k ≤ y ∧ i = .int .i64 k ∧ wr = w.drewN n ∧ ∃ t : Int, s = .int .i64 t ∧ 0 ≤ t ∧ t ≤ 60000 ∧ Hid (t = sumN l k - sumN l x)) (fun _ i _ => y - (intOf i).toNat)
  case atStart => exact ⟨x, 0, Nat.le_refl _, hxy, rfl, rfl, 0, rfl, Int.le_refl _, by omega, (Int.sub_self _).symm⟩
  case round =>
    obtain ⟨k, n, hk0, hk, rfl, rfl, t, rfl, ht0, ht1, hT⟩ := hrel
    by_cases hlt : k < y
    · obtain ⟨ad, z, rfl, hbk, hz, hc⟩ := H.out.get (show k < l.length by omega)
      have hzb := HD.out.1 z (List.mem_of_getElem? hz.out)
      have HS := Lib.hid (sumN_succ hz.out)
      have hb0 : 0 ≤ t + z ∧ t + z ≤ 60000 := by
        have e : t + z = sumN l (k + 1) - sumN l x := by rw [HS.out, hT.out]; omega
        have h1 := sumN_mono HD.out.1 (show x ≤ k + 1 by omega)
        have h2 := dims_bd HD.out (k + 1)
        have h3 := dims_bd HD.out x
        omega
      have i1 : (k : Int) < (l.length : Int) := by omega
      go_wp2
      go_roundw
      case rel => exact ⟨k + 1, n, by omega, by omega, by go_num, rfl, t + z, by go_num, by omega, by omega, (by rw [HS.out, hT.out]; omega : t + z = sumN l (k + 1) - sumN l x)⟩
      case measure => simp [intOf]; omega
    · obtain rfl : k = y := by omega
      go_wp2
      go_ret
      exact ⟨ret_int (by rw [HL.out, hT.out]), _, rfl⟩

theorem depthE_ok {ms : List (Int × Int)} (hv : viB ms = true) : lookE ms [] = 0 := lookE_ok hv rfl
theorem lossE_ok {ms : List (Int × Int)} {a b : Int} (hv : viB ms = true) (ha : 0 ≤ a ∧ a ≤ depthN ms) (hb : 0 ≤ b ∧ b ≤ depthN ms) : lossE ms a b = 0 :=
  lookE_ok hv (by simp [inB, depthN] at *; omega)
theorem lossE_arg1 {ms : List (Int × Int)} {a b : Int} (hv : viB ms = true) (ha : ¬ (0 ≤ a ∧ a ≤ depthN ms)) : lossE ms a b = 2 :=
  lookE_arg hv (by simp [inB, depthN] at *; omega)
theorem lossE_arg2 {ms : List (Int × Int)} {a b : Int} (hv : viB ms = true) (hb : ¬ (0 ≤ b ∧ b ≤ depthN ms)) : lossE ms a b = 2 :=
  lookE_arg hv (by simp [inB, depthN] at *; omega)
theorem lossR_of {ms : List (Int × Int)} {a b : Int} (h : lossE ms a b = 0) : lossR ms a b = lossI (mtL ms) a b := by rw [lossR, if_pos h]
theorem lossR_no {ms : List (Int × Int)} {a b E : Int} (h : lossE ms a b = E) (hE : E ≠ 0) : lossR ms a b = 0 := by rw [lossR, if_neg (by rw [h]; exact hE)]
theorem depthR_of {ms : List (Int × Int)} (hv : viB ms = true) : depthR ms = depthN ms := by rw [depthR, if_pos (depthE_ok hv)]
theorem depthR_no {ms : List (Int × Int)} (hv : viB ms = false) : depthR ms = 0 := by rw [depthR, if_neg (by rw [lookE_ice hv]; decide)]

set_option maxRecDepth 100000 in
theorem refDepth_any (ms : List (Int × Int)) (A : Option Addr) (c : Nat) (w : World) (h : Clk w A c ms) :
    Calls Try.prog 20 #[.slice A ms.length c] w fun e w' => ∃ r E : Int, e = .returned (.tuple #[.int .i64 r, .int .i64 E]) ∧ Below w.heap.size w w' ∧ Hid (r = depthR ms ∧ E = lookE ms []) := by
  have H := Lib.hid h
  clear h
  cases hv : viB ms with
  | false =>
    go_enter Try.func20, Try.ntmps20
    go_wp2_with (go_at_call 22; refine (refValid_any ms _ _ _ H.out.marks H.out.len).mono ?_; rintro e w1 ⟨rfl, n, rfl⟩)
    go_ret2
    exact ⟨_, _, rfl, (by repeat (first | with_reducible exact Below.refl _ _ | with_reducible assumption | refine below_drewN ?_ _ | with_reducible refine Below.drew ?_ | (refine Below.setCell ?_ (by first | (simp; done) | (simp; omega) | omega) _) | (refine Below.alloc ?_ (by first | (simp; done) | (simp; omega) | omega) _))), (depthR_no hv).symm, (lookE_ice hv).symm⟩
  | true =>
    have HV := Lib.hid hv
    go_enter Try.func20, Try.ntmps20
    go_wp2_with (first
      | (go_at_call 22; refine (refValid_any ms _ _ _ H.out.marks H.out.len).mono ?_; rintro e w1 ⟨rfl, n, rfl⟩)
      | (go_at_call 58; refine (metres_any ms _ _ _ (H.out.below (below_drewN (Below.refl _ _) n)).marks HV.out).mono ?_; rintro e w2 ⟨A2, c2, xs, rfl, hO, hB2, hx⟩))
    go_ret2
    exact ⟨_, _, rfl, below_step (below_drewN (Below.refl _ _) n) hB2, by rw [hx.out, depthR_of HV.out, depthN], (depthE_ok HV.out).symm⟩

set_option maxRecDepth 100000 in
set_option maxHeartbeats 400000 in
theorem refLoss_any (ms : List (Int × Int)) (A : Option Addr) (c : Nat) (a b : Int) (w : World) (h : Clk w A c ms) :
    Calls Try.prog 26 #[.slice A ms.length c, .int .i64 a, .int .i64 b] w fun e w' => ∃ r E : Int, e = .returned (.tuple #[.int .i64 r, .int .i64 E]) ∧ Below w.heap.size w w' ∧ Hid (r = lossR ms a b ∧ E = lossE ms a b) := by
  have H := Lib.hid h
  clear h
  cases hv : viB ms with
  | false =>
    go_enter Try.func26, Try.ntmps26
    go_wp2_with (go_at_call 22; refine (refValid_any ms _ _ _ H.out.marks H.out.len).mono ?_; rintro e w1 ⟨rfl, n, rfl⟩)
    go_ret2
    have e40 : lossE ms a b = 40 := lookE_ice hv
    exact ⟨_, _, rfl, (by repeat (first | with_reducible exact Below.refl _ _ | with_reducible assumption | refine below_drewN ?_ _ | with_reducible refine Below.drew ?_ | (refine Below.setCell ?_ (by first | (simp; done) | (simp; omega) | omega) _) | (refine Below.alloc ?_ (by first | (simp; done) | (simp; omega) | omega) _))), (lossR_no e40 (by decide)).symm, e40.symm⟩
  | true =>
    have HV := Lib.hid hv
    have TA : Hid True := Lib.hid trivial
    by_cases ha : 0 ≤ a ∧ a ≤ depthN ms
    · have HA := Lib.hid ha
      have HA2 := Lib.hid (decide_eq_true ha)
      by_cases hb : 0 ≤ b ∧ b ≤ depthN ms
      · have HB := Lib.hid hb
        have HB2 := Lib.hid (decide_eq_true hb)
        obtain ⟨x, rfl⟩ := Int.eq_ofNat_of_zero_le ha.1
        obtain ⟨y, rfl⟩ := Int.eq_ofNat_of_zero_le hb.1
        have hx1 : x ≤ (mtL ms).length := by have := HA.out.2; unfold depthN at this; omega
        have hy1 : y ≤ (mtL ms).length := by have := HB.out.2; unfold depthN at this; omega
        clear ha hb
        go_enter Try.func26, Try.ntmps26
        go_wp2_with (first
          | (go_at_call 22; refine (refValid_any ms _ _ _ H.out.marks H.out.len).mono ?_; rintro e w1 ⟨rfl, n, rfl⟩)
          | (go_at_call 58; refine (metres_any ms _ _ _ (H.out.below (below_drewN (Below.refl _ _) n)).marks HV.out).mono ?_; rintro e w2 ⟨A2, c2, xs, rfl, hO, hB2, hx⟩; obtain rfl := hx.out; have hW2 := below_step (below_drewN (Below.refl w.heap.size w) n) hB2)
          | (go_at_call 65; clear TA; refine (refWithin_any _ _ _ _).mono ?_; rintro e w' ⟨rfl, rfl⟩; rw [show decide ((0 : Int) ≤ (x : Int) ∧ (x : Int) ≤ ((mtL ms).length : Int)) = true from HA2.out])
          | (go_at_call 65; refine (refWithin_any _ _ _ _).mono ?_; rintro e w' ⟨rfl, rfl⟩; rw [show decide ((0 : Int) ≤ (y : Int) ∧ (y : Int) ≤ ((mtL ms).length : Int)) = true from HB2.out])
          | (go_at_call 67; refine (refloss_any _ _ _ x y _ hO.ints (mt_ok HV.out) hx1 hy1).mono ?_; rintro e w3 ⟨rfl, m, rfl⟩))
        go_ret2
        have e0 := lossE_ok HV.out HA.out HB.out
        exact ⟨_, _, rfl, below_drewN hW2 _, (lossR_of e0).symm, e0.symm⟩
      · have HB := Lib.hid hb
        have HB2 := Lib.hid (decide_eq_false hb)
        clear ha hb
        go_enter Try.func26, Try.ntmps26
        go_wp2_with (first
          | (go_at_call 22; refine (refValid_any ms _ _ _ H.out.marks H.out.len).mono ?_; rintro e w1 ⟨rfl, n, rfl⟩)
          | (go_at_call 58; refine (metres_any ms _ _ _ (H.out.below (below_drewN (Below.refl _ _) n)).marks HV.out).mono ?_; rintro e w2 ⟨A2, c2, xs, rfl, hO, hB2, hx⟩; obtain rfl := hx.out; have hW2 := below_step (below_drewN (Below.refl w.heap.size w) n) hB2)
          | (go_at_call 65; clear TA; refine (refWithin_any _ _ _ _).mono ?_; rintro e w' ⟨rfl, rfl⟩; rw [show decide ((0 : Int) ≤ a ∧ a ≤ ((mtL ms).length : Int)) = true from HA2.out])
          | (go_at_call 65; refine (refWithin_any _ _ _ _).mono ?_; rintro e w' ⟨rfl, rfl⟩; rw [show decide ((0 : Int) ≤ b ∧ b ≤ ((mtL ms).length : Int)) = false from HB2.out]))
        go_ret2
        have e2 := lossE_arg2 (a := a) HV.out HB.out
        exact ⟨_, _, rfl, hW2, (lossR_no e2 (by decide)).symm, e2.symm⟩
    · have HA := Lib.hid ha
      have HA2 := Lib.hid (decide_eq_false ha)
      clear ha
      go_enter Try.func26, Try.ntmps26
      go_wp2_with (first
        | (go_at_call 22; refine (refValid_any ms _ _ _ H.out.marks H.out.len).mono ?_; rintro e w1 ⟨rfl, n, rfl⟩)
        | (go_at_call 58; refine (metres_any ms _ _ _ (H.out.below (below_drewN (Below.refl _ _) n)).marks HV.out).mono ?_; rintro e w2 ⟨A2, c2, xs, rfl, hO, hB2, hx⟩; obtain rfl := hx.out; have hW2 := below_step (below_drewN (Below.refl w.heap.size w) n) hB2)
        | (go_at_call 65; clear TA; refine (refWithin_any _ _ _ _).mono ?_; rintro e w' ⟨rfl, rfl⟩; rw [show decide ((0 : Int) ≤ a ∧ a ≤ ((mtL ms).length : Int)) = false from HA2.out]))
      go_ret2
      have e2 := lossE_arg1 (b := b) HV.out HA.out
      exact ⟨_, _, rfl, hW2, (lossR_no e2 (by decide)).symm, e2.symm⟩
end Go.Proofs.Ytmndfcjkokolbaa
