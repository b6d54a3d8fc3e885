/-
  Contracts: firnref04's up, down, Lit, Down, Up.
-/
import Derived.Test.YtmndfcjkokolbaaLit
namespace Go.Proofs.Ytmndfcjkokolbaa
open Go.RowKit Go.Shelf

set_option maxRecDepth 100000 in
set_option maxHeartbeats 400000 in
theorem refdown_any (l : List Int) (A : Option Addr) (c : Nat) (f : Nat) (s : Int) (w : World) (h : Ints w A l) (hd : dimsB l) (hf : f ≤ l.length) (hs0 : 0 ≤ s) (hs1 : s ≤ 1000000) :
    Calls Try.prog 73 #[.slice A l.length c, .int .i64 f, .int .i64 s] w fun e w' => e = .returned (.int .i64 (dnN l f s)) ∧ ∃ n, w' = w.drewN n := by
  have H := Lib.hid h
  have HD := Lib.hid hd
  have hlen := hd.2
  clear h hd
  go_enter Try.func73, Try.ntmps73
  go_wp2
  go_loopw [1, 2] (fun i v wr => ∃ k n : Nat, k ≤ l.length ∧ i = .int .i64 k ∧ wr = w.drewN n ∧ ∃ r : Int, v = .int .i64 r ∧ 0 ≤ r ∧ r ≤ 1000000 ∧ Hid (dnN l f s = dnN l k r)) (fun i _ _ => l.length - (intOf i).toNat)
  case atStart => exact ⟨f, 0, hf, rfl, rfl, s, rfl, hs0, hs1, rfl⟩
  case round =>
    obtain ⟨k, n, hk, rfl, rfl, r, rfl, hr0, hr1, hD⟩ := hrel
    by_cases hlt : k < l.length
    · obtain ⟨ad, z, rfl, hbk, hz, hc⟩ := H.out.get hlt
      have hzb := HD.out.1 z (List.mem_of_getElem? hz.out)
      have t0 : decide ((k : Int) < (l.length : Int)) = true := decide_eq_true (by omega)
      have i1 : (k : Int) < (l.length : Int) := by omega
      by_cases ht : z ≤ r
      · have t1 : decide (z ≤ r) = true := decide_eq_true ht
        have HS := Lib.hid (dn_step hz.out ht)
        go_wp2
        go_roundw
        case rel => exact ⟨k + 1, n, by omega, by go_num, rfl, r - z, by go_num, by omega, by omega, hD.out.trans HS.out⟩
        case measure => simp [intOf]; omega
      · have t1 : decide (z ≤ r) = false := decide_eq_false ht
        have HS := Lib.hid (dn_stop hz.out ht)
        go_wp2
        go_ret
        exact ⟨ret_int (by rw [hD.out, HS.out]), _, rfl⟩
    · have t0 : decide ((k : Int) < (l.length : Int)) = false := decide_eq_false (by omega)
      go_wp2
      go_ret
      exact ⟨ret_int (by rw [hD.out, dn_end (by omega)]), _, rfl⟩

set_option maxRecDepth 100000 in
set_option maxHeartbeats 400000 in
theorem refup_any (l : List Int) (A : Option Addr) (c : Nat) (f : Nat) (s : Int) (w : World) (h : Ints w A l) (hd : dimsB l) (hf : f ≤ l.length) (hs0 : 0 ≤ s) (hs1 : s ≤ 1000000) :
    Calls Try.prog 72 #[.slice A l.length c, .int .i64 f, .int .i64 s] w fun e w' => e = .returned (.int .i64 (upN l f s)) ∧ ∃ n, w' = w.drewN n := by
  have H := Lib.hid h
  have HD := Lib.hid hd
  have hlen := hd.2
  clear h hd
  go_enter Try.func72, Try.ntmps72
  go_wp2
  go_loopw [1, 2] (fun i v wr => ∃ k n : Nat, k ≤ l.length ∧ i = .int .i64 k ∧ wr = w.drewN n ∧ ∃ r : Int, v = .int .i64 r ∧ 0 ≤ r ∧ r ≤ 1000000 ∧ Hid (upN l f s = upN l k r)) (fun i _ _ => (intOf i).toNat)
  case atStart => exact ⟨f, 0, hf, rfl, rfl, s, rfl, hs0, hs1, rfl⟩
  case round =>
    obtain ⟨k', n, hk, rfl, rfl, r, rfl, hr0, hr1, hD⟩ := hrel
    cases k' with
    | zero =>
      go_wp2
      go_ret
      exact ⟨ret_int (by rw [hD.out, up_end]), _, rfl⟩
    | succ k =>
      obtain ⟨ad, z, rfl, hbk, hz, hc⟩ := H.out.get (show k < l.length by omega)
      have hzb := HD.out.1 z (List.mem_of_getElem? hz.out)
      have s1 : IntKind.i64.wrap ((k : Int) + 1 - 1) = k := by rw [Int.add_sub_cancel]; exact IntWalk.i64_in _ (by omega)
      have t0 : decide ((0 : Int) < (k : Int) + 1) = true := decide_eq_true (by omega)
      have i1 : (k : Int) < (l.length : Int) := by omega
      by_cases ht : z ≤ r
      · have t1 : decide (z ≤ r) = true := decide_eq_true ht
        have HS := Lib.hid (up_step hz.out ht)
        go_wp2
        go_roundw
        case rel => exact ⟨k, n, by omega, by go_num, rfl, r - z, by go_num, by omega, by omega, hD.out.trans HS.out⟩
        case measure => simp [intOf]
      · have t1 : decide (z ≤ r) = false := decide_eq_false ht
        have HS := Lib.hid (up_stop hz.out ht)
        go_wp2
        go_ret
        exact ⟨ret_int (by rw [hD.out, HS.out]; rfl), _, rfl⟩

theorem litE_ok {ms : List (Int × Int)} {a s : Int} (hv : viB ms = true) (ha : 0 ≤ a ∧ a ≤ depthN ms) (hs : 0 ≤ s ∧ s ≤ 100000) : litE ms a s = 0 :=
  lookByE_ok (lookE_ok hv (by simp [inB, depthN] at *; omega)) (by simp [inB]; omega)
theorem litE_arg1 {ms : List (Int × Int)} {a s : Int} (hv : viB ms = true) (ha : ¬ (0 ≤ a ∧ a ≤ depthN ms)) : litE ms a s = 2 := by
  have e : lookE ms [a] = 2 := lookE_arg hv (by simp [inB, depthN] at *; omega)
  rw [litE, lookByE_no (by rw [e]; decide), e]
theorem litE_arg2 {ms : List (Int × Int)} {a s : Int} (hv : viB ms = true) (ha : 0 ≤ a ∧ a ≤ depthN ms) (hs : ¬ (0 ≤ s ∧ s ≤ 100000)) : litE ms a s = 2 :=
  lookByE_arg (lookE_ok hv (by simp [inB, depthN] at *; omega)) (by simp [inB]; omega)
theorem litE_ice {ms : List (Int × Int)} {a s : Int} (hv : viB ms = false) : litE ms a s = 40 := by
  have e : lookE ms [a] = 40 := lookE_ice hv
  rw [litE, lookByE_no (by rw [e]; decide), e]
theorem litU_no {ms : List (Int × Int)} {a s E : Int} (h : litE ms a s = E) (hE : E ≠ 0) : 0 = litU ms a s := by rw [litU, if_neg (by rw [h]; exact hE)]
theorem litD_no {ms : List (Int × Int)} {a s E : Int} (h : litE ms a s = E) (hE : E ≠ 0) : 0 = litD ms a s := by rw [litD, if_neg (by rw [h]; exact hE)]

set_option maxRecDepth 100000 in
set_option maxHeartbeats 400000 in
theorem refLit_any (ms : List (Int × Int)) (A : Option Addr) (c : Nat) (a s : Int) (w : World) (h : Clk w A c ms) :
    Calls Try.prog 30 #[.slice A ms.length c, .int .i64 a, .int .i64 s] w fun e w' => ∃ u d E : Int, e = .returned (.tuple #[.int .i64 u, .int .i64 d, .int .i64 E]) ∧ Below w.heap.size w w' ∧ Hid (u = litU ms a s ∧ d = litD ms a s ∧ E = litE ms a s) := by
  have H := Lib.hid h
  clear h
  cases hv : viB ms with
  | false =>
    go_enter Try.func30, Try.ntmps30
    go_wp2_with (go_at_call 22; refine (refValid_any ms _ _ _ H.out.marks H.out.len).mono ?_; rintro e w1 ⟨rfl, n, rfl⟩)
    go_ret3
    have e40 : litE ms a s = 40 := litE_ice hv
    exact ⟨_, _, _, rfl, (by repeat (first | with_reducible exact Below.refl _ _ | with_reducible assumption | refine below_drewN ?_ _ | with_reducible refine Below.drew ?_ | (refine Below.setCell ?_ (by first | (simp; done) | (simp; omega) | omega) _) | (refine Below.alloc ?_ (by first | (simp; done) | (simp; omega) | omega) _))), litU_no e40 (by decide), litD_no e40 (by decide), e40.symm⟩
  | true =>
    have HV := Lib.hid hv
    have TA : Hid True := Lib.hid trivial
    by_cases ha : 0 ≤ a ∧ a ≤ depthN ms
    · have HA := Lib.hid ha
      have HA2 := Lib.hid (decide_eq_true ha)
      by_cases hs : 0 ≤ s ∧ s ≤ 100000
      · have HS := Lib.hid hs
        have HS2 := Lib.hid (decide_eq_true hs)
        obtain ⟨x, rfl⟩ := Int.eq_ofNat_of_zero_le ha.1
        have hx1 : x ≤ (mtL ms).length := by have := HA.out.2; unfold depthN at this; omega
        clear ha hs
        go_enter Try.func30, Try.ntmps30
        go_wp2_with (first
          | (go_at_call 22; refine (refValid_any ms _ _ _ H.out.marks H.out.len).mono ?_; rintro e w1 ⟨rfl, n, rfl⟩)
          | (go_at_call 58; refine (metres_any ms _ _ _ (H.out.below (below_drewN (Below.refl _ _) n)).marks HV.out).mono ?_; rintro e w2 ⟨A2, c2, xs, rfl, hO, hB2, hx⟩; obtain rfl := hx.out; have hW2 := below_step (below_drewN (Below.refl w.heap.size w) n) hB2)
          | (go_at_call 65; clear TA; refine (refWithin_any _ _ _ _).mono ?_; rintro e w' ⟨rfl, rfl⟩; rw [show decide ((0 : Int) ≤ (x : Int) ∧ (x : Int) ≤ ((mtL ms).length : Int)) = true from HA2.out])
          | (go_at_call 65; refine (refWithin_any _ _ _ _).mono ?_; rintro e w' ⟨rfl, rfl⟩; rw [HS2.out])
          | (go_at_call 72; refine (refup_any _ _ _ x _ _ hO.ints (mt_ok HV.out) hx1 HS.out.1 (by have := HS.out.2; omega)).mono ?_; rintro e w3 ⟨rfl, m, rfl⟩)
          | (go_at_call 73; refine (refdown_any _ _ _ x _ _ (hO.ints.below (below_drewN (Below.refl _ _) m)) (mt_ok HV.out) hx1 HS.out.1 (by have := HS.out.2; omega)).mono ?_; rintro e w4 ⟨rfl, m2, rfl⟩))
        go_ret3
        have e0 := litE_ok HV.out HA.out HS.out
        exact ⟨_, _, _, rfl, below_drewN hW2 _, by rw [litU, if_pos e0]; rfl, by rw [litD, if_pos e0]; rfl, e0.symm⟩
      · have HS := Lib.hid hs
        have HS2 := Lib.hid (decide_eq_false hs)
        clear ha hs
        go_enter Try.func30, Try.ntmps30
        go_wp2_with (first
          | (go_at_call 22; refine (refValid_any ms _ _ _ H.out.marks H.out.len).mono ?_; rintro e w1 ⟨rfl, n, rfl⟩)
          | (go_at_call 58; refine (metres_any ms _ _ _ (H.out.below (below_drewN (Below.refl _ _) n)).marks HV.out).mono ?_; rintro e w2 ⟨A2, c2, xs, rfl, hO, hB2, hx⟩; obtain rfl := hx.out; have hW2 := below_step (below_drewN (Below.refl w.heap.size w) n) hB2)
          | (go_at_call 65; clear TA; refine (refWithin_any _ _ _ _).mono ?_; rintro e w' ⟨rfl, rfl⟩; rw [show decide ((0 : Int) ≤ a ∧ a ≤ ((mtL ms).length : Int)) = true from HA2.out])
          | (go_at_call 65; refine (refWithin_any _ _ _ _).mono ?_; rintro e w' ⟨rfl, rfl⟩; rw [HS2.out]))
        go_ret3
        have e2 := litE_arg2 HV.out HA.out HS.out
        exact ⟨_, _, _, rfl, hW2, litU_no e2 (by decide), litD_no e2 (by decide), e2.symm⟩
    · have HA := Lib.hid ha
      have HA2 := Lib.hid (decide_eq_false ha)
      clear ha
      go_enter Try.func30, Try.ntmps30
      go_wp2_with (first
        | (go_at_call 22; refine (refValid_any ms _ _ _ H.out.marks H.out.len).mono ?_; rintro e w1 ⟨rfl, n, rfl⟩)
        | (go_at_call 58; refine (metres_any ms _ _ _ (H.out.below (below_drewN (Below.refl _ _) n)).marks HV.out).mono ?_; rintro e w2 ⟨A2, c2, xs, rfl, hO, hB2, hx⟩; obtain rfl := hx.out; have hW2 := below_step (below_drewN (Below.refl w.heap.size w) n) hB2)
        | (go_at_call 65; clear TA; refine (refWithin_any _ _ _ _).mono ?_; rintro e w' ⟨rfl, rfl⟩; rw [show decide ((0 : Int) ≤ a ∧ a ≤ ((mtL ms).length : Int)) = false from HA2.out]))
      go_ret3
      have e2 := litE_arg1 (s := s) HV.out HA.out
      exact ⟨_, _, _, rfl, hW2, litU_no e2 (by decide), litD_no e2 (by decide), e2.symm⟩
set_option maxRecDepth 100000 in
theorem refDown_any (ms : List (Int × Int)) (A : Option Addr) (c : Nat) (a s : Int) (w : World) (h : Clk w A c ms) :
    Calls Try.prog 32 #[.slice A ms.length c, .int .i64 a, .int .i64 s] w fun e w' => ∃ d E : Int, e = .returned (.tuple #[.int .i64 d, .int .i64 E]) ∧ Below w.heap.size w w' ∧ Hid (d = litD ms a s ∧ E = litE ms a s) := by
  have H := Lib.hid h
  clear h
  go_enter Try.func32, Try.ntmps32
  go_wp2_with (go_at_call 30; refine (refLit_any ms _ _ _ _ _ H.out).mono ?_; rintro e w1 ⟨u, d, E, rfl, hB1, hE⟩)
  go_ret2
  exact ⟨_, _, rfl, hB1, hE.out.2⟩
set_option maxRecDepth 100000 in
theorem refUp_any (ms : List (Int × Int)) (A : Option Addr) (c : Nat) (a s : Int) (w : World) (h : Clk w A c ms) :
    Calls Try.prog 34 #[.slice A ms.length c, .int .i64 a, .int .i64 s] w fun e w' => ∃ d E : Int, e = .returned (.tuple #[.int .i64 d, .int .i64 E]) ∧ Below w.heap.size w w' ∧ Hid (d = litU ms a s ∧ E = litE ms a s) := by
  have H := Lib.hid h
  clear h
  go_enter Try.func34, Try.ntmps34
  go_wp2_with (go_at_call 30; refine (refLit_any ms _ _ _ _ _ H.out).mono ?_; rintro e w1 ⟨u, d, E, rfl, hB1, hE⟩)
  go_ret2
  exact ⟨_, _, rfl, hB1, hE.out.1, hE.out.2.2⟩
end Go.Proofs.Ytmndfcjkokolbaa
