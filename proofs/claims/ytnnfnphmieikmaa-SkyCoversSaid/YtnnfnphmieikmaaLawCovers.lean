/-
  The walk of SkyCovers: it returns true, whatever it is given.
-/
import Derived.Test.YtnnfnphmieikmaaLawCov1
namespace Go.Proofs.Ytnnfnphmieikmaa
open Go Go.RowKit Go.Shelf

set_option maxRecDepth 100000 in
set_option maxHeartbeats 1000000 in
theorem covers_limit (l : List (Int × Int)) (A : Option Addr) (c k : Nat) (o p : Int) (w : World) (H : Hid (Clk w A c l)) (hlong : ¬ 1000 < l.length) (VL : Hid (vaB l = true))
    (o0 : 0 ≤ o) (o1 : o ≤ 255) (EO : Hid (o % 5 = (k : Int)))
    (CCo : Hid (∀ (A : Option Addr) (c0 : Nat) (W : World), Marks W A l → Calls Try.prog 58 #[.slice A l.length c0, .int .i64 (k : Int)] W fun e w' => ∃ A' c', e = .returned (.tuple #[.slice A' ([] : List (Int × Int)).length c', .int .i64 4]) ∧ Clk w' A' c' [] ∧ Below W.heap.size W w')) :
    Calls Try.prog 15 #[.slice A l.length c, .int .u8 o, .int .u16 p] w fun e w' => e = .returned (.bool true) ∧ Below w.heap.size w w' := by
  have t1 : decide ((1000 : Int) < (l.length : Int)) = false := decide_eq_false (by omega)
  have hW0 : Below w.heap.size w w := Below.refl _ _
  clear hlong
  go_enter Try.func15, Try.ntmps15
  go_wp2_with (first
    | (go_at_call 40; refine (lawLong_any _ _ _ _ _).mono ?_; rintro e w' ⟨rfl, rfl⟩)
    | (go_at_call 44; with_reducible refine (refValid_any l _ _ _ (H.out.marks.below hW0) H.out.len).mono ?_; rintro e w1 ⟨he, hB1⟩; rw [VL.out] at he; subst he; have hW1 := below_step hW0 hB1; clear hB1)
    | fail)
  rw [EO.out]
  go_wp2_with (first
    | (go_at_call 58; with_reducible refine (CCo.out _ _ _ (H.out.marks.below hW1)).mono ?_; rintro e w2 ⟨A2, c2, rfl, hO2, hB2⟩; have hW2 := below_step hW1 hB2; clear hB2)
    | (go_at_call 28; refine (sane_any _).mono ?_; rintro e w9 ⟨rfl, hB9⟩)
    | fail)
  go_ret
  exact ⟨rfl, below_step hW2 hB9⟩
set_option maxRecDepth 100000 in
set_option maxHeartbeats 1000000 in
theorem skyCovers_walk (l : List (Int × Int)) (A : Option Addr) (c : Nat) (o p : Int) (w : World) (hA : Marks w A l) (hc : l.length ≤ c) (hc0 : c ≤ maxLen) (ho : (Lit.int .u8 o).wf = true) (hp : (Lit.int .u16 p).wf = true) :
    Calls Try.prog 15 #[.slice A l.length c, .int .u8 o, .int .u16 p] w fun e w' => e = .returned (.bool true) ∧ Below w.heap.size w w' := by
  have H : Hid (Clk w A c l) := ⟨hA, hc, hc0⟩
  clear hA hc hc0
  obtain ⟨o0, o1⟩ := u8_bd ho
  obtain ⟨p0, p1⟩ := u16_bd hp
  have hW0 : Below w.heap.size w w := Below.refl _ _
  by_cases h1 : 1000 < l.length
  · have t1 : decide ((1000 : Int) < (l.length : Int)) = true := decide_eq_true (by omega)
    go_enter Try.func15, Try.ntmps15
    go_wp2_with (first
      | (go_at_call 40; refine (lawLong_any _ _ _ _ _).mono ?_; rintro e w' ⟨rfl, rfl⟩)
      | (go_at_call 28; refine (sane_any _).mono ?_; rintro e w9 ⟨rfl, hB9⟩))
    go_ret
    exact ⟨rfl, hB9⟩
  have hll := H.out.len
  cases hl : vaB l with
  | false =>
    have t1 : decide ((1000 : Int) < (l.length : Int)) = false := decide_eq_false (by omega)
    have VL := Lib.hid hl
    clear hl h1 hll
    go_enter Try.func15, Try.ntmps15
    go_wp2_with (first
      | (go_at_call 40; refine (lawLong_any _ _ _ _ _).mono ?_; rintro e w' ⟨rfl, rfl⟩)
      | (go_at_call 44; with_reducible refine (refValid_any l _ _ _ (H.out.marks.below hW0) H.out.len).mono ?_; rintro e w1 ⟨he, hB1⟩; rw [VL.out] at he; subst he)
      | (go_at_call 28; refine (sane_any _).mono ?_; rintro e w9 ⟨rfl, hB9⟩)
      | fail)
    go_ret
    exact ⟨rfl, below_step hB1 hB9⟩
  | true =>
  clear hW0
  obtain ⟨k, ek, hk⟩ : ∃ k : Nat, o % 5 = k ∧ k < 5 := ⟨(o % 5).toNat, by omega, by omega⟩
  obtain ⟨x2, x1⟩ := pxN_le hk
  obtain ⟨a, ea, ha⟩ : ∃ a : Nat, p % ((pxN k : Nat) : Int) = a ∧ a < pxN k := ⟨(p % ((pxN k : Nat) : Int)).toNat, by have := Int.emod_nonneg p (show ((pxN k : Nat) : Int) ≠ 0 by omega); omega, by have := Int.emod_lt_of_pos p (show 0 < ((pxN k : Nat) : Int) by omega); have := Int.emod_nonneg p (show ((pxN k : Nat) : Int) ≠ 0 by omega); omega⟩
  have CP : Hid (∀ W, Calls Try.prog 18 #[.int .i64 (k : Int)] W fun e w' => e = .returned (.tuple #[.int .i64 ((pxN k : Nat) : Int), .int .i64 0]) ∧ W = w') :=
    Lib.hid (fun W => (skyPixels_any k W).mono fun _ _ h => ⟨by rw [h.1]; simp [pxV, okE, okO_k hk, px_eq hk], h.2⟩)
  have e1 : coL l k = stL (coP l k) := by simp [coL, coOk, hl, okO_k hk]
  have e2 : coE l k = stE (coP l k) := by simp [coE, hl, okO_k hk]
  have cc := fun (A : Option Addr) (c0 : Nat) (W : World) (hM : Marks W A l) => skyCoarse_any l A c0 (k : Int) W hM hll
  rw [e1, e2] at cc
  rcases st_cases (coP l k) with h0 | ⟨h4, hnil⟩
  · rw [h0] at cc
    have vC := st_valid (coP l k)
    have nC := stL_max (coP l k)
    have v1 := va_one hk ha
    have n1 : [((k : Int), (a : Int))].length ≤ maxLen := by simp [maxLen]
    have CO : Hid (∀ (A : Option Addr) (c0 : Nat) (W : World) (n q : Int), (n, q) ∈ l → Marks W A l → Calls Try.prog 48 #[.slice A l.length c0, .agg #[.int .i64 n, .int .i64 q]] W fun e w' => e = .returned (.tuple #[.bool true, .int .i64 0]) ∧ Below W.heap.size W w') :=
      Lib.hid (fun A c0 W n q hm hM => (skyHas_any l A c0 n q W hM hll).mono fun _ _ h => ⟨by
        have hcb : cellB (n, q) = true := List.all_eq_true.1 (va_parts hl).2.1 _ hm
        obtain ⟨o', p', he, _, _⟩ := cellB_of hcb
        injection he with e1 e2
        subst e1; subst e2
        rw [h.1, haB, haOk, haE, hl, hcb]
        simp only [Int.toNat_natCast, cov_own hm]; rfl, h.2⟩)
    have CK : Hid (∀ (B : Option Addr) (c0 : Nat) (W : World) (n q : Int), (n, q) ∈ l → Marks W B (stL (coP l k)) → Calls Try.prog 48 #[.slice B (stL (coP l k)).length c0, .agg #[.int .i64 n, .int .i64 q]] W fun e w' => e = .returned (.tuple #[.bool true, .int .i64 0]) ∧ Below W.heap.size W w') :=
      Lib.hid (fun A c0 W n q hm hM => (skyHas_any _ A c0 n q W hM nC).mono fun _ _ h => ⟨by
        have hcb : cellB (n, q) = true := List.all_eq_true.1 (va_parts hl).2.1 _ hm
        obtain ⟨o', p', he, ho', hp'⟩ := cellB_of hcb
        injection he with e1 e2
        subst e1; subst e2
        rw [h.1, haB, haOk, haE, vC, hcb]
        simp only [Int.toNat_natCast, cov_coarse h0 ho' hp' hm]; rfl, h.2⟩)
    have ch : ∀ (B : Option Addr) (c : Nat) (W : World), Marks W B (stL (coP l k)) → Calls Try.prog 48 #[.slice B (stL (coP l k)).length c, .agg #[.int .i64 (k : Int), .int .i64 (a : Int)]] W fun e w' => e = .returned (.tuple #[.bool (fullB (inL (stL (coP l k))) k a), .int .i64 0]) ∧ Below W.heap.size W w' :=
      fun B c W hM => (skyHas_any _ B c (k : Int) (a : Int) W hM nC).mono fun _ _ h => ⟨by
        rw [h.1, haB, haOk, haE, vC, cellB_mk hk ha]
        simp only [Int.toNat_natCast]; rfl, h.2⟩
    have eS := stL_congr (P := mxP andB l [((k : Int), (a : Int))]) (R := inP (inL l) k a) (fun q _ => by rw [mxP, inL_one]; rfl)
    have cb := two_both hll n1
    rw [(mx_st hl v1).1, (mx_st hl v1).2, eS.1, eS.2, part_fits hl hk ha] at cb
    have ct := two_both nC n1
    rw [(mx_st vC v1).1, (mx_st vC v1).2] at ct
    have hw := cov_whole hl h0 hk ha
    cases hf : fullB (inL (stL (coP l k))) k a with
    | true =>
      rw [hf] at ch hw
      have hs : 0 < (stL (inP (inL l) k a)).length := of_decide_eq_true hw.symm
      rcases st_cases (mxP andB (stL (coP l k)) [((k : Int), (a : Int))]) with g0 | ⟨g4, _⟩
      · rw [g0] at ct
        exact covers_t0 l _ _ _ A c k a _ o p w H h1 (Lib.hid hl) o0 o1 p0 p1 (Lib.hid ek) (Lib.hid ea) x1 x2 hs (Lib.hid cc) CO CK CP (Lib.hid cb) (Lib.hid ch) (Lib.hid ct)
      · rw [g4] at ct
        exact covers_t4 l _ _ _ A c k a _ o p w H h1 (Lib.hid hl) o0 o1 p0 p1 (Lib.hid ek) (Lib.hid ea) x1 x2 hs (Lib.hid cc) CO CK CP (Lib.hid cb) (Lib.hid ch) (Lib.hid ct)
    | false =>
      obtain ⟨q1, q2⟩ := cov_part h0 hk ha hf
      rw [hf] at ch hw
      have hs : ¬ 0 < (stL (inP (inL l) k a)).length := of_decide_eq_false hw.symm
      have hS : stL (inP (inL l) k a) = [] := List.eq_nil_of_length_eq_zero (by omega)
      rw [q1, q2] at ct
      rw [hS] at cb
      exact covers_f0 l _ A c k a _ o p w H h1 (Lib.hid hl) o0 o1 p0 p1 (Lib.hid ek) (Lib.hid ea) x1 x2 (Lib.hid cc) CO CK CP (Lib.hid cb) (Lib.hid ch) (Lib.hid ct)
  · rw [h4, hnil] at cc
    exact covers_limit l A c k o p w H h1 (Lib.hid hl) o0 o1 (Lib.hid ek) (Lib.hid cc)
end Go.Proofs.Ytnnfnphmieikmaa
