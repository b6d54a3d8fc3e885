/-
  Contracts of the reference: Ring, FromRing.
-/
import Derived.Test.YtnnfnphmieikmaaRefRing
namespace Go.Proofs.Ytnnfnphmieikmaa
open Go Go.RowKit Go.Shelf

set_option maxRecDepth 100000 in
theorem refRing_yes (k p : Nat) (hk : k < 5) (hp : p < pxN k) (w : World) :
    Calls Try.prog 23 #[.int .i64 (k : Int), .int .i64 (p : Int)] w fun e w' => e = .returned (.tuple #[.int .i64 (NT k p : Nat), .int .i64 0]) ∧ Drawn w w' := by
  have F := fact_of hk hp
  have hl := (pxN_le hk).1
  have h16 := pow_le16 hk
  have r1 := F.r1
  have r2 := F.r2
  have hr : RT k p ≤ 63 := by omega
  have p1 := F.p1
  have p2 : PT k p ≤ 64 := by have := F.p2; have := lenN_le (r := RT k p) hk; omega
  have HN : Hid (NT k p = bef k (RT k p - 1) + PT k p - 1) := Lib.hid rfl
  have CB := Lib.hid (fun W => refRingOf_yes k p hk hp W)
  clear F
  generalize RT k p = R at *
  generalize PT k p = P at *
  go_enter Try.func23, Try.ntmps23
  go_wp2_with (go_at_call 27; refine (CB.out _).mono ?_; rintro e w1 ⟨rfl, hD⟩)
  go_loop [9, 10] (fun b r => ∃ q : Nat, q + 1 ≤ R ∧ r = .int .i64 ((q + 1 : Nat) : Int) ∧ b = .int .i64 ((bef k q + P - 1 : Nat) : Int)) (fun _ r => R - (intOf r).toNat)
  case atStart => exact ⟨0, by omega, rfl, by rw [show bef k 0 = 0 from rfl]; congr 1; omega⟩
  case round =>
    obtain ⟨q, hq, rfl, rfl⟩ := hrel
    have hq2 : bef k q ≤ 64 * 63 := bef_le hk (by omega)
    by_cases hlt : q + 1 < R
    · have hq3 := lenN_le (r := q + 1) hk
      have cL : ∀ W, Calls Try.prog 76 #[.int .i64 (k : Int), .int .i64 ((q + 1 : Nat) : Int)] W fun e w' => e = .returned (.int .i64 (lenN k (q + 1) : Nat)) ∧ W = w' := fun W => (refLength_any k hk _ (by omega) (by omega) W).mono fun _ _ h => ⟨by rw [h.1, len_nat hk (by omega)], h.2⟩
      have CL := Lib.hid cL
      clear cL
      obtain ⟨V, hV, hV2⟩ : ∃ V : Nat, V = bef k q + P - 1 ∧ V ≤ 5000 := ⟨_, rfl, by omega⟩
      have HS : Hid (((bef k (q + 1) + P - 1 : Nat) : Int) = (V : Int) + (lenN k (q + 1) : Nat)) := Lib.hid (by simp only [bef]; omega)
      rw [← hV]
      clear hV
      go_wp2_with (go_at_call 76; refine (CL.out _).mono ?_; rintro e w2 ⟨rfl, rfl⟩)
      go_round
      case rel => exact ⟨q + 1, by omega, by go_num, by rw [HS.out]⟩
      case measure => simp [intOf]; omega
    · have HQ := Lib.hid (show R - 1 = q by omega)
      obtain ⟨V, hV, hV2⟩ : ∃ V : Nat, V = bef k q + P - 1 ∧ V ≤ 5000 := ⟨_, rfl, by omega⟩
      have HV := Lib.hid hV
      rw [← hV]
      clear hV
      go_wp2
      go_ret2
      exact ⟨by rw [HN.out, HQ.out, ← HV.out]; rfl, hD⟩
theorem refRing_any (n p : Int) (w : World) :
    Calls Try.prog 23 #[.int .i64 n, .int .i64 p] w fun e w' => e = .returned (.tuple #[.int .i64 (rgV n p), .int .i64 (okE (okP n p))]) ∧ Drawn w w' := by
  cases hp : okP n p with
  | false =>
    have C : ∀ W, Calls Try.prog 27 #[.int .i64 n, .int .i64 p] W fun e w' => e = .returned (.tuple #[.int .i64 0, .int .i64 0, .int .i64 2]) ∧ Drawn W w' := fun W => (refRingOf_any n p W).mono fun _ _ h => ⟨by rw [h.1]; simp [roR, roP, okE, hp], h.2⟩
    have C := Lib.hid C
    have HP := Lib.hid hp
    clear hp
    go_enter Try.func23, Try.ntmps23
    go_wp2_with (go_at_call 27; refine (C.out _).mono ?_; rintro e w1 ⟨rfl, hD⟩)
    go_ret2
    exact ⟨by simp [rgV, okE, HP.out], hD⟩
  | true =>
    obtain ⟨k, q, rfl, rfl, hk, hq⟩ := okP_of hp
    exact (refRing_yes k q hk hq w).mono fun _ _ h => ⟨by rw [h.1]; simp [rgV, okE, hp], h.2⟩
def frV (n p : Int) : Int := if okP n p then ((TT n.toNat p.toNat : Nat) : Int) else 0
set_option maxRecDepth 100000 in
theorem refFromRing_yes (k n : Nat) (hk : k < 5) (hn : n < pxN k) (w : World) :
    Calls Try.prog 25 #[.int .i64 (k : Int), .int .i64 (n : Int)] w fun e w' => e = .returned (.tuple #[.int .i64 (TT k n : Nat), .int .i64 0]) ∧ Drawn w w' := by
  have HP := Lib.hid (okP_nat hk hn)
  obtain ⟨q1, q2⟩ := pxN_le hk
  have cX : ∀ W, Calls Try.prog 68 #[.int .i64 (k : Int)] W fun e w' => e = .returned (.int .i64 (pxN k : Nat)) ∧ W = w' := fun W => (refPixels_any k hk W).mono fun _ _ h => ⟨by rw [h.1, px_eq hk], h.2⟩
  have CX := Lib.hid cX
  obtain ⟨ht, hnt⟩ := tn_of hk hn
  have CR := Lib.hid (fun (p : Nat) (hp : p < pxN k) W => refRing_yes k p hk hp W)
  have HI : Hid (∀ p, p < pxN k → NT k p = n → p = TT k n) := Lib.hid (fun p hp h => by rw [← h]; exact (fact_of hk hp).t.symm)
  have HT := Lib.hid hnt
  clear cX hnt
  generalize pxN k = X at *
  generalize TT k n = T at *
  go_enter Try.func25, Try.ntmps25
  go_wp2_with (first | (go_at_call 71; refine (isPixel_any _ _ _).mono ?_; rintro e w1 ⟨he, rfl⟩; rw [HP.out] at he; subst he) | (go_at_call 68; refine (CX.out _).mono ?_; rintro e w1 ⟨rfl, rfl⟩))
  go_loopw [6] (fun i wr => ∃ a : Nat, a ≤ T ∧ i = .int .i64 a ∧ Drawn w wr) (fun i _ => X - (intOf i).toNat)
  case atStart => exact ⟨0, Nat.zero_le _, rfl, Drawn.refl _⟩
  case round =>
    obtain ⟨a, ha, rfl, hD⟩ := hrel
    have hlt : a < X := by omega
    have cR := CR.out a hlt
    have hi := HI.out a hlt
    obtain ⟨V, hV⟩ : ∃ V, V = NT k a := ⟨_, rfl⟩
    rw [← hV] at cR hi
    have HV := Lib.hid hV
    have CA := Lib.hid cR
    have HJ := Lib.hid hi
    clear cR hi hV
    by_cases he : V = n
    · have t1 : (V == n) = true := by simpa using he
      have t2 : ((V : Int) == (n : Int)) = true := by simp; omega
      have HE := Lib.hid he
      clear he
      go_wp2_with (first | (go_at_call 68; refine (CX.out _).mono ?_; rintro e w1 ⟨rfl, rfl⟩) | (go_at_call 23; refine (CA.out _).mono ?_; rintro e w2 ⟨rfl, hD2⟩))
      go_ret2
      exact ⟨by rw [← HJ.out HE.out]; rfl, hD.trans hD2⟩
    · have t1 : (V == n) = false := by simpa using he
      have t2 : ((V : Int) == (n : Int)) = false := by simp; omega
      have HA : Hid (a + 1 ≤ T) := Lib.hid (by
        rcases Nat.lt_or_ge a T with h | h
        · omega
        · obtain rfl : a = T := by omega
          exact absurd (HV.out.trans HT.out) he)
      clear he
      go_wp2_with (first | (go_at_call 68; refine (CX.out _).mono ?_; rintro e w1 ⟨rfl, rfl⟩) | (go_at_call 23; refine (CA.out _).mono ?_; rintro e w2 ⟨rfl, hD2⟩))
      go_roundw
      case rel => exact ⟨a + 1, HA.out, by go_num, hD.trans hD2⟩
      case measure => simp [intOf]; omega
theorem refFromRing_any (n p : Int) (w : World) :
    Calls Try.prog 25 #[.int .i64 n, .int .i64 p] w fun e w' => e = .returned (.tuple #[.int .i64 (frV n p), .int .i64 (okE (okP n p))]) ∧ Drawn w w' := by
  cases hp : okP n p with
  | false =>
    have HP := Lib.hid hp
    clear hp
    go_enter Try.func25, Try.ntmps25
    go_wp2_with (go_at_call 71; refine (isPixel_any _ _ _).mono ?_; rintro e w1 ⟨he, rfl⟩; rw [HP.out] at he; subst he)
    go_ret2
    exact ⟨by simp [frV, okE, HP.out], Drawn.refl _⟩
  | true =>
    obtain ⟨k, q, rfl, rfl, hk, hq⟩ := okP_of hp
    exact (refFromRing_yes k q hk hq w).mono fun _ _ h => ⟨by rw [h.1]; simp [frV, okE, hp], h.2⟩
end Go.Proofs.Ytnnfnphmieikmaa
