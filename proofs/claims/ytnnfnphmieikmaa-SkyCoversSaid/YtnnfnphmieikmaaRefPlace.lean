/-
  Contracts of the reference: length, isRing, Length, Place.
-/
import Derived.Test.YtnnfnphmieikmaaSane
namespace Go.Proofs.Ytnnfnphmieikmaa
open Go Go.RowKit Go.Shelf

/-- The world is another one but for draws. -/
def Drawn (w w' : World) : Prop := ∃ m : Nat, w' = w.drewN m
theorem Drawn.refl (w : World) : Drawn w w := ⟨0, rfl⟩
theorem Drawn.more {w w1 : World} (h : Drawn w w1) (n : Nat) : Drawn w (w1.drewN n) := by
  obtain ⟨m, rfl⟩ := h; exact ⟨m + n, World.drewN_drewN w m n⟩
theorem Drawn.trans {a b c : World} (h : Drawn a b) (k : Drawn b c) : Drawn a c := by
  obtain ⟨n, rfl⟩ := k; exact h.more n
theorem Drawn.below {w w' : World} (h : Drawn w w') : Below w.heap.size w w' := by
  obtain ⟨m, rfl⟩ := h; exact below_drewN (Below.refl _ _) m

theorem refLength_any (k : Nat) (hk : k < 5) (r : Int) (r0 : -100 ≤ r) (r1 : r ≤ 100) (w : World) :
    Calls Try.prog 76 #[.int .i64 (k : Int), .int .i64 r] w fun e w' => e = .returned (.int .i64 (lenI k r)) ∧ w = w' := by
  obtain ⟨b1, b2⟩ := sd_bd hk
  go_enter Try.func76, Try.ntmps76
  go_wp2_with (go_at_call 72; refine (refSide_any k hk _).mono ?_; rintro e w1 ⟨rfl, rfl⟩)
  all_goals
    go_ret
    exact ⟨ret_int (by rw [len_sd]; omega), rfl⟩
theorem isRing_any (n r : Int) (w : World) :
    Calls Try.prog 85 #[.int .i64 n, .int .i64 r] w fun e w' => e = .returned (.bool (okR n r)) ∧ w = w' := by
  cases hO : okO n with
  | false =>
    have HO := Lib.hid hO
    clear hO
    go_enter Try.func85, Try.ntmps85
    go_wp2_with (go_at_call 67; refine (isOrder_any n _).mono ?_; rintro e w1 ⟨he, rfl⟩; rw [HO.out] at he; subst he)
    go_ret
    exact ⟨ret_bool (by simp [okR, HO.out]), rfl⟩
  | true =>
    obtain ⟨k, rfl, hk⟩ := okO_of hO
    have b2 := sd_bd hk
    have HO := Lib.hid hO
    clear hO
    go_enter Try.func85, Try.ntmps85
    go_wp2_with (first | (go_at_call 67; refine (isOrder_any _ _).mono ?_; rintro e w1 ⟨he, rfl⟩; rw [HO.out] at he; subst he) | (go_at_call 72; refine (refSide_any k hk _).mono ?_; rintro e w1 ⟨rfl, rfl⟩) | (go_at_call 80; refine (within_any 1 r (4 * sdI k - 1) _).mono ?_; rintro e w1 ⟨rfl, rfl⟩))
    go_ret
    exact ⟨ret_bool (by rw [okR_k hk]; simp), rfl⟩
theorem refLengthE_any (n r : Int) (w : World) :
    Calls Try.prog 32 #[.int .i64 n, .int .i64 r] w fun e w' => e = .returned (.tuple #[.int .i64 (lnV n r), .int .i64 (okE (okR n r))]) ∧ w = w' := by
  cases hp : okR n r with
  | false =>
    have HP := Lib.hid hp
    clear hp
    go_enter Try.func32, Try.ntmps32
    go_wp2_with (go_at_call 85; refine (isRing_any n r _).mono ?_; rintro e w1 ⟨he, rfl⟩; rw [HP.out] at he; subst he)
    go_ret2
    exact ⟨by simp [lnV, okE, HP.out], rfl⟩
  | true =>
    obtain ⟨k, q, rfl, rfl, hk, h1, h2⟩ := okR_of hp
    have h16 := pow_le16 hk
    have HP := Lib.hid hp
    clear hp
    go_enter Try.func32, Try.ntmps32
    go_wp2_with (first | (go_at_call 85; refine (isRing_any _ _ _).mono ?_; rintro e w1 ⟨he, rfl⟩; rw [HP.out] at he; subst he) | (go_at_call 76; refine (refLength_any k hk q (by omega) (by omega) _).mono ?_; rintro e w1 ⟨rfl, rfl⟩))
    go_ret2
    exact ⟨by simp [lnV, okE, HP.out], rfl⟩

def lowB (k m : Nat) : Bool := decide (bI k (xB k m) (yB k m) = m)
theorem low_all : allB 5 (fun k => allB (2 ^ (2 * k)) (lowB k)) = true := by decide +kernel
theorem low_of {k m : Nat} (hk : k < 5) (hm : m < 2 ^ (2 * k)) : bI k (xB k m) (yB k m) = m := by simpa [lowB] using allB_of (allB_of low_all hk) hm
def modB (k p : Nat) : Bool := decide (xB k (p % 2 ^ (2 * k)) = xB k p) && decide (yB k (p % 2 ^ (2 * k)) = yB k p)
theorem mod_all : allB 5 (fun k => allB (pxN k) (modB k)) = true := by decide +kernel
theorem mod_of {k p : Nat} (hk : k < 5) (hp : p < pxN k) : xB k (p % 2 ^ (2 * k)) = xB k p ∧ yB k (p % 2 ^ (2 * k)) = yB k p := by
  simpa [modB] using allB_of (allB_of mod_all hk) hp
theorem bI_inv {k x y : Nat} (hk : k < 5) (hx : x < 2 ^ k) (hy : y < 2 ^ k) : xB k (bI k x y) = x ∧ yB k (bI k x y) = y := by
  have h := spot_of (f := 0) hk (by omega) hx hy
  simp only [Nat.zero_mul, Nat.zero_add] at h
  exact ⟨h.2.2.1, h.2.2.2⟩

set_option maxRecDepth 100000 in
set_option maxHeartbeats 400000 in
theorem refPlace_yes (k p : Nat) (hk : k < 5) (hp : p < pxN k) (w : World) :
    Calls Try.prog 21 #[.int .i64 (k : Int), .int .i64 (p : Int)] w fun e w' => e = .returned (.tuple #[.int .i64 (fB k p : Nat), .int .i64 (xB k p : Nat), .int .i64 (yB k p : Nat), .int .i64 0]) ∧ Drawn w w' := by
  have HP := Lib.hid (okP_nat hk hp)
  have hl := (pxN_le hk).1
  have cS : ∀ W, Calls Try.prog 72 #[.int .i64 (k : Int)] W fun e w' => e = .returned (.int .i64 ((2 ^ k : Nat) : Int)) ∧ W = w' := fun W => (refSide_any k hk W).mono fun _ _ h => ⟨by rw [h.1, sd_nat], h.2⟩
  have h16 := pow_le16 hk
  have hs : 2 ^ (2 * k) = 2 ^ k * 2 ^ k := by rw [← Nat.pow_add]; congr 1; omega
  have hm := low_of hk (Nat.mod_lt p (show 0 < 2 ^ (2 * k) from Nat.pow_pos (by omega)))
  have hxy := mod_of hk hp
  rw [hxy.1, hxy.2] at hm
  have F := fact_of hk hp
  have hX := F.x
  have hY := F.y
  have hF := F.f
  have hinv : ∀ a b : Nat, a < 2 ^ k → b < 2 ^ k → bI k a b = p % 2 ^ (2 * k) → a = xB k p ∧ b = yB k p := by
    intro a b ha hb h
    have := bI_inv hk ha hb
    rw [h, hxy.1, hxy.2] at this
    exact ⟨this.1.symm, this.2.symm⟩
  have hdiv : p / (2 ^ k * 2 ^ k) = fB k p := by rw [fB, hs]
  have hmod : p % (2 ^ k * 2 ^ k) = p % 2 ^ (2 * k) := by rw [hs]
  obtain ⟨M, hM⟩ : ∃ M, M = p % 2 ^ (2 * k) := ⟨_, rfl⟩
  rw [← hM] at hm hinv hmod
  have hbd : ∀ a b, bI k a b < 256 := fun a b => bI_bd a b (by omega)
  have hM2 : M < 256 := by rw [← hm]; exact hbd _ _
  clear F hxy hM hs hp
  generalize 2 ^ k = S at *
  generalize xB k p = X at *
  generalize yB k p = Y at *
  generalize fB k p = Fc at *
  have e1 : (p : Int) % ((S : Int) * (S : Int)) = (M : Int) := by rw [← hmod]; simp
  have E2 : Hid ((p : Int) / ((S : Int) * (S : Int)) = (Fc : Int)) := Lib.hid (by rw [← hdiv]; simp)
  obtain ⟨m1, m2⟩ := mul_bd (a := (S : Int)) (b := (S : Int)) (A := 16) (B := 16) (by omega) (by omega) (by omega) (by omega)
  have m3 : 1 ≤ (S : Int) * (S : Int) := by have : 1 * 1 ≤ S * S := Nat.mul_le_mul (by omega) (by omega); have e := Int.natCast_mul S S; omega
  have CS := Lib.hid cS
  have HM := Lib.hid hm
  have HI := Lib.hid hinv
  clear cS hm hinv hdiv hmod
  go_enter Try.func21, Try.ntmps21
  go_wp2_with (first | (go_at_call 71; refine (isPixel_any _ _ _).mono ?_; rintro e w1 ⟨he, rfl⟩; rw [HP.out] at he; subst he) | (go_at_call 72; refine (CS.out _).mono ?_; rintro e w1 ⟨rfl, rfl⟩))
  go_loopw [9, 10] (fun x _ wr => ∃ a : Nat, a ≤ X ∧ x = .int .i64 a ∧ Drawn w wr) (fun x _ _ => S - (intOf x).toNat)
  case atStart => exact ⟨0, Nat.zero_le _, rfl, Drawn.refl _⟩
  case round =>
    obtain ⟨a, ha, rfl, hD⟩ := hrel
    have haS : a < S := by omega
    obtain ⟨wo, rfl⟩ : ∃ wo : World, wo = wr := ⟨_, rfl⟩
    go_wp2
    go_loopw [10] (fun y wr => ∃ b : Nat, b ≤ S ∧ (a = X → b ≤ Y) ∧ y = .int .i64 b ∧ Drawn w wr) (fun y _ => S - (intOf y).toNat)
    case atStart => exact ⟨0, Nat.zero_le _, fun _ => Nat.zero_le _, rfl, hD⟩
    case round =>
      obtain ⟨b, hb, haY, rfl, hD2⟩ := hrel
      by_cases hbS : b < S
      · have hbb := hbd a b
        have cB : ∀ W, Calls Try.prog 73 #[.int .i64 (k : Int), .int .i64 (a : Int), .int .i64 (b : Int)] W fun e w' => e = .returned (.int .i64 (bI k a b : Nat)) ∧ ∃ n, w' = W.drewN n := fun W => bits_any k a b hk (by omega) (by omega) W
        obtain ⟨B, hB⟩ : ∃ B, B = bI k a b := ⟨_, rfl⟩
        rw [← hB] at cB hbb
        have CB := Lib.hid cB
        have HB := Lib.hid hB
        clear cB hB
        by_cases he : B = M
        · have t1 : (B == M) = true := by simpa using he
          have t2 : ((B : Int) == (M : Int)) = true := by simp; omega
          have HJ := Lib.hid (HI.out a b haS hbS (by rw [← HB.out]; exact he))
          clear he
          go_wp2
          go_quiet ((go_at_call 73; exact Calls.quiet_of (v := .int .i64 (B : Int)) (CB.out _)))
          go_wp2
          ((try simp only [Exit.inBlock, Exit.then]); refine bodyPost_ret (results_tmp4 rfl _ _ _) rfl ?_)
          exact ⟨by rw [E2.out, IntWalk.wrap64_in (Fc : Int) (by omega), ← HJ.out.1, ← HJ.out.2]; rfl, hD2.more _⟩
        · have t1 : (B == M) = false := by simpa using he
          have t2 : ((B : Int) == (M : Int)) = false := by simp; omega
          have hn : a = X → b + 1 ≤ Y := by
            intro hx
            have := haY hx
            rcases Nat.lt_or_ge b Y with h | h
            · omega
            · obtain rfl : b = Y := by omega
              subst hx
              exact absurd (HB.out.trans HM.out) he
          have HN := Lib.hid hn
          clear he hn haY
          go_wp2
          go_quiet ((go_at_call 73; exact Calls.quiet_of (v := .int .i64 (B : Int)) (CB.out _)))
          go_wp2
          go_roundw
          case rel => exact ⟨b + 1, by omega, HN.out, by go_num, hD2.more _⟩
          case measure => simp [intOf]; omega
      · have hne : a + 1 ≤ X := by
          rcases Nat.lt_or_ge a X with h | h
          · omega
          · have := haY (by omega); omega
        clear haY
        go_wp2
        go_roundw
        case rel => exact ⟨a + 1, hne, by go_num, hD2⟩
        case measure => simp [intOf]; omega
theorem refPlace_any (n p : Int) (w : World) :
    Calls Try.prog 21 #[.int .i64 n, .int .i64 p] w fun e w' => e = .returned (.tuple #[.int .i64 (plF n p), .int .i64 (plX n p), .int .i64 (plY n p), .int .i64 (okE (okP n p))]) ∧ Drawn w w' := by
  cases hp : okP n p with
  | false =>
    have HP := Lib.hid hp
    clear hp
    go_enter Try.func21, Try.ntmps21
    go_wp2_with (go_at_call 71; refine (isPixel_any _ _ _).mono ?_; rintro e w1 ⟨he, rfl⟩; rw [HP.out] at he; subst he)
    ((try simp only [Exit.inBlock, Exit.then]); refine bodyPost_ret (results_tmp4 rfl _ _ _) rfl ?_)
    exact ⟨by simp [plF, plX, plY, okE, HP.out], Drawn.refl _⟩
  | true =>
    obtain ⟨k, q, rfl, rfl, hk, hq⟩ := okP_of hp
    exact (refPlace_yes k q hk hq w).mono fun _ _ h => ⟨by rw [h.1]; simp [plF, plX, plY, okE, hp], h.2⟩
end Go.Proofs.Ytnnfnphmieikmaa
