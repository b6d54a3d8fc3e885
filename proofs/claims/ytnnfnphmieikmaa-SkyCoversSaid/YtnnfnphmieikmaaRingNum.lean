/-
  Contracts: ringNumber, Ring, RingOf, Place, Length, Pixels of the program.
-/
import Derived.Test.YtnnfnphmieikmaaBerth
namespace Go.Proofs.Ytnnfnphmieikmaa
open Go Go.RowKit Go.Shelf

theorem len_nat {k r : Nat} (hk : k < 5) (h2 : r ≤ 4 * 2 ^ k) : lenI k (r : Int) = (lenN k r : Nat) := by
  rw [len_sd]; unfold lenN
  obtain rfl | rfl | rfl | rfl | rfl := five hk <;> simp [sdI] at * <;> omega
theorem lenN_le {k r : Nat} (hk : k < 5) : lenN k r ≤ 64 := by
  have := pow_le16 hk
  unfold lenN; omega
theorem bef_le {k r : Nat} (hk : k < 5) (h : r ≤ 63) : bef k r ≤ 64 * 63 := by
  have : ∀ r, bef k r ≤ 64 * r := fun r => by
    induction r with
    | zero => simp [bef]
    | succ n ih => have := lenN_le (r := n + 1) hk; simp only [bef]; omega
  have := this r; omega
set_option maxRecDepth 100000 in
theorem ringNumber_any (k p : Nat) (hk : k < 5) (hp : p < pxN k) (w : World) :
    Calls Try.prog 75 #[.agg #[.int .i64 (k : Int), .int .i64 (p : Int)]] w fun e w' => e = .returned (.int .i64 (NT k p : Nat)) ∧ Below w.heap.size w w' := by
  have F := fact_of hk hp
  have hl := (pxN_le hk).1
  have h16 := pow_le16 hk
  have r1 := F.r1
  have r2 := F.r2
  have hr : RT k p ≤ 63 := by omega
  have p1 := F.p1
  have p2 : PT k p ≤ 64 := by have := F.p2; have := lenN_le (r := RT k p) hk; omega
  have HN : Hid (NT k p = bef k (RT k p - 1) + PT k p - 1) := Lib.hid rfl
  have hbe : bef k (RT k p - 1) ≤ 64 * 63 := bef_le hk (by omega)
  have CB := Lib.hid (fun W => berthOf_any k p hk hp W)
  clear F
  generalize RT k p = R at *
  generalize PT k p = P at *
  go_enter Try.func75, Try.ntmps75
  go_wp2_with (go_at_call 79; refine (CB.out _).mono ?_; rintro e w1 ⟨rfl, hB1⟩; have d0 := (hB1.cell (p := ⟨w.heap.size, 0, none⟩) (by simp)).trans (cell_new w #[.int .i64 (k : Int), .int .i64 (p : Int)] 43 0 (u := .int .i64 (k : Int)) rfl); have z1 := hB1.size; simp at z1; have hW1 : Below w.heap.size w w1 := (Below.trans (by repeat (first | with_reducible exact Below.refl _ _ | with_reducible assumption | refine below_drewN ?_ _ | with_reducible refine Below.drew ?_ | (refine Below.setCell ?_ (by first | (simp; done) | (simp; omega) | omega) _) | (refine Below.alloc ?_ (by first | (simp; done) | (simp; omega) | omega) _))) (hB1.mono (by first | (simp; done) | (simp; omega) | omega))); clear hB1)
  have g0 : w.heap.size < w1.heap.size := by omega
  go_loop [4, 5] (fun b r => ∃ q : Nat, q + 1 ≤ R ∧ r = .int .i64 ((q + 1 : Nat) : Int) ∧ b = .int .i64 (bef k q : Nat)) (fun _ r => R - (intOf r).toNat)
  case atStart => exact ⟨0, by omega, rfl, rfl⟩
  case round =>
    obtain ⟨q, hq, rfl, rfl⟩ := hrel
    by_cases hlt : q + 1 < R
    · have hq2 : bef k q ≤ 64 * 63 := bef_le hk (by omega)
      have hq3 := lenN_le (r := q + 1) hk
      have HS : Hid (bef k (q + 1) = bef k q + lenN k (q + 1)) := Lib.hid rfl
      have cL : ∀ W, Calls Try.prog 84 #[.int .i64 (k : Int), .int .i64 ((q + 1 : Nat) : Int)] W fun e w' => e = .returned (.int .i64 (lenN k (q + 1) : Nat)) ∧ W = w' := fun W => (length_any k hk _ (by omega) (by omega) W).mono fun _ _ h => ⟨by rw [h.1, len_nat hk (by omega)], h.2⟩
      have CL := Lib.hid cL
      clear cL
      go_wp2_with (go_at_call 84; refine (CL.out _).mono ?_; rintro e w2 ⟨rfl, rfl⟩)
      go_round
      case rel => exact ⟨q + 1, by omega, by go_num, by rw [HS.out]; go_num⟩
      case measure => simp [intOf]; omega
    · have hq2 : bef k q ≤ 64 * 63 := bef_le hk (by omega)
      have hq' : R - 1 = q := by omega
      have HQ := Lib.hid hq'
      clear hq'
      go_wp2
      go_ret
      exact ⟨ret_int (by rw [HN.out, HQ.out]; omega), (by repeat (first | with_reducible exact Below.refl _ _ | with_reducible assumption | refine below_drewN ?_ _ | with_reducible refine Below.drew ?_ | (refine Below.setCell ?_ (by first | (simp; done) | (simp; omega) | omega) _) | (refine Below.alloc ?_ (by first | (simp; done) | (simp; omega) | omega) _)))⟩

theorem TellAt.nil {g : Nat} {n p : Int} {v : Value} {w : World} (h : ∀ W : World, Calls Try.prog g #[.agg #[.int .i64 n, .int .i64 p]] W fun e w' => e = .returned v ∧ Below W.heap.size W w') : TellAt g #[] n p v w := by
  intro W _
  rw [Array.append_empty]
  exact h W
def rgV (n p : Int) : Int := if okP n p then ((NT n.toNat p.toNat : Nat) : Int) else 0
def roR (n p : Int) : Int := if okP n p then ((RT n.toNat p.toNat : Nat) : Int) else 0
def roP (n p : Int) : Int := if okP n p then ((PT n.toNat p.toNat : Nat) : Int) else 0
def okE (b : Bool) : Int := if b then 0 else 2
def plF (n p : Int) : Int := if okP n p then ((fB n.toNat p.toNat : Nat) : Int) else 0
def plX (n p : Int) : Int := if okP n p then ((xB n.toNat p.toNat : Nat) : Int) else 0
def plY (n p : Int) : Int := if okP n p then ((yB n.toNat p.toNat : Nat) : Int) else 0

theorem skyRing_any (n p : Int) (w : World) :
    Calls Try.prog 22 #[.int .i64 n, .int .i64 p] w fun e w' => e = .returned (.tuple #[.int .i64 (rgV n p), .int .i64 (okE (okP n p))]) ∧ Below w.heap.size w w' := by
  have eg : ∀ args w, (callFunc 75 args).run Try.prog w = .ok (.enter 75 args) w := enters_of Try.func75 (by kernel_rfl) rfl
  have C : Calls Try.prog 74 #[.int .i64 n, .int .i64 p, .func (.func 75) #[] #[]] w fun e w' => e = .returned (.tuple #[.int .i64 (rgV n p), .int .i64 (okE (okP n p))]) ∧ Below w.heap.size w w' := by
    cases hp : okP n p with
    | false => exact (toldInt_no n p hp _ w).mono fun _ _ h => ⟨by rw [h.1]; simp [rgV, okE, hp], h.2⟩
    | true =>
      obtain ⟨k, q, rfl, rfl, hk, hq⟩ := okP_of hp
      exact (toldInt_yes _ _ hp _ _ eg (NT k q : Nat) w (TellAt.nil fun W => ringNumber_any k q hk hq W)).mono fun _ _ h => ⟨by rw [h.1]; simp [rgV, okE, hp], h.2⟩
  have C := Lib.hid C
  clear eg
  go_enter Try.func22, Try.ntmps22
  go_wp2_with (go_at_call 74; refine (C.out).mono ?_; rintro e w1 ⟨rfl, hB1⟩)
  go_ret2
  exact ⟨rfl, hB1⟩
set_option maxRecDepth 100000 in
theorem skyRingOf_any (n p : Int) (w : World) :
    Calls Try.prog 26 #[.int .i64 n, .int .i64 p] w fun e w' => e = .returned (.tuple #[.int .i64 (roR n p), .int .i64 (roP n p), .int .i64 (okE (okP n p))]) ∧ Below w.heap.size w w' := by
  have eg : ∀ args w, (callFunc 79 args).run Try.prog w = .ok (.enter 79 args) w := enters_of Try.func79 (by kernel_rfl) rfl
  have C : Calls Try.prog 78 #[.int .i64 n, .int .i64 p, .func (.func 79) #[] #[]] w fun e w' => e = .returned (.tuple #[.agg #[.int .i64 (roR n p), .int .i64 (roP n p)], .int .i64 (okE (okP n p))]) ∧ Below w.heap.size w w' := by
    cases hp : okP n p with
    | false => exact (toldBerth_no n p hp _ w).mono fun _ _ h => ⟨by rw [h.1]; simp [roR, roP, okE, hp], h.2⟩
    | true =>
      obtain ⟨k, q, rfl, rfl, hk, hq⟩ := okP_of hp
      exact (toldBerth_yes _ _ hp _ _ eg (RT k q : Nat) (PT k q : Nat) w (TellAt.nil fun W => berthOf_any k q hk hq W)).mono fun _ _ h => ⟨by rw [h.1]; simp [roR, roP, okE, hp], h.2⟩
  have C := Lib.hid C
  clear eg
  go_enter Try.func26, Try.ntmps26
  go_wp2_with (go_at_call 78; refine (C.out).mono ?_; rintro e w1 ⟨rfl, hB1⟩; have z1 := hB1.size)
  go_quiet (fail)
  go_wp2
  go_ret3
  exact ⟨rfl, below_drewN (Below.alloc hB1 z1 _) _⟩
set_option maxRecDepth 100000 in
theorem skyPlace_any (n p : Int) (w : World) :
    Calls Try.prog 20 #[.int .i64 n, .int .i64 p] w fun e w' => e = .returned (.tuple #[.int .i64 (plF n p), .int .i64 (plX n p), .int .i64 (plY n p), .int .i64 (okE (okP n p))]) ∧ Below w.heap.size w w' := by
  have eg : ∀ args w, (callFunc 70 args).run Try.prog w = .ok (.enter 70 args) w := enters_of Try.func70 (by kernel_rfl) rfl
  have C : Calls Try.prog 69 #[.int .i64 n, .int .i64 p, .func (.func 70) #[] #[]] w fun e w' => e = .returned (.tuple #[.agg #[.int .i64 (plF n p), .int .i64 (plX n p), .int .i64 (plY n p)], .int .i64 (okE (okP n p))]) ∧ Below w.heap.size w w' := by
    cases hp : okP n p with
    | false => exact (toldSpot_no n p hp _ w).mono fun _ _ h => ⟨by rw [h.1]; simp [plF, plX, plY, okE, hp], h.2⟩
    | true =>
      obtain ⟨k, q, rfl, rfl, hk, hq⟩ := okP_of hp
      have hl := (pxN_le hk).1
      exact (toldSpot_yes _ _ hp _ _ eg (fB k q : Nat) (xB k q : Nat) (yB k q : Nat) w (TellAt.nil fun W => spotOf_any k q hk (by omega) W)).mono fun _ _ h => ⟨by rw [h.1]; simp [plF, plX, plY, okE, hp], h.2⟩
  have C := Lib.hid C
  clear eg
  go_enter Try.func20, Try.ntmps20
  go_wp2_with (go_at_call 69; refine (C.out).mono ?_; rintro e w1 ⟨rfl, hB1⟩; have z1 := hB1.size)
  go_quiet (fail)
  go_wp2
  ((try simp only [Exit.inBlock, Exit.then]); refine bodyPost_ret (results_tmp4 rfl _ _ _) rfl ?_)
  exact ⟨rfl, below_drewN (Below.alloc hB1 z1 _) _⟩
def lnV (n r : Int) : Int := if okR n r then lenI n.toNat r else 0
theorem okR_of {n r : Int} (h : okR n r = true) : ∃ k q : Nat, n = k ∧ r = q ∧ k < 5 ∧ 1 ≤ q ∧ q ≤ 4 * 2 ^ k - 1 := by
  simp only [okR, Bool.and_eq_true, decide_eq_true_eq] at h
  obtain ⟨k, rfl, hk⟩ := okO_of h.1
  have := sd_nat k
  rw [Int.toNat_natCast] at h
  exact ⟨k, r.toNat, rfl, by omega, hk, by omega, by omega⟩
theorem skyLength_any (n r : Int) (w : World) :
    Calls Try.prog 31 #[.int .i64 n, .int .i64 r] w fun e w' => e = .returned (.tuple #[.int .i64 (lnV n r), .int .i64 (okE (okR n r))]) ∧ w = w' := by
  cases hp : okR n r with
  | false =>
    have HP := Lib.hid hp
    clear hp
    go_enter Try.func31, Try.ntmps31
    go_wp2_with (go_at_call 83; refine (validRing_any n r _).mono ?_; rintro e w1 ⟨he, rfl⟩; rw [HP.out] at he; subst he)
    go_ret2
    exact ⟨by simp [lnV, okE, HP.out], rfl⟩
  | true =>
    obtain ⟨k, q, rfl, rfl, hk, h1, h2⟩ := okR_of hp
    have h16 := pow_le16 hk
    have HP := Lib.hid hp
    clear hp
    go_enter Try.func31, Try.ntmps31
    go_wp2_with (first | (go_at_call 83; refine (validRing_any _ _ _).mono ?_; rintro e w1 ⟨he, rfl⟩; rw [HP.out] at he; subst he) | (go_at_call 84; refine (length_any k hk q (by omega) (by omega) _).mono ?_; rintro e w1 ⟨rfl, rfl⟩))
    go_ret2
    exact ⟨by simp [lnV, okE, HP.out], rfl⟩
def pxV (n : Int) : Int := if okO n then pxI n.toNat else 0
theorem skyPixels_any (n : Int) (w : World) :
    Calls Try.prog 18 #[.int .i64 n] w fun e w' => e = .returned (.tuple #[.int .i64 (pxV n), .int .i64 (okE (okO n))]) ∧ w = w' := by
  cases hp : okO n with
  | false =>
    have HP := Lib.hid hp
    clear hp
    go_enter Try.func18, Try.ntmps18
    go_wp2_with (go_at_call 65; refine (validOrder_any n _).mono ?_; rintro e w1 ⟨he, rfl⟩; rw [HP.out] at he; subst he)
    go_ret2
    exact ⟨by simp [pxV, okE, HP.out], rfl⟩
  | true =>
    obtain ⟨k, rfl, hk⟩ := okO_of hp
    have HP := Lib.hid hp
    clear hp
    go_enter Try.func18, Try.ntmps18
    go_wp2_with (first | (go_at_call 65; refine (validOrder_any _ _).mono ?_; rintro e w1 ⟨he, rfl⟩; rw [HP.out] at he; subst he) | (go_at_call 66; refine (pixels_any k hk _).mono ?_; rintro e w1 ⟨rfl, rfl⟩))
    go_ret2
    exact ⟨by simp [pxV, okE, HP.out], rfl⟩
theorem refPixelsE_any (n : Int) (w : World) :
    Calls Try.prog 19 #[.int .i64 n] w fun e w' => e = .returned (.tuple #[.int .i64 (pxV n), .int .i64 (okE (okO n))]) ∧ w = w' := by
  cases hp : okO n with
  | false =>
    have HP := Lib.hid hp
    clear hp
    go_enter Try.func19, Try.ntmps19
    go_wp2_with (go_at_call 67; refine (isOrder_any n _).mono ?_; rintro e w1 ⟨he, rfl⟩; rw [HP.out] at he; subst he)
    go_ret2
    exact ⟨by simp [pxV, okE, HP.out], rfl⟩
  | true =>
    obtain ⟨k, rfl, hk⟩ := okO_of hp
    have HP := Lib.hid hp
    clear hp
    go_enter Try.func19, Try.ntmps19
    go_wp2_with (first | (go_at_call 67; refine (isOrder_any _ _).mono ?_; rintro e w1 ⟨he, rfl⟩; rw [HP.out] at he; subst he) | (go_at_call 68; refine (refPixels_any k hk _).mono ?_; rintro e w1 ⟨rfl, rfl⟩))
    go_ret2
    exact ⟨by simp [pxV, okE, HP.out], rfl⟩
end Go.Proofs.Ytnnfnphmieikmaa
