/-
  Contracts: On, fromRing, FromRing; On of the reference.
-/
import Derived.Test.YtnnfnphmieikmaaOn
namespace Go.Proofs.Ytnnfnphmieikmaa
open Go Go.RowKit Go.Shelf

def onV (n r : Int) : List Int := if okR n r then onL n.toNat r.toNat else []
set_option maxRecDepth 100000 in
theorem skyOn_any (n r : Int) (w : World) :
    Calls Try.prog 33 #[.int .i64 n, .int .i64 r] w fun e w' => ∃ A c, e = .returned (.tuple #[.slice A (onV n r).length c, .int .i64 (okE (okR n r))]) ∧ Out w' A c (onV n r) ∧ Below w.heap.size w w' := by
  cases hp : okR n r with
  | false =>
    have e1 : onV n r = [] := by simp [onV, hp]
    rw [e1]
    have HP := Lib.hid hp
    clear hp e1
    go_enter Try.func33, Try.ntmps33
    go_wp2_with (go_at_call 83; refine (validRing_any n r _).mono ?_; rintro e w1 ⟨he, rfl⟩; rw [HP.out] at he; subst he)
    go_ret2
    exact ⟨none, 0, rfl, Out.nil_, Below.refl _ _⟩
  | true =>
    obtain ⟨k, q, rfl, rfl, hk, h1, h2⟩ := okR_of hp
    have e1 : onV k q = onL k q := by rw [onV, if_pos hp]; simp
    rw [e1]
    have HP := Lib.hid hp
    have C := Lib.hid (fun W => on_any k q hk h1 h2 W)
    clear hp e1
    go_enter Try.func33, Try.ntmps33
    go_wp2_with (first | (go_at_call 83; refine (validRing_any _ _ _).mono ?_; rintro e w1 ⟨he, rfl⟩; rw [HP.out] at he; subst he) | (go_at_call 86; refine (C.out _).mono ?_; rintro e w1 ⟨A1, c1, rfl, hO1, hB1⟩))
    go_ret2
    exact ⟨A1, c1, rfl, hO1, hB1⟩
theorem bef_mono {k a b : Nat} (h : a ≤ b) : bef k a ≤ bef k b := by
  induction h with
  | refl => exact Nat.le_refl _
  | step _ ih => exact Nat.le_trans ih (by simp only [bef]; omega)
/-- The ring of a ring number. -/
theorem ring_of_num {k n : Nat} (hk : k < 5) (hn : n < pxN k) : ∃ r, 1 ≤ r ∧ r ≤ 4 * 2 ^ k - 1 ∧ bef k (r - 1) ≤ n ∧ n < bef k r := by
  obtain ⟨h1, h2⟩ := tn_of hk hn
  have F := fact_of hk h1
  refine ⟨RT k (TT k n), F.r1, F.r2, ?_, ?_⟩
  · have := F.p1; rw [NT] at h2; omega
  · have a := F.p1
    have b := F.p2
    have c := F.r1
    obtain ⟨s, hs⟩ : ∃ s, RT k (TT k n) = s + 1 := ⟨RT k (TT k n) - 1, by omega⟩
    rw [NT, hs] at h2
    rw [hs] at b ⊢
    simp only [Nat.add_sub_cancel] at h2
    simp only [bef]; omega
set_option maxRecDepth 100000 in
set_option maxHeartbeats 400000 in
theorem fromRing_any (k n : Nat) (hk : k < 5) (hn : n < pxN k) (w : World) :
    Calls Try.prog 77 #[.int .i64 (k : Int), .int .i64 (n : Int)] w fun e w' => e = .returned (.int .i64 (TT k n : Nat)) ∧ Below w.heap.size w w' := by
  obtain ⟨r, r1, r2, b1, b2⟩ := ring_of_num hk hn
  have h16 := pow_le16 hk
  have hr63 : r ≤ 63 := by omega
  have hl := (pxN_le hk).1
  have hq : n - bef k (r - 1) < lenN k r := by
    obtain ⟨s, rfl⟩ : ∃ s, r = s + 1 := ⟨r - 1, by omega⟩
    simp only [bef] at b2; simp only [Nat.add_sub_cancel] at *; omega
  have hg := onL_get (k := k) (r := r) hq
  rw [show bef k (r - 1) + (n - bef k (r - 1)) = n by omega] at hg
  have cO : ∀ W, Calls Try.prog 86 #[.int .i64 (k : Int), .int .i64 (r : Int)] W fun e w' => ∃ b o c, e = .returned (.slice (some ⟨b, o, none⟩) (lenN k r) c) ∧ w'.cell? ⟨b, o + (n - bef k (r - 1)), none⟩ = some (.int .i64 (TT k n : Nat)) ∧ Below W.heap.size W w' :=
    fun W => (on_any k r hk r1 r2 W).mono fun e w' ⟨A, c, he, hO, hB⟩ => by
      obtain ⟨b, o, rfl, _, hc⟩ := hO.ints.open_ (by rw [onL_len]; omega)
      exact ⟨b, o, c, by rw [he, onL_len], hc _ _ hg, hB⟩
  have CO := Lib.hid cO
  clear cO
  have HM : Hid (∀ a : Nat, a + 1 < r → bef k (a + 1) ≤ bef k (r - 1)) := Lib.hid (fun a ha => bef_mono (by omega))
  clear hg
  go_enter Try.func77, Try.ntmps77
  go_wp2
  go_loop [1, 5] (fun m i => ∃ a : Nat, a + 1 ≤ r ∧ i = .int .i64 ((a + 1 : Nat) : Int) ∧ bef k a ≤ n ∧ m = .int .i64 ((n - bef k a : Nat) : Int)) (fun _ i => r - (intOf i).toNat)
  case atStart => exact ⟨0, by omega, rfl, by simp [bef], by simp [bef]⟩
  case round =>
    obtain ⟨a, ha, rfl, hle, rfl⟩ := hrel
    have hbl : bef k a ≤ 64 * 63 := bef_le hk (by omega)
    have hll := lenN_le (r := a + 1) hk
    have cL : ∀ W, Calls Try.prog 84 #[.int .i64 (k : Int), .int .i64 ((a + 1 : Nat) : Int)] W fun e w' => e = .returned (.int .i64 (lenN k (a + 1) : Nat)) ∧ W = w' := fun W => (length_any k hk _ (by omega) (by omega) W).mono fun _ _ h => ⟨by rw [h.1, len_nat hk (by omega)], h.2⟩
    have CL := Lib.hid cL
    have hs : bef k (a + 1) = bef k a + lenN k (a + 1) := rfl
    clear cL
    by_cases hlt : a + 1 < r
    · have hm := HM.out a hlt
      have HS := Lib.hid (show ((n - bef k (a + 1) : Nat) : Int) = ((n - bef k a : Nat) : Int) - (lenN k (a + 1) : Nat) by omega)
      have hV : lenN k (a + 1) ≤ n - bef k a := by omega
      have hN2 : bef k (a + 1) ≤ n := by omega
      have HN2 := Lib.hid hN2
      have hVb : n - bef k a ≤ 3072 := by omega
      generalize n - bef k a = V at *
      generalize lenN k (a + 1) = L at *
      clear hs hm hN2 hle
      go_wp2_with (go_at_call 84; refine (CL.out _).mono ?_; rintro e w2 ⟨rfl, rfl⟩)
      go_round
      case rel => exact ⟨a + 1, by omega, by go_num, HN2.out, by rw [HS.out]⟩
      case measure => simp [intOf]; omega
    · obtain rfl : r = a + 1 := by omega
      simp only [Nat.add_sub_cancel] at *
      have hV : n - bef k a < lenN k (a + 1) := hq
      have hVb : n - bef k a ≤ 3072 := by omega
      generalize n - bef k a = V at *
      generalize lenN k (a + 1) = L at *
      clear hs hq b1 b2 hle
      go_wp2_with (first
        | (go_at_call 84; refine (CL.out _).mono ?_; rintro e w2 ⟨rfl, rfl⟩)
        | (go_at_call 86; refine (CO.out _).mono ?_; rintro e w3 ⟨bl, off, c3, rfl, g0, hB3⟩))
      go_ret
      exact ⟨rfl, hB3⟩
theorem skyFromRing_any (n p : Int) (w : World) :
    Calls Try.prog 24 #[.int .i64 n, .int .i64 p] w fun e w' => e = .returned (.tuple #[.int .i64 (frV n p), .int .i64 (okE (okP n p))]) ∧ Below w.heap.size w w' := by
  cases hO : okO n with
  | false =>
    have hp : okP n p = false := by simp [okP, hO]
    have HP := Lib.hid hp
    have HO := Lib.hid hO
    clear hp hO
    go_enter Try.func24, Try.ntmps24
    go_wp2_with (go_at_call 65; refine (validOrder_any n _).mono ?_; rintro e w1 ⟨he, rfl⟩; rw [HO.out] at he; subst he)
    go_ret2
    exact ⟨by simp [frV, okE, HP.out], Below.refl _ _⟩
  | true =>
    obtain ⟨k, rfl, hk⟩ := okO_of hO
    have b2 := px_bd hk
    have HO := Lib.hid hO
    clear hO
    by_cases hb : 0 ≤ p ∧ p < pxI k
    · obtain ⟨h0, h1⟩ := hb
      have hp : okP k p = true := by rw [okP_k hk]; simp; omega
      obtain ⟨q, rfl⟩ : ∃ q : Nat, p = q := ⟨p.toNat, by omega⟩
      have hq : q < pxN k := by have := px_eq hk; omega
      have HP := Lib.hid hp
      have C := Lib.hid (fun W => fromRing_any k q hk hq W)
      clear hp
      go_enter Try.func24, Try.ntmps24
      go_wp2_with (first | (go_at_call 65; refine (validOrder_any k _).mono ?_; rintro e w1 ⟨he, rfl⟩; rw [HO.out] at he; subst he) | (go_at_call 66; refine (pixels_any k hk _).mono ?_; rintro e w1 ⟨rfl, rfl⟩) | (go_at_call 77; refine (C.out _).mono ?_; rintro e w2 ⟨rfl, hB2⟩))
      go_ret2
      exact ⟨by simp [frV, okE, HP.out], hB2⟩
    · have hp : okP k p = false := by rw [okP_k hk]; simp; omega
      have HP := Lib.hid hp
      have hb2 : p < 0 ∨ pxI k ≤ p := by omega
      clear hp hb
      go_enter Try.func24, Try.ntmps24
      go_wp2_with (first | (go_at_call 65; refine (validOrder_any k _).mono ?_; rintro e w1 ⟨he, rfl⟩; rw [HO.out] at he; subst he) | (go_at_call 66; refine (pixels_any k hk _).mono ?_; rintro e w1 ⟨rfl, rfl⟩))
      all_goals
        go_ret2
        exact ⟨by simp [frV, okE, HP.out], Below.refl _ _⟩
theorem Drawn.own {w w' : World} {base : Nat} {e : TypeId} {size n : Nat} {v : Value} {xs : List Value} (hD : Drawn w w') (h : w.ownsRow base e size v n xs) : w'.ownsRow base e size v n xs := by
  obtain ⟨m, rfl⟩ := hD; exact own_drewN h m
set_option maxRecDepth 100000 in
set_option maxHeartbeats 800000 in
theorem refOn_yes (k r : Nat) (hk : k < 5) (h1 : 1 ≤ r) (h2 : r ≤ 4 * 2 ^ k - 1) (w : World) :
    Calls Try.prog 34 #[.int .i64 (k : Int), .int .i64 (r : Int)] w fun e w' => ∃ A c, e = .returned (.tuple #[.slice A (onL k r).length c, .int .i64 0]) ∧ Out w' A c (onL k r) ∧ Below w.heap.size w w' := by
  have h16 := pow_le16 hk
  have hL := lenN_le (r := r) hk
  have hr63 : r ≤ 63 := by omega
  have HP := Lib.hid (show okR (k : Int) (r : Int) = true by rw [okR_k hk]; exact decide_eq_true ⟨by omega, by rw [sd_nat]; omega⟩)
  have cL : ∀ W, Calls Try.prog 76 #[.int .i64 (k : Int), .int .i64 (r : Int)] W fun e w' => e = .returned (.int .i64 (lenN k r : Nat)) ∧ W = w' := fun W => (refLength_any k hk _ (by omega) (by omega) W).mono fun _ _ h => ⟨by rw [h.1, len_nat hk (by omega)], h.2⟩
  have CL := Lib.hid cL
  have cX : ∀ W, Calls Try.prog 68 #[.int .i64 (k : Int)] W fun e w' => e = .returned (.int .i64 (pxN k : Nat)) ∧ W = w' := fun W => (refPixels_any k hk W).mono fun _ _ h => ⟨by rw [h.1, px_eq hk], h.2⟩
  have CX := Lib.hid cX
  obtain ⟨q1, q2⟩ := pxN_le hk
  obtain ⟨i0, hi0, hz0, hz1, hz2⟩ := info_parts int_info
  have HZ2 := Lib.hid hz2
  have HLN := Lib.hid (onL_len k r)
  have HS0 : Hid (InvO k r (fun q => q < 0) (List.replicate (lenN k r) 0)) := Lib.hid (invO_start k r fun p _ _ h => by omega)
  have HEND : Hid (∀ xs, InvO k r (fun q => q < pxN k) xs → xs = onL k r) := Lib.hid (fun xs h => invO_end hk h1 h2 h fun p hp _ => hp)
  have HNO : Hid (∀ (a : Nat) (xs : List Int), RT k a ≠ r → InvO k r (fun q => q < a) xs → InvO k r (fun q => q < a + 1) xs) := Lib.hid (fun a xs hr h => invO_keep h fun p hp hpr hd => by
    rcases Nat.lt_or_ge p a with h3 | h3
    · exact h3
    · obtain rfl : p = a := by omega
      exact absurd hpr hr)
  have HYES : Hid (∀ (a : Nat) (xs : List Int), a < pxN k → RT k a = r → InvO k r (fun q => q < a) xs →
      ∃ Q : Nat, Q < lenN k r ∧ PT k a = Q + 1 ∧ InvO k r (fun q => q < a + 1) (xs.set Q (a : Int))) := Lib.hid (by
    intro a xs ha hr h
    have F := fact_of hk ha
    have p1 := F.p1
    have p2 := F.p2
    rw [hr] at p2
    exact ⟨PT k a - 1, by omega, by omega, invO_step hk h ha hr fun p _ _ hd => by omega⟩)
  have CR := Lib.hid (fun (p : Nat) (hp : p < pxN k) W => refRingOf_yes k p hk hp W)
  have HR63 : Hid (∀ a : Nat, a < pxN k → RT k a ≤ 63) := Lib.hid (fun a ha => by have := (fact_of hk ha).r2; omega)
  obtain ⟨L, eL⟩ : ∃ L, lenN k r = L := ⟨_, rfl⟩
  rw [eL] at hL CL HLN HYES HS0
  have HLL := Lib.hid eL
  generalize pxN k = X at *
  clear eL cL cX hz2 h2
  go_enter Try.func34, Try.ntmps34
  go_wp2_with (first
    | (go_at_call 85; refine (isRing_any _ _ _).mono ?_; rintro e w1 ⟨he, rfl⟩; rw [HP.out] at he; subst he)
    | (go_at_call 76; refine (CL.out _).mono ?_; rintro e w1 ⟨rfl, rfl⟩)
    | (at_make; refine wpList_make_full _ rfl _ _ 35 rfl w.heap.size 3 i0 (.int .i64 0) 1 Try.underlying35 hi0 hz0 hz1 _ _ _ _ L rfl rfl rfl rfl (by rw [HZ2.out]; omega) (by unfold maxLen; omega) (Nat.le_refl _) ?_; intro w1 hown1 hg1))
  have hB1 : Below w.heap.size w w1 := (Below.refl _ _).grown hg1 (Nat.le_refl _) (by simp)
  rw [made_ints] at hown1
  clear hg1 HZ2 hz0 hz1 hi0
  go_loopw [7] (fun i wr => ∃ (a : Nat) (xs : List Int), a ≤ X ∧ i = .int .i64 a ∧ wr.ownsRow w.heap.size 3 1 (.slice (some ⟨w.heap.size, 0, none⟩) L L) L (xs.map (Value.int .i64)) ∧ Below w.heap.size w wr ∧ Hid (InvO k r (fun q => q < a) xs)) (fun i _ => X - (intOf i).toNat)
  case atStart => exact ⟨0, _, by omega, rfl, hown1, hB1, HS0⟩
  case round =>
    clear hown1 hB1 HS0
    obtain ⟨a, xs, ha, rfl, hown, hB, hI⟩ := hrel
    by_cases hlt : a < X
    · have CA := Lib.hid (CR.out a hlt)
      have hr3 := HR63.out a hlt
      by_cases hr : RT k a = r
      · obtain ⟨Q, hQ, hP, hN⟩ := HYES.out a xs hlt hr hI.out
        rw [hr, hP] at CA
        obtain ⟨hl1, hl2⟩ : L ≤ xs.length ∧ xs.length ≤ L := by have := hI.out.1; have := HLL.out; omega
        have hc := (hown.cellAt Q (by omega)).trans (getD_row (by omega))
        have hf := hown.frozenAt Q
        have HN := Lib.hid hN
        have HO := Lib.hid hown
        have HW : Hid (decide ((1 : Int) ≤ ((Q + 1 : Nat) : Int) ∧ ((Q + 1 : Nat) : Int) ≤ (L : Int)) = true) := Lib.hid (decide_eq_true (by omega))
        clear hown hN hP hr
        go_wp2_with (first
          | (go_at_call 68; refine (CX.out _).mono ?_; rintro e w1 ⟨rfl, rfl⟩)
          | (go_at_call 27; refine (CA.out _).mono ?_; rintro e w2 ⟨rfl, m2, rfl⟩)
          | (go_at_call 80; refine (within_any 1 ((Q + 1 : Nat) : Int) L _).mono ?_; rintro e w2 ⟨he, rfl⟩; rw [HW.out] at he; subst he)
          | fail)
        go_roundw
        case rel => exact ⟨a + 1, xs.set Q (a : Int), by omega, by go_num, by rw [List.map_set]; exact (World.ownsRow.stored (own_drewN HO.out _) Q _).1, Below.setCell (below_drewN hB _) (Nat.le_refl _) _, HN⟩
        case measure => simp [intOf]; omega
      · have t1 : (RT k a == r) = false := by simpa using hr
        have t2 : (((RT k a : Nat) : Int) == (r : Int)) = false := by simp; omega
        have HN := Lib.hid (HNO.out a xs hr hI.out)
        have HO := Lib.hid hown
        generalize RT k a = R at *
        clear hown hr
        go_wp2_with (first
          | (go_at_call 68; refine (CX.out _).mono ?_; rintro e w1 ⟨rfl, rfl⟩)
          | (go_at_call 27; refine (CA.out _).mono ?_; rintro e w2 ⟨rfl, m2, rfl⟩)
          | fail)
        go_roundw
        case rel => exact ⟨a + 1, xs, by omega, by go_num, own_drewN HO.out _, below_drewN hB _, HN⟩
        case measure => simp [intOf]; omega
    · obtain rfl : a = X := by omega
      have hxs := HEND.out _ hI.out
      subst hxs
      have hOut : Out wr (some ⟨w.heap.size, 0, none⟩) L (onL k r) := by
        obtain ⟨A', c', hv, hO⟩ := own_ints hown
        injection hv with hA hl hc
        subst hA; subst hc
        exact hO
      have HOUT := Lib.hid hOut
      clear hOut hown
      go_wp2_with (go_at_call 68; refine (CX.out _).mono ?_; rintro e w1 ⟨rfl, rfl⟩)
      go_ret2
      exact ⟨_, _, by rw [HLN.out]; rfl, HOUT.out, hB⟩
theorem refOn_any (n r : Int) (w : World) :
    Calls Try.prog 34 #[.int .i64 n, .int .i64 r] w fun e w' => ∃ A c, e = .returned (.tuple #[.slice A (onV n r).length c, .int .i64 (okE (okR n r))]) ∧ Out w' A c (onV n r) ∧ Below w.heap.size w w' := by
  cases hp : okR n r with
  | false =>
    have e1 : onV n r = [] := by simp [onV, hp]
    rw [e1]
    have HP := Lib.hid hp
    clear hp e1
    go_enter Try.func34, Try.ntmps34
    go_wp2_with (go_at_call 85; refine (isRing_any n r _).mono ?_; rintro e w1 ⟨he, rfl⟩; rw [HP.out] at he; subst he)
    go_ret2
    exact ⟨none, 0, rfl, Out.nil_, Below.refl _ _⟩
  | true =>
    obtain ⟨k, q, rfl, rfl, hk, h1, h2⟩ := okR_of hp
    have e1 : onV k q = onL k q := by rw [onV, if_pos hp]; simp
    rw [e1]
    exact refOn_yes k q hk h1 h2 w
theorem onV_le (n r : Int) : (onV n r).length ≤ maxLen := by
  unfold onV
  cases hp : okR n r with
  | false => simp [maxLen]
  | true =>
    obtain ⟨k, q, rfl, rfl, hk, h1, h2⟩ := okR_of hp
    have := lenN_le (r := q) hk
    simp [onL_len, maxLen]; omega
end Go.Proofs.Ytnnfnphmieikmaa
