/-
  The walk of SkyAll: it returns true, whatever it is given.
-/
import Derived.Test.YtnnfnphmieikmaaSetT
import Derived.Test.YtnnfnphmieikmaaLawBands
namespace Go.Proofs.Ytnnfnphmieikmaa
open Go Go.RowKit Go.Shelf

theorem bef_bd {r : Nat} (h : r ≤ 63) : bef 4 r ≤ 4032 := by have := bef_le (k := 4) (r := r) (by omega) h; omega
theorem bef_one {r : Nat} (h : 1 ≤ r) : bef 4 r = bef 4 (r - 1) + lenN 4 r := by
  obtain ⟨x, rfl⟩ : ∃ x, r = x + 1 := ⟨r - 1, by omega⟩
  rfl
theorem bef_up {a b : Nat} (h : a ≤ b) : bef 4 a ≤ bef 4 b := by
  obtain ⟨d, rfl⟩ : ∃ d, b = a + d := ⟨b - a, by omega⟩
  clear h
  induction d with
  | zero => exact Nat.le_refl _
  | succ d ih => exact Nat.le_trans ih (by rw [← Nat.add_assoc]; exact Nat.le_add_right _ _)
set_option maxRecDepth 100000 in
set_option maxHeartbeats 800000 in
theorem skyAll_lt (x y : Int) (u v : Nat) (w : World) (hx : 0 ≤ x ∧ x ≤ 255) (hy : 0 ≤ y ∧ y ≤ 255) (EU : Hid (x % 63 = (u : Int))) (EV : Hid (y % 63 = (v : Int))) (hu : u < 63) (hv : v < 63) (hc : u < v) :
    Calls Try.prog 16 #[.int .u8 x, .int .u8 y] w fun e w' => e = .returned (.bool true) ∧ Below w.heap.size w w' := by
  obtain ⟨x0, x1⟩ := hx
  obtain ⟨y0, y1⟩ := hy
  have t1 : (u : Int) ≤ v := by omega
  have t2 : ¬ (v : Int) ≤ u := by omega
  have h1 : 1 ≤ 1 + u := by omega
  have h2 : 1 + u ≤ 1 + v := by omega
  have h3 : 1 + v ≤ 63 := by omega
  have hok : riOk ((1 + u : Nat) : Int) ((1 + v : Nat) : Int) = true := by simp [riOk]; omega
  have eL : riL ((1 + u : Nat) : Int) ((1 + v : Nat) : Int) = stL (riP (1 + u) (1 + v)) := by rw [riL, hok]; rfl
  have eE : riE ((1 + u : Nat) : Int) ((1 + v : Nat) : Int) = stE (riP (1 + u) (1 + v)) := by rw [riE, hok]; rfl
  have CR := fun W => skyRings_any ((1 + u : Nat) : Int) ((1 + v : Nat) : Int) W
  rw [eL, eE] at CR
  rw [show ((1 + u : Nat) : Int) = 1 + (u : Int) from by omega, show ((1 + v : Nat) : Int) = 1 + (v : Int) from by omega] at CR
  have CS := fun A c W (hM : Marks W A (stL (riP (1 + u) (1 + v)))) => skySize_any (stL (riP (1 + u) (1 + v))) A c W hM (by have := stL_len (riP (1 + u) (1 + v)); unfold maxLen; omega)
  have cF := fun W => skyRings_any 1 63 W
  rw [ri_sky.1, ri_sky.2] at cF
  have CF := Lib.hid cF
  have CL : Hid (∀ r : Nat, 1 ≤ r → r ≤ 63 → ∀ W, Calls Try.prog 31 #[.int .i64 4, .int .i64 (r : Int)] W fun e w' => e = .returned (.tuple #[.int .i64 (lenN 4 r : Nat), .int .i64 0]) ∧ W = w') :=
    Lib.hid (fun r hr hr2 W => (skyLength_any 4 r W).mono fun e w' h => by
      have e1 : okR 4 (r : Int) = true := by rw [okR_four]; simp; omega
      rw [lnV, e1, okE] at h
      simp only [if_true] at h
      have e2 : lenI (4 : Int).toNat (r : Int) = (lenN 4 r : Nat) := len_nat (k := 4) (by omega) (by omega)
      rw [e2] at h
      exact h)
  have LS : Hid (skyL.length ≤ maxLen) := Lib.hid (by rw [skyL, skyN_len]; unfold maxLen; omega)
  rcases st_cases (riP (1 + u) (1 + v)) with h0 | ⟨h4, hnil⟩
  · have hcnt := ri_cnt h1 h2 h3
    have hsz : szV (stL (riP (1 + u) (1 + v))) = ((cntP (riP (1 + u) (1 + v)) 3072 : Nat) : Int) := by
      rw [szV, if_pos (st_valid _), cnt_congr 3072 fun q hq => st_in h0 hq]
    have hve : vaE (stL (riP (1 + u) (1 + v))) = 0 := by rw [vaE, if_pos (st_valid _)]
    rw [h0] at CR
    rw [hsz, hve] at CS
    obtain ⟨N, hN⟩ : ∃ N, N = cntP (riP (1 + u) (1 + v)) 3072 := ⟨_, rfl⟩
    rw [← hN] at CS hcnt
    have HB := Lib.hid hcnt
    have HM : Hid (∀ r, 1 + u - 1 ≤ r → r ≤ 63 → bef 4 (1 + u - 1) ≤ bef 4 r ∧ bef 4 r ≤ 4032) := Lib.hid (fun r hr hr2 => ⟨bef_up hr, bef_bd hr2⟩)
    have HN1 : Hid (∀ r, 1 ≤ r → bef 4 r = bef 4 (r - 1) + lenN 4 r) := Lib.hid (fun r hr => bef_one hr)
    have CR := Lib.hid CR
    have CS := Lib.hid CS
    clear cF hN hsz hve h0 hcnt eL eE hok
    have hW0 : Below w.heap.size w w := Below.refl _ _
    go_enter Try.func16, Try.ntmps16
    go_wp2
    go_quiet (fail)
    rw [EU.out, EV.out]
    go_wp2_with (first
      | (go_at_call 60; with_reducible refine (CR.out _).mono ?_; rintro e w1 ⟨A1, c1, rfl, hO1, hB1⟩; have hW1 := below_step (below_drewN hW0 _) hB1; clear hB1)
      | (go_at_call 46; with_reducible refine (CS.out _ _ _ hO1.marks).mono ?_; rintro e w2 ⟨rfl, hB2⟩; have hW2 := below_step hW1 hB2; clear hB2)
      | fail)
    go_loopw [14, 13] (fun i s wr => ∃ (r S : Nat), 1 + u ≤ r ∧ r ≤ 1 + v + 1 ∧ i = .int .i64 r ∧ s = .int .i64 S ∧ Hid (S + bef 4 (1 + u - 1) = bef 4 (r - 1)) ∧ wr = w2) (fun i _ _ => 1 + v + 1 - (intOf i).toNat)
    case atStart => exact ⟨1 + u, 0, Nat.le_refl _, by omega, by go_num, rfl, Lib.hid (by omega), rfl⟩
    case round =>
      obtain ⟨r, S, hra, hrb, rfl, rfl, hS, rfl⟩ := hrel
      by_cases hlt : r ≤ 1 + v
      · have tq : decide ((r : Int) ≤ 1 + (v : Int)) = true := decide_eq_true (by omega)
        have CLr := Lib.hid (CL.out r (by omega) (by omega))
        have e1 := HN1.out r (by omega)
        have m1 := HM.out r (by omega) (by omega)
        have m2 := HM.out (r - 1) (by omega) (by omega)
        have e2 := hS.out
        obtain ⟨L, hL⟩ : ∃ L, L = lenN 4 r := ⟨_, rfl⟩
        rw [← hL] at CLr e1
        have hSL : S + L ≤ 4032 := by omega
        have HS2 : Hid (S + L + bef 4 (1 + u - 1) = bef 4 (r + 1 - 1)) := Lib.hid (by rw [Nat.add_sub_cancel]; omega)
        clear e1 e2 m1 m2 hL
        go_wp2_with (go_at_call 31; refine (CLr.out _).mono ?_; rintro e w3 ⟨rfl, rfl⟩)
        go_roundw
        case rel => exact ⟨r + 1, S + L, by omega, by omega, by go_num, by go_num, HS2, by first | rfl | trivial⟩
        case measure => simp [intOf]; omega
      · obtain rfl : r = 1 + v + 1 := by omega
        have tq : decide (((1 + v + 1 : Nat) : Int) ≤ 1 + (v : Int)) = false := decide_eq_false (by omega)
        obtain rfl : N = S := by
          have e1 := HB.out
          have e2 := hS.out
          rw [Nat.add_sub_cancel] at e2
          omega
        go_wp2_with (first
          | (go_at_call 60; with_reducible refine (CF.out _).mono ?_; rintro e w4 ⟨A4, c4, rfl, hO4, hB4⟩; have hW4 := below_step hW2 hB4; clear hB4)
          | (go_at_call 63; refine (refSky_any _).mono ?_; rintro e w5 ⟨A5, c5, rfl, hO5, hB5⟩; have hO4 := hO4.below hB5; have hW5 := below_step hW4 hB5; clear hB5)
          | (go_at_call 45; with_reducible refine (sameCells_same skyL _ _ _ _ _ hO4.marks hO5.marks LS.out).mono ?_; rintro e w6 ⟨rfl, hB6⟩; have hW6 := below_step hW5 hB6; clear hB6)
          | (go_at_call 28; refine (sane_any _).mono ?_; rintro e w13 ⟨rfl, hB13⟩)
          | fail)
        go_ret
        exact ⟨rfl, below_step hW6 hB13⟩
  · rw [h4, hnil] at CR
    have CR := Lib.hid CR
    clear cF hok eL eE h4 hnil CS
    have hW0 : Below w.heap.size w w := Below.refl _ _
    go_enter Try.func16, Try.ntmps16
    go_wp2
    go_quiet (fail)
    rw [EU.out, EV.out]
    go_wp2_with (first
      | (go_at_call 60; with_reducible refine (CR.out _).mono ?_; rintro e w1 ⟨A1, c1, rfl, hO1, hB1⟩; have hW1 := below_step (below_drewN hW0 _) hB1; clear hB1)
      | (go_at_call 28; refine (sane_any _).mono ?_; rintro e w13 ⟨rfl, hB13⟩)
      | fail)
    go_ret
    exact ⟨rfl, below_step hW1 hB13⟩
set_option maxRecDepth 100000 in
set_option maxHeartbeats 800000 in
theorem skyAll_eq (x y : Int) (u v : Nat) (w : World) (hx : 0 ≤ x ∧ x ≤ 255) (hy : 0 ≤ y ∧ y ≤ 255) (EU : Hid (x % 63 = (u : Int))) (EV : Hid (y % 63 = (v : Int))) (hu : u < 63) (hv : v < 63) (hc : u = v) :
    Calls Try.prog 16 #[.int .u8 x, .int .u8 y] w fun e w' => e = .returned (.bool true) ∧ Below w.heap.size w w' := by
  obtain ⟨x0, x1⟩ := hx
  obtain ⟨y0, y1⟩ := hy
  obtain rfl : u = v := hc
  have h1 : 1 ≤ 1 + u := by omega
  have h2 : 1 + u ≤ 1 + u := by omega
  have h3 : 1 + u ≤ 63 := by omega
  have hok : riOk ((1 + u : Nat) : Int) ((1 + u : Nat) : Int) = true := by simp [riOk]; omega
  have eL : riL ((1 + u : Nat) : Int) ((1 + u : Nat) : Int) = stL (riP (1 + u) (1 + u)) := by rw [riL, hok]; rfl
  have eE : riE ((1 + u : Nat) : Int) ((1 + u : Nat) : Int) = stE (riP (1 + u) (1 + u)) := by rw [riE, hok]; rfl
  have CR := fun W => skyRings_any ((1 + u : Nat) : Int) ((1 + u : Nat) : Int) W
  rw [eL, eE] at CR
  rw [show ((1 + u : Nat) : Int) = 1 + (u : Int) from by omega] at CR
  have CS := fun A c W (hM : Marks W A (stL (riP (1 + u) (1 + u)))) => skySize_any (stL (riP (1 + u) (1 + u))) A c W hM (by have := stL_len (riP (1 + u) (1 + u)); unfold maxLen; omega)
  have cF := fun W => skyRings_any 1 63 W
  rw [ri_sky.1, ri_sky.2] at cF
  have CF := Lib.hid cF
  have CL : Hid (∀ r : Nat, 1 ≤ r → r ≤ 63 → ∀ W, Calls Try.prog 31 #[.int .i64 4, .int .i64 (r : Int)] W fun e w' => e = .returned (.tuple #[.int .i64 (lenN 4 r : Nat), .int .i64 0]) ∧ W = w') :=
    Lib.hid (fun r hr hr2 W => (skyLength_any 4 r W).mono fun e w' h => by
      have e1 : okR 4 (r : Int) = true := by rw [okR_four]; simp; omega
      rw [lnV, e1, okE] at h
      simp only [if_true] at h
      have e2 : lenI (4 : Int).toNat (r : Int) = (lenN 4 r : Nat) := len_nat (k := 4) (by omega) (by omega)
      rw [e2] at h
      exact h)
  have LS : Hid (skyL.length ≤ maxLen) := Lib.hid (by rw [skyL, skyN_len]; unfold maxLen; omega)
  rcases st_cases (riP (1 + u) (1 + u)) with h0 | ⟨h4, hnil⟩
  · have hcnt := ri_cnt h1 h2 h3
    have hsz : szV (stL (riP (1 + u) (1 + u))) = ((cntP (riP (1 + u) (1 + u)) 3072 : Nat) : Int) := by
      rw [szV, if_pos (st_valid _), cnt_congr 3072 fun q hq => st_in h0 hq]
    have hve : vaE (stL (riP (1 + u) (1 + u))) = 0 := by rw [vaE, if_pos (st_valid _)]
    rw [h0] at CR
    rw [hsz, hve] at CS
    obtain ⟨N, hN⟩ : ∃ N, N = cntP (riP (1 + u) (1 + u)) 3072 := ⟨_, rfl⟩
    rw [← hN] at CS hcnt
    have HB := Lib.hid hcnt
    have HM : Hid (∀ r, 1 + u - 1 ≤ r → r ≤ 63 → bef 4 (1 + u - 1) ≤ bef 4 r ∧ bef 4 r ≤ 4032) := Lib.hid (fun r hr hr2 => ⟨bef_up hr, bef_bd hr2⟩)
    have HN1 : Hid (∀ r, 1 ≤ r → bef 4 r = bef 4 (r - 1) + lenN 4 r) := Lib.hid (fun r hr => bef_one hr)
    have CR := Lib.hid CR
    have CS := Lib.hid CS
    clear cF hN hsz hve h0 hcnt eL eE hok
    have hW0 : Below w.heap.size w w := Below.refl _ _
    go_enter Try.func16, Try.ntmps16
    go_wp2
    go_quiet (fail)
    rw [EU.out, EV.out]
    go_wp2_with (first
      | (go_at_call 60; with_reducible refine (CR.out _).mono ?_; rintro e w1 ⟨A1, c1, rfl, hO1, hB1⟩; have hW1 := below_step (below_drewN hW0 _) hB1; clear hB1)
      | (go_at_call 46; with_reducible refine (CS.out _ _ _ hO1.marks).mono ?_; rintro e w2 ⟨rfl, hB2⟩; have hW2 := below_step hW1 hB2; clear hB2)
      | fail)
    go_loopw [14, 13] (fun i s wr => ∃ (r S : Nat), 1 + u ≤ r ∧ r ≤ 1 + u + 1 ∧ i = .int .i64 r ∧ s = .int .i64 S ∧ Hid (S + bef 4 (1 + u - 1) = bef 4 (r - 1)) ∧ wr = w2) (fun i _ _ => 1 + u + 1 - (intOf i).toNat)
    case atStart => exact ⟨1 + u, 0, Nat.le_refl _, by omega, by go_num, rfl, Lib.hid (by omega), rfl⟩
    case round =>
      obtain ⟨r, S, hra, hrb, rfl, rfl, hS, rfl⟩ := hrel
      by_cases hlt : r ≤ 1 + u
      · have tq : decide ((r : Int) ≤ 1 + (u : Int)) = true := decide_eq_true (by omega)
        have CLr := Lib.hid (CL.out r (by omega) (by omega))
        have e1 := HN1.out r (by omega)
        have m1 := HM.out r (by omega) (by omega)
        have m2 := HM.out (r - 1) (by omega) (by omega)
        have e2 := hS.out
        obtain ⟨L, hL⟩ : ∃ L, L = lenN 4 r := ⟨_, rfl⟩
        rw [← hL] at CLr e1
        have hSL : S + L ≤ 4032 := by omega
        have HS2 : Hid (S + L + bef 4 (1 + u - 1) = bef 4 (r + 1 - 1)) := Lib.hid (by rw [Nat.add_sub_cancel]; omega)
        clear e1 e2 m1 m2 hL
        go_wp2_with (go_at_call 31; refine (CLr.out _).mono ?_; rintro e w3 ⟨rfl, rfl⟩)
        go_roundw
        case rel => exact ⟨r + 1, S + L, by omega, by omega, by go_num, by go_num, HS2, by first | rfl | trivial⟩
        case measure => simp [intOf]; omega
      · obtain rfl : r = 1 + u + 1 := by omega
        have tq : decide (((1 + u + 1 : Nat) : Int) ≤ 1 + (u : Int)) = false := decide_eq_false (by omega)
        obtain rfl : N = S := by
          have e1 := HB.out
          have e2 := hS.out
          rw [Nat.add_sub_cancel] at e2
          omega
        go_wp2_with (first
          | (go_at_call 60; with_reducible refine (CF.out _).mono ?_; rintro e w4 ⟨A4, c4, rfl, hO4, hB4⟩; have hW4 := below_step hW2 hB4; clear hB4)
          | (go_at_call 63; refine (refSky_any _).mono ?_; rintro e w5 ⟨A5, c5, rfl, hO5, hB5⟩; have hO4 := hO4.below hB5; have hW5 := below_step hW4 hB5; clear hB5)
          | (go_at_call 45; with_reducible refine (sameCells_same skyL _ _ _ _ _ hO4.marks hO5.marks LS.out).mono ?_; rintro e w6 ⟨rfl, hB6⟩; have hW6 := below_step hW5 hB6; clear hB6)
          | (go_at_call 28; refine (sane_any _).mono ?_; rintro e w13 ⟨rfl, hB13⟩)
          | fail)
        go_ret
        exact ⟨rfl, below_step hW6 hB13⟩
  · rw [h4, hnil] at CR
    have CR := Lib.hid CR
    clear cF hok eL eE h4 hnil CS
    have hW0 : Below w.heap.size w w := Below.refl _ _
    go_enter Try.func16, Try.ntmps16
    go_wp2
    go_quiet (fail)
    rw [EU.out, EV.out]
    go_wp2_with (first
      | (go_at_call 60; with_reducible refine (CR.out _).mono ?_; rintro e w1 ⟨A1, c1, rfl, hO1, hB1⟩; have hW1 := below_step (below_drewN hW0 _) hB1; clear hB1)
      | (go_at_call 28; refine (sane_any _).mono ?_; rintro e w13 ⟨rfl, hB13⟩)
      | fail)
    go_ret
    exact ⟨rfl, below_step hW1 hB13⟩
set_option maxRecDepth 100000 in
set_option maxHeartbeats 800000 in
theorem skyAll_gt (x y : Int) (u v : Nat) (w : World) (hx : 0 ≤ x ∧ x ≤ 255) (hy : 0 ≤ y ∧ y ≤ 255) (EU : Hid (x % 63 = (u : Int))) (EV : Hid (y % 63 = (v : Int))) (hu : u < 63) (hv : v < 63) (hc : v < u) :
    Calls Try.prog 16 #[.int .u8 x, .int .u8 y] w fun e w' => e = .returned (.bool true) ∧ Below w.heap.size w w' := by
  obtain ⟨x0, x1⟩ := hx
  obtain ⟨y0, y1⟩ := hy
  have t1 : ¬ (u : Int) ≤ v := by omega
  have t2 : (v : Int) ≤ u := by omega
  have h1 : 1 ≤ 1 + v := by omega
  have h2 : 1 + v ≤ 1 + u := by omega
  have h3 : 1 + u ≤ 63 := by omega
  have hok : riOk ((1 + v : Nat) : Int) ((1 + u : Nat) : Int) = true := by simp [riOk]; omega
  have eL : riL ((1 + v : Nat) : Int) ((1 + u : Nat) : Int) = stL (riP (1 + v) (1 + u)) := by rw [riL, hok]; rfl
  have eE : riE ((1 + v : Nat) : Int) ((1 + u : Nat) : Int) = stE (riP (1 + v) (1 + u)) := by rw [riE, hok]; rfl
  have CR := fun W => skyRings_any ((1 + v : Nat) : Int) ((1 + u : Nat) : Int) W
  rw [eL, eE] at CR
  rw [show ((1 + v : Nat) : Int) = 1 + (v : Int) from by omega, show ((1 + u : Nat) : Int) = 1 + (u : Int) from by omega] at CR
  have CS := fun A c W (hM : Marks W A (stL (riP (1 + v) (1 + u)))) => skySize_any (stL (riP (1 + v) (1 + u))) A c W hM (by have := stL_len (riP (1 + v) (1 + u)); unfold maxLen; omega)
  have cF := fun W => skyRings_any 1 63 W
  rw [ri_sky.1, ri_sky.2] at cF
  have CF := Lib.hid cF
  have CL : Hid (∀ r : Nat, 1 ≤ r → r ≤ 63 → ∀ W, Calls Try.prog 31 #[.int .i64 4, .int .i64 (r : Int)] W fun e w' => e = .returned (.tuple #[.int .i64 (lenN 4 r : Nat), .int .i64 0]) ∧ W = w') :=
    Lib.hid (fun r hr hr2 W => (skyLength_any 4 r W).mono fun e w' h => by
      have e1 : okR 4 (r : Int) = true := by rw [okR_four]; simp; omega
      rw [lnV, e1, okE] at h
      simp only [if_true] at h
      have e2 : lenI (4 : Int).toNat (r : Int) = (lenN 4 r : Nat) := len_nat (k := 4) (by omega) (by omega)
      rw [e2] at h
      exact h)
  have LS : Hid (skyL.length ≤ maxLen) := Lib.hid (by rw [skyL, skyN_len]; unfold maxLen; omega)
  rcases st_cases (riP (1 + v) (1 + u)) with h0 | ⟨h4, hnil⟩
  · have hcnt := ri_cnt h1 h2 h3
    have hsz : szV (stL (riP (1 + v) (1 + u))) = ((cntP (riP (1 + v) (1 + u)) 3072 : Nat) : Int) := by
      rw [szV, if_pos (st_valid _), cnt_congr 3072 fun q hq => st_in h0 hq]
    have hve : vaE (stL (riP (1 + v) (1 + u))) = 0 := by rw [vaE, if_pos (st_valid _)]
    rw [h0] at CR
    rw [hsz, hve] at CS
    obtain ⟨N, hN⟩ : ∃ N, N = cntP (riP (1 + v) (1 + u)) 3072 := ⟨_, rfl⟩
    rw [← hN] at CS hcnt
    have HB := Lib.hid hcnt
    have HM : Hid (∀ r, 1 + v - 1 ≤ r → r ≤ 63 → bef 4 (1 + v - 1) ≤ bef 4 r ∧ bef 4 r ≤ 4032) := Lib.hid (fun r hr hr2 => ⟨bef_up hr, bef_bd hr2⟩)
    have HN1 : Hid (∀ r, 1 ≤ r → bef 4 r = bef 4 (r - 1) + lenN 4 r) := Lib.hid (fun r hr => bef_one hr)
    have CR := Lib.hid CR
    have CS := Lib.hid CS
    clear cF hN hsz hve h0 hcnt eL eE hok
    have hW0 : Below w.heap.size w w := Below.refl _ _
    go_enter Try.func16, Try.ntmps16
    go_wp2
    go_quiet (fail)
    rw [EU.out, EV.out]
    go_wp2_with (first
      | (go_at_call 60; with_reducible refine (CR.out _).mono ?_; rintro e w1 ⟨A1, c1, rfl, hO1, hB1⟩; have hW1 := below_step (below_drewN hW0 _) hB1; clear hB1)
      | (go_at_call 46; with_reducible refine (CS.out _ _ _ hO1.marks).mono ?_; rintro e w2 ⟨rfl, hB2⟩; have hW2 := below_step hW1 hB2; clear hB2)
      | fail)
    go_loopw [14, 13] (fun i s wr => ∃ (r S : Nat), 1 + v ≤ r ∧ r ≤ 1 + u + 1 ∧ i = .int .i64 r ∧ s = .int .i64 S ∧ Hid (S + bef 4 (1 + v - 1) = bef 4 (r - 1)) ∧ wr = w2) (fun i _ _ => 1 + u + 1 - (intOf i).toNat)
    case atStart => exact ⟨1 + v, 0, Nat.le_refl _, by omega, by go_num, rfl, Lib.hid (by omega), rfl⟩
    case round =>
      obtain ⟨r, S, hra, hrb, rfl, rfl, hS, rfl⟩ := hrel
      by_cases hlt : r ≤ 1 + u
      · have tq : decide ((r : Int) ≤ 1 + (u : Int)) = true := decide_eq_true (by omega)
        have CLr := Lib.hid (CL.out r (by omega) (by omega))
        have e1 := HN1.out r (by omega)
        have m1 := HM.out r (by omega) (by omega)
        have m2 := HM.out (r - 1) (by omega) (by omega)
        have e2 := hS.out
        obtain ⟨L, hL⟩ : ∃ L, L = lenN 4 r := ⟨_, rfl⟩
        rw [← hL] at CLr e1
        have hSL : S + L ≤ 4032 := by omega
        have HS2 : Hid (S + L + bef 4 (1 + v - 1) = bef 4 (r + 1 - 1)) := Lib.hid (by rw [Nat.add_sub_cancel]; omega)
        clear e1 e2 m1 m2 hL
        go_wp2_with (go_at_call 31; refine (CLr.out _).mono ?_; rintro e w3 ⟨rfl, rfl⟩)
        go_roundw
        case rel => exact ⟨r + 1, S + L, by omega, by omega, by go_num, by go_num, HS2, by first | rfl | trivial⟩
        case measure => simp [intOf]; omega
      · obtain rfl : r = 1 + u + 1 := by omega
        have tq : decide (((1 + u + 1 : Nat) : Int) ≤ 1 + (u : Int)) = false := decide_eq_false (by omega)
        obtain rfl : N = S := by
          have e1 := HB.out
          have e2 := hS.out
          rw [Nat.add_sub_cancel] at e2
          omega
        go_wp2_with (first
          | (go_at_call 60; with_reducible refine (CF.out _).mono ?_; rintro e w4 ⟨A4, c4, rfl, hO4, hB4⟩; have hW4 := below_step hW2 hB4; clear hB4)
          | (go_at_call 63; refine (refSky_any _).mono ?_; rintro e w5 ⟨A5, c5, rfl, hO5, hB5⟩; have hO4 := hO4.below hB5; have hW5 := below_step hW4 hB5; clear hB5)
          | (go_at_call 45; with_reducible refine (sameCells_same skyL _ _ _ _ _ hO4.marks hO5.marks LS.out).mono ?_; rintro e w6 ⟨rfl, hB6⟩; have hW6 := below_step hW5 hB6; clear hB6)
          | (go_at_call 28; refine (sane_any _).mono ?_; rintro e w13 ⟨rfl, hB13⟩)
          | fail)
        go_ret
        exact ⟨rfl, below_step hW6 hB13⟩
  · rw [h4, hnil] at CR
    have CR := Lib.hid CR
    clear cF hok eL eE h4 hnil CS
    have hW0 : Below w.heap.size w w := Below.refl _ _
    go_enter Try.func16, Try.ntmps16
    go_wp2
    go_quiet (fail)
    rw [EU.out, EV.out]
    go_wp2_with (first
      | (go_at_call 60; with_reducible refine (CR.out _).mono ?_; rintro e w1 ⟨A1, c1, rfl, hO1, hB1⟩; have hW1 := below_step (below_drewN hW0 _) hB1; clear hB1)
      | (go_at_call 28; refine (sane_any _).mono ?_; rintro e w13 ⟨rfl, hB13⟩)
      | fail)
    go_ret
    exact ⟨rfl, below_step hW1 hB13⟩
theorem skyAll_walk (x y : Int) (w : World) (hx : (Lit.int .u8 x).wf = true) (hy : (Lit.int .u8 y).wf = true) :
    Calls Try.prog 16 #[.int .u8 x, .int .u8 y] w fun e w' => e = .returned (.bool true) ∧ Below w.heap.size w w' := by
  have hx := u8_bd hx
  have hy := u8_bd hy
  obtain ⟨u, eu⟩ : ∃ u : Nat, x % 63 = u := ⟨(x % 63).toNat, by omega⟩
  obtain ⟨v, ev⟩ : ∃ v : Nat, y % 63 = v := ⟨(y % 63).toNat, by omega⟩
  rcases Nat.lt_trichotomy u v with h | h | h
  · exact skyAll_lt x y u v w ⟨by omega, by omega⟩ ⟨by omega, by omega⟩ (Lib.hid eu) (Lib.hid ev) (by omega) (by omega) h
  · exact skyAll_eq x y u v w ⟨by omega, by omega⟩ ⟨by omega, by omega⟩ (Lib.hid eu) (Lib.hid ev) (by omega) (by omega) h
  · exact skyAll_gt x y u v w ⟨by omega, by omega⟩ ⟨by omega, by omega⟩ (Lib.hid eu) (Lib.hid ev) (by omega) (by omega) h
end Go.Proofs.Ytnnfnphmieikmaa
