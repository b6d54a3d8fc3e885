/-
  Contracts: firnref04's Dim, Mean.
-/
import Derived.Test.YtmndfcjkokolbaaRef2
namespace Go.Proofs.Ytmndfcjkokolbaa
open Go.RowKit Go.Shelf

theorem dimE_ok {ms : List (Int × Int)} {k : Nat} (hv : viB ms = true) (hk : k < depthN ms) : wrap64 ((k : Int) + 1) = (k : Int) + 1 ∧ dimE ms k = 0 := by
  have hl := (mt_ok hv).2
  have e : wrap64 ((k : Int) + 1) = (k : Int) + 1 := IntWalk.wrap64_in ((k : Int) + 1) (by unfold depthN at hk; omega)
  exact ⟨e, by rw [dimE, e]; exact lossE_ok hv (by omega) (by omega)⟩
theorem dimR_ok {ms : List (Int × Int)} {k : Nat} {d : Int} (hv : viB ms = true) (h : (mtL ms)[k]? = some d) : dimR ms k = d := by
  have hk : k < depthN ms := (List.getElem?_eq_some_iff.1 h).1
  obtain ⟨e, e0⟩ := dimE_ok hv hk
  unfold dimE at e0
  rw [dimR, lossR_of e0, e, show ((k : Int) + 1) = ((k + 1 : Nat) : Int) by omega, loss_le (by omega), sumN_succ h]; omega
theorem dimE_arg {ms : List (Int × Int)} {m : Int} (hv : viB ms = true) (h : ¬ (0 ≤ m ∧ m ≤ (depthN ms : Int) - 1)) : dimE ms m = 2 := by
  have hl := (mt_ok hv).2
  by_cases hm : 0 ≤ m ∧ m ≤ depthN ms
  · have e : m = depthN ms := by omega
    have e1 : wrap64 (m + 1) = m + 1 := IntWalk.wrap64_in (m + 1) (by unfold depthN at e; omega)
    rw [dimE, e1]
    exact lossE_arg2 hv (by omega)
  · exact lossE_arg1 hv hm
theorem dimR_no {ms : List (Int × Int)} {m E : Int} (h : dimE ms m = E) (hE : E ≠ 0) : dimR ms m = 0 := lossR_no h hE

set_option maxRecDepth 100000 in
set_option maxHeartbeats 400000 in
theorem refDim_any (ms : List (Int × Int)) (A : Option Addr) (c : Nat) (m : Int) (w : World) (h : Clk w A c ms) :
    Calls Try.prog 24 #[.slice A ms.length c, .int .i64 m] w fun e w' => ∃ r E : Int, e = .returned (.tuple #[.int .i64 r, .int .i64 E]) ∧ Below w.heap.size w w' ∧ Hid (r = dimR ms m ∧ E = dimE ms m) := by
  have H := Lib.hid h
  clear h
  cases hv : viB ms with
  | false =>
    go_enter Try.func24, Try.ntmps24
    go_wp2_with (go_at_call 22; refine (refValid_any ms _ _ _ H.out.marks H.out.len).mono ?_; rintro e w1 ⟨rfl, n, rfl⟩)
    go_ret2
    have e40 : dimE ms m = 40 := lookE_ice hv
    exact ⟨_, _, rfl, (by repeat (first | with_reducible exact Below.refl _ _ | with_reducible assumption | refine below_drewN ?_ _ | with_reducible refine Below.drew ?_ | (refine Below.setCell ?_ (by first | (simp; done) | (simp; omega) | omega) _) | (refine Below.alloc ?_ (by first | (simp; done) | (simp; omega) | omega) _))), (dimR_no e40 (by decide)).symm, e40.symm⟩
  | true =>
    have HV := Lib.hid hv
    have hlen := (mt_ok hv).2
    have s1 : IntKind.i64.wrap (((mtL ms).length : Int) - 1) = ((mtL ms).length : Int) - 1 := IntWalk.i64_in _ (by omega)
    have HS1 := Lib.hid s1
    clear s1
    by_cases ha : 0 ≤ m ∧ m ≤ (depthN ms : Int) - 1
    · have HA := Lib.hid ha
      have HA2 := Lib.hid (decide_eq_true ha)
      obtain ⟨k, rfl⟩ := Int.eq_ofNat_of_zero_le ha.1
      have hk : k < (mtL ms).length := by unfold depthN at ha; omega
      clear ha
      go_enter Try.func24, Try.ntmps24
      go_wp2_with (first
        | (go_at_call 22; refine (refValid_any ms _ _ _ H.out.marks H.out.len).mono ?_; rintro e w1 ⟨rfl, n, rfl⟩)
        | (go_at_call 58; refine (metres_any ms _ _ _ (H.out.below (below_drewN (Below.refl _ _) n)).marks HV.out).mono ?_; rintro e w2 ⟨A2, c2, xs, rfl, hO, hB2, hx⟩; obtain rfl := hx.out; have hW2 := below_step (below_drewN (Below.refl w.heap.size w) n) hB2; obtain ⟨ad, z, rfl, hbk, hz, hc⟩ := hO.ints.get hk; have s1 := HS1.out)
        | (go_at_call 65; clear s1; refine (refWithin_any _ _ _ _).mono ?_; rintro e w' ⟨rfl, rfl⟩; rw [show decide ((0 : Int) ≤ (k : Int) ∧ (k : Int) ≤ ((mtL ms).length : Int) - 1) = true from HA2.out]))
      go_ret2
      exact ⟨_, _, rfl, hW2, (dimR_ok HV.out hz.out).symm, (dimE_ok HV.out hk).2.symm⟩
    · have HA := Lib.hid ha
      have HA2 := Lib.hid (decide_eq_false ha)
      clear ha
      go_enter Try.func24, Try.ntmps24
      go_wp2_with (first
        | (go_at_call 22; refine (refValid_any ms _ _ _ H.out.marks H.out.len).mono ?_; rintro e w1 ⟨rfl, n, rfl⟩)
        | (go_at_call 58; refine (metres_any ms _ _ _ (H.out.below (below_drewN (Below.refl _ _) n)).marks HV.out).mono ?_; rintro e w2 ⟨A2, c2, xs, rfl, hO, hB2, hx⟩; obtain rfl := hx.out; have hW2 := below_step (below_drewN (Below.refl w.heap.size w) n) hB2; have s1 := HS1.out)
        | (go_at_call 65; clear s1; refine (refWithin_any _ _ _ _).mono ?_; rintro e w' ⟨rfl, rfl⟩; rw [show decide ((0 : Int) ≤ m ∧ m ≤ ((mtL ms).length : Int) - 1) = false from HA2.out]))
      go_ret2
      have e2 := dimE_arg HV.out HA.out
      exact ⟨_, _, rfl, hW2, (dimR_no e2 (by decide)).symm, e2.symm⟩

/-! ### Mean -/
theorem mean_no {n d k : Int} (h : (Int.gcd n d : Int) ≤ k) (hn : ¬ (k ∣ n ∧ k ∣ d)) : (Int.gcd n d : Int) ≤ k - 1 := by
  have : (Int.gcd n d : Int) ≠ k := fun e => hn ⟨by rw [← e]; exact Int.gcd_dvd_left n d, by rw [← e]; exact Int.gcd_dvd_right n d⟩
  omega
theorem mean_yes {n d k : Int} (hk : 2 ≤ k) (hd : 0 < d) (h : (Int.gcd n d : Int) ≤ k) (h1 : k ∣ n) (h2 : k ∣ d) :
    (Int.gcd (n / k) (d / k) : Int) ≤ k - 1 ∧ lowN (n / k) (d / k) = lowN n d ∧ lowD (n / k) (d / k) = lowD n d ∧ 1 ≤ d / k := by
  have hg : (Int.gcd n d : Int) = k := by
    have hdv : k ∣ (Int.gcd n d : Int) := Int.dvd_coe_gcd h1 h2
    have := Int.le_of_dvd (gcd_pos hd) hdv
    omega
  obtain ⟨a, rfl⟩ := h1
  obtain ⟨b, rfl⟩ := h2
  have hk0 : k ≠ 0 := by omega
  rw [Int.mul_ediv_cancel_left _ hk0, Int.mul_ediv_cancel_left _ hk0]
  have hb : 0 < b := by
    rcases Int.lt_or_le 0 b with h | h
    · exact h
    · have : k * b ≤ 0 := Int.mul_nonpos_of_nonneg_of_nonpos (by omega) h
      omega
  have h1 : (Int.gcd a b : Int) = 1 := by
    rw [Int.gcd_mul_left] at hg
    have e : (k.natAbs : Int) = k := by omega
    push_cast at hg
    rw [e] at hg
    have : k * (Int.gcd a b : Int) = k * 1 := by omega
    exact Int.eq_of_mul_eq_mul_left hk0 this
  refine ⟨by omega, ?_, ?_, by omega⟩
  · rw [lowN, lowN, h1, hg, Int.mul_ediv_cancel_left _ hk0, Int.ediv_one]
  · rw [lowD, lowD, h1, hg, Int.mul_ediv_cancel_left _ hk0, Int.ediv_one]
theorem mean_end {n d k : Int} (hd : 0 < d) (hk : k ≤ 1) (h : (Int.gcd n d : Int) ≤ k) : n = lowN n d ∧ d = lowD n d := by
  have := gcd_pos (n := n) hd
  have e : (Int.gcd n d : Int) = 1 := by omega
  exact ⟨by rw [lowN, e, Int.ediv_one], by rw [lowD, e, Int.ediv_one]⟩

set_option maxRecDepth 100000 in
set_option maxHeartbeats 1000000 in
theorem refMean_any (ms : List (Int × Int)) (A : Option Addr) (c : Nat) (a b : Int) (w : World) (h : Clk w A c ms) :
    Calls Try.prog 28 #[.slice A ms.length c, .int .i64 a, .int .i64 b] w fun e w' => ∃ n d E : Int, e = .returned (.tuple #[.agg #[.int .i64 n, .int .i64 d], .int .i64 E]) ∧ Below w.heap.size w w' ∧ Hid (n = meanN ms a b ∧ d = meanD ms a b ∧ E = meanE ms a b) := by
  have H := Lib.hid h
  clear h
  have hB0 : Below w.heap.size w (w.alloc (.cells #[.int .i64 0, .int .i64 0] 31)) := (by repeat (first | with_reducible exact Below.refl _ _ | with_reducible assumption | refine below_drewN ?_ _ | with_reducible refine Below.drew ?_ | (refine Below.setCell ?_ (by first | (simp; done) | (simp; omega) | omega) _) | (refine Below.alloc ?_ (by first | (simp; done) | (simp; omega) | omega) _)))
  by_cases h0 : lossE ms a b = 0
  · have H0 := Lib.hid h0
    obtain ⟨hv, ⟨ha0, ha1⟩, hb0, hb1⟩ := lossE_in h0
    have hok := mt_ok hv
    have hbd := loss_bd hok a b
    have hlen := hok.2
    unfold depthN at ha1 hb1
    obtain ⟨x, rfl⟩ := Int.eq_ofNat_of_zero_le ha0
    obtain ⟨y, rfl⟩ := Int.eq_ofNat_of_zero_le hb0
    clear h0 hok
    by_cases hxy : (x : Int) = y
    · have HXY := Lib.hid hxy
      have t2 : (x == y) = true := by simp; omega
      go_enter Try.func28, Try.ntmps28
      clear hxy
      go_wp2_with (go_at_call 26; refine (refLoss_any ms _ _ _ _ _ (H.out.below hB0)).mono ?_; rintro e w1 ⟨r, E, rfl, hB1, hE⟩; obtain rfl : E = 0 := hE.out.2.trans H0.out; have c0 : w1.cell? ⟨w.heap.size, 0, none⟩ = some (.int .i64 0) := (hB1.cell (p := ⟨w.heap.size, 0, none⟩) (by simp)).trans (by go_simp); have c1 : w1.cell? ⟨w.heap.size, 1, none⟩ = some (.int .i64 0) := (hB1.cell (p := ⟨w.heap.size, 1, none⟩) (by simp)).trans (by go_simp); have z0 : w1.frozen? ⟨w.heap.size, 0, none⟩ = false := (hB1.frozen (p := ⟨w.heap.size, 0, none⟩) (by simp)).trans (by go_simp); have z1 : w1.frozen? ⟨w.heap.size, 1, none⟩ = false := (hB1.frozen (p := ⟨w.heap.size, 1, none⟩) (by simp)).trans (by go_simp); have hz1 := hB1.size; simp at hz1; have hz3 : w.heap.size < w1.heap.size := (by omega))
      have hW : Below w.heap.size w w1 := hB0.trans (hB1.mono (by simp))
      refine bodyPost_ret (v := .tuple #[.agg #[.int .i64 0, .int .i64 0], .int .i64 2]) (by simp [results, Try.results28, go_sem, (two_set (v0 := .int .i64 0) (v1 := .int .i64 0) c0 c1).1, (two_set (v0 := .int .i64 0) (v1 := .int .i64 0) c0 c1).2]) rfl ⟨0, 0, 2, rfl, (by repeat (first | with_reducible exact Below.refl _ _ | with_reducible assumption | refine below_drewN ?_ _ | with_reducible refine Below.drew ?_ | (refine Below.setCell ?_ (by first | (simp; done) | (simp; omega) | omega) _) | (refine Below.alloc ?_ (by first | (simp; done) | (simp; omega) | omega) _))), ?_⟩
      have e2 := meanE_same H0.out HXY.out
      exact ⟨by rw [meanN, e2]; rfl, by rw [meanD, e2]; rfl, e2.symm⟩
    · have HXY := Lib.hid hxy
      have t2 : (x == y) = false := by simp; omega
      have hfar : farI x y = max (x : Int) y - min (x : Int) y := rfl
      have hf1 : 1 ≤ farI x y ∧ farI x y ≤ 600 := by unfold farI; omega
      have HFAR := Lib.hid hfar
      clear hfar
      generalize hl : lossI (mtL ms) x y = lo at *
      generalize hf : farI x y = fa at *
      have HLF := Lib.hid (And.intro hl hf)
      obtain ⟨hi, lw, m1, m2, s1⟩ : ∃ hi lw : Int, (if x < y then (y : Int) else (x : Int)) = hi ∧ (if y < x then (y : Int) else (x : Int)) = lw ∧ IntKind.i64.wrap (hi - lw) = fa := ⟨_, _, rfl, rfl, by rw [IntWalk.i64_in _ (by split <;> split <;> omega)]; rw [HFAR.out]; split <;> split <;> omega⟩
      clear hl hf
      go_enter Try.func28, Try.ntmps28
      clear hxy
      go_wp2_with (go_at_call 26; refine (refLoss_any ms _ _ _ _ _ (H.out.below hB0)).mono ?_; rintro e w1 ⟨r, E, rfl, hB1, hE⟩; obtain rfl : E = 0 := hE.out.2.trans H0.out; obtain rfl : r = lo := hE.out.1.trans ((lossR_of H0.out).trans HLF.out.1); have c0 : w1.cell? ⟨w.heap.size, 0, none⟩ = some (.int .i64 0) := (hB1.cell (p := ⟨w.heap.size, 0, none⟩) (by simp)).trans (by go_simp); have c1 : w1.cell? ⟨w.heap.size, 1, none⟩ = some (.int .i64 0) := (hB1.cell (p := ⟨w.heap.size, 1, none⟩) (by simp)).trans (by go_simp); have z0 : w1.frozen? ⟨w.heap.size, 0, none⟩ = false := (hB1.frozen (p := ⟨w.heap.size, 0, none⟩) (by simp)).trans (by go_simp); have z1 : w1.frozen? ⟨w.heap.size, 1, none⟩ = false := (hB1.frozen (p := ⟨w.heap.size, 1, none⟩) (by simp)).trans (by go_simp); have hz1 := hB1.size; simp at hz1; have hz3 : w.heap.size < w1.heap.size := (by omega))
      have hW : Below w.heap.size w w1 := hB0.trans (hB1.mono (by simp))
      have HG0 : Hid ((Int.gcd r fa : Int) ≤ fa) := gcd_le (by omega)
      go_loopw [8, 10, 11] (fun vn vd vk wr => ∃ (n d k : Int) (q : Nat), vn = .int .i64 n ∧ vd = .int .i64 d ∧ vk = .int .i64 k ∧ wr = w1.drewN q ∧ 0 ≤ n ∧ n ≤ 60000 ∧ 1 ≤ d ∧ d ≤ 600 ∧ 1 ≤ k ∧ k ≤ 600 ∧ Hid ((Int.gcd n d : Int) ≤ k ∧ lowN n d = lowN r fa ∧ lowD n d = lowD r fa)) (fun _ _ vk _ => (intOf vk).toNat)
      case atStart => exact ⟨r, fa, fa, 0, rfl, rfl, rfl, rfl, by omega, by omega, by omega, by omega, by omega, by omega, HG0.out, rfl, rfl⟩
      case round =>
        obtain ⟨n, d, k, q, rfl, rfl, rfl, rfl, hn0, hn1, hd0, hd1, hk0, hk1, hG⟩ := hrel
        by_cases hk : 1 < k
        · have hkz : (k == 0) = false := by simp; omega
          have hkn : k ≠ 0 := by omega
          have t3 : decide (1 < k) = true := decide_eq_true hk
          by_cases hd1' : n % k = 0
          · have D1 : Hid (k ∣ n) := Int.dvd_of_emod_eq_zero hd1'
            have t4 : (n % k == 0) = true := by simpa using hd1'
            by_cases hd2 : d % k = 0
            · have D2 : Hid (k ∣ d) := Int.dvd_of_emod_eq_zero hd2
              have t5 : (d % k == 0) = true := by simpa using hd2
              have hy := mean_yes (n := n) (d := d) (k := k) (by omega) (by omega) hG.out.1 D1.out D2.out
              have q3 : n / k ≤ n := Int.ediv_le_self _ hn0
              have q4 : d / k ≤ d := Int.ediv_le_self _ (by omega)
              have q5 : 0 ≤ n / k := Int.ediv_nonneg hn0 (by omega)
              have q6 : 1 ≤ d / k := hy.2.2.2
              have q1 : IntKind.i64.wrap (n / k) = n / k := IntWalk.i64_in _ (by omega)
              have q2 : IntKind.i64.wrap (d / k) = d / k := IntWalk.i64_in _ (by omega)
              have HY := Lib.hid hy
              clear hy
              go_wp2
              go_quiet (fail)
              go_wp2
              go_roundw
              case rel => exact ⟨n / k, d / k, k - 1, _, rfl, rfl, by go_num, (by first | rfl | exact World.drewN_drewN _ _ _), q5, by omega, q6, by omega, by omega, by omega, HY.out.1, HY.out.2.1.trans hG.out.2.1, HY.out.2.2.1.trans hG.out.2.2⟩
              case measure => simp [intOf]; omega
            · have D2 : Hid (¬ (k ∣ n ∧ k ∣ d)) := fun h => hd2 (Int.emod_eq_zero_of_dvd h.2)
              have t5 : (d % k == 0) = false := by simpa using hd2
              go_wp2
              go_roundw
              case rel => exact ⟨n, d, k - 1, _, rfl, rfl, by go_num, rfl, hn0, hn1, hd0, hd1, by omega, by omega, mean_no hG.out.1 D2.out, hG.out.2⟩
              case measure => simp [intOf]; omega
          · have D2 : Hid (¬ (k ∣ n ∧ k ∣ d)) := fun h => hd1' (Int.emod_eq_zero_of_dvd h.1)
            have t4 : (n % k == 0) = false := by simpa using hd1'
            go_wp2
            go_roundw
            case rel => exact ⟨n, d, k - 1, _, rfl, rfl, by go_num, rfl, hn0, hn1, hd0, hd1, by omega, by omega, mean_no hG.out.1 D2.out, hG.out.2⟩
            case measure => simp [intOf]; omega
        · have t3 : decide (1 < k) = false := decide_eq_false hk
          go_wp2
          have e2 := meanE_ok (ms := ms) H0.out HXY.out
          have e3 := mean_end (n := n) (d := d) (by omega) (show k ≤ 1 by omega) hG.out.1
          refine bodyPost_ret (v := .tuple #[.agg #[.int .i64 n, .int .i64 d], .int .i64 0]) (by simp [results, Try.results28, go_sem, c0, c1]) rfl ⟨_, _, 0, rfl, (by repeat (first | with_reducible exact Below.refl _ _ | with_reducible assumption | refine below_drewN ?_ _ | with_reducible refine Below.drew ?_ | (refine Below.setCell ?_ (by first | (simp; done) | (simp; omega) | omega) _) | (refine Below.alloc ?_ (by first | (simp; done) | (simp; omega) | omega) _))), ?_⟩
          exact ⟨by rw [meanN, if_pos e2, HLF.out.1, HLF.out.2, ← hG.out.2.1]; exact e3.1, by rw [meanD, if_pos e2, HLF.out.1, HLF.out.2, ← hG.out.2.2]; exact e3.2, e2.symm⟩
  · have H0 := Lib.hid h0
    clear h0
    go_enter Try.func28, Try.ntmps28
    go_wp2_with (go_at_call 26; refine (refLoss_any ms _ _ _ _ _ (H.out.below hB0)).mono ?_; rintro e w1 ⟨r, E, rfl, hB1, hE⟩; have hE0 : (E == 0) = false := (by have := hE.out.2; have := H0.out; simp; omega); have hE1 : (E != 0) = true := (by simpa using hE0); have c0 : w1.cell? ⟨w.heap.size, 0, none⟩ = some (.int .i64 0) := (hB1.cell (p := ⟨w.heap.size, 0, none⟩) (by simp)).trans (by go_simp); have c1 : w1.cell? ⟨w.heap.size, 1, none⟩ = some (.int .i64 0) := (hB1.cell (p := ⟨w.heap.size, 1, none⟩) (by simp)).trans (by go_simp); have z0 : w1.frozen? ⟨w.heap.size, 0, none⟩ = false := (hB1.frozen (p := ⟨w.heap.size, 0, none⟩) (by simp)).trans (by go_simp); have z1 : w1.frozen? ⟨w.heap.size, 1, none⟩ = false := (hB1.frozen (p := ⟨w.heap.size, 1, none⟩) (by simp)).trans (by go_simp); have hz1 := hB1.size; simp at hz1; have hz3 : w.heap.size < w1.heap.size := (by omega))
    have hW : Below w.heap.size w w1 := hB0.trans (hB1.mono (by simp))
    refine bodyPost_ret (v := .tuple #[.agg #[.int .i64 0, .int .i64 0], .int .i64 E]) (by simp [results, Try.results28, go_sem, (two_set (v0 := .int .i64 0) (v1 := .int .i64 0) c0 c1).1, (two_set (v0 := .int .i64 0) (v1 := .int .i64 0) c0 c1).2]) rfl ⟨0, 0, E, rfl, (by repeat (first | with_reducible exact Below.refl _ _ | with_reducible assumption | refine below_drewN ?_ _ | with_reducible refine Below.drew ?_ | (refine Below.setCell ?_ (by first | (simp; done) | (simp; omega) | omega) _) | (refine Below.alloc ?_ (by first | (simp; done) | (simp; omega) | omega) _))), ?_⟩
    have e2 := meanE_no H0.out
    have e3 : ¬ meanE ms a b = 0 := by rw [e2]; exact H0.out
    exact ⟨by rw [meanN, if_neg e3], by rw [meanD, if_neg e3], by rw [e2]; exact hE.out.2⟩
end Go.Proofs.Ytmndfcjkokolbaa
