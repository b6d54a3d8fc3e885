/-
  The walk of TickRounds.
-/
import Derived.Test.YtjghlfagdleglaaLawCounts
namespace Go.Proofs.Ytjghlfagdleglaa
open Go.RowKit

theorem cnts_get {R : Int} {zs : List Int} {n k : Nat} (h : k < n) : (cnts R zs n)[k]? = some (cnt R zs k) := by
  rw [cnts, List.getElem?_map, List.getElem?_range h]; rfl
theorem cnt_mod {b : Int} {zs : List Int} {k : Nat} {z : Int} (hv : vrB b zs = true) (h : zs[k]? = some z) : cnt (2 ^ b.toNat) zs k % 2 ^ b.toNat = z := by
  obtain ⟨h0, h1⟩ := vr_at hv h
  exact lastC_mod h h0 h1
theorem cnt_step {R : Int} {zs : List Int} {k : Nat} (hall : ∀ (j : Nat) (u : Int), zs[j]? = some u → 0 ≤ u ∧ u < R) (h : k + 1 < zs.length) :
    0 ≤ cnt R zs (k + 1) - cnt R zs k ∧ cnt R zs (k + 1) - cnt R zs k < R := by
  obtain ⟨x, hx⟩ := getElem?_of_lt (show k < zs.length by omega)
  obtain ⟨y, hy⟩ := getElem?_of_lt h
  obtain ⟨x0, x1⟩ := hall _ _ hx
  obtain ⟨y0, y1⟩ := hall _ _ hy
  by_cases hxy : y < x
  · rw [cnt_of hy (rnd_up (by omega) (by simpa using hx) hy hxy), cnt_of hx rfl, Int.add_mul]; omega
  · rw [cnt_of hy (rnd_stay (by simpa using hx) hy hxy), cnt_of hx rfl]; omega
theorem upFrom_of : ∀ (ys : List Int) (l : Int), (∀ (j : Nat) (u : Int), ys[j]? = some u → u ≤ 1099511627776) → (∀ u : Int, ys[0]? = some u → l ≤ u) → (∀ (j : Nat) (u v : Int), ys[j]? = some u → ys[j + 1]? = some v → u ≤ v) → upFrom l ys = true
  | [], _, _, _, _ => rfl
  | y :: t, l, h1, h2, h3 => by
    simp only [upFrom, Bool.and_eq_true, decide_eq_true_eq]
    exact ⟨⟨h2 y rfl, h1 0 y rfl⟩, upFrom_of t y (fun j u hj => h1 (j + 1) u hj) (fun u hu => h3 0 y u rfl hu) (fun j u v hu hv => h3 (j + 1) u v hu hv)⟩
theorem vc_counts {b : Int} {zs : List Int} (hv : vrB b zs = true) : vcB (cnts (2 ^ b.toNat) zs zs.length) = true := by
  obtain ⟨_, ⟨h4, h32⟩, hn1, hn60⟩ := vr_parts hv
  have hp := pow_bounds h4 h32
  have hu : upFrom 0 (cnts (2 ^ b.toNat) zs zs.length) = true := by
    have hbd : ∀ (j : Nat) (u : Int), (cnts (2 ^ b.toNat) zs zs.length)[j]? = some u → 0 ≤ u ∧ u ≤ 1099511627776 := by
      intro j u hj
      have hjl : j < zs.length := by have := (List.getElem?_eq_some_iff.1 hj).1; rwa [cnts_length] at this
      rw [cnts_get hjl] at hj
      obtain ⟨z, hz⟩ := getElem?_of_lt hjl
      obtain ⟨h0, h1⟩ := vr_at hv hz
      have := cnt_bd (k := j) (by omega) (by omega) hp.2 hz h0 h1
      obtain rfl := Option.some.inj hj
      omega
    refine upFrom_of _ 0 (fun j u hj => (hbd j u hj).2) (fun u hu => (hbd 0 u hu).1) (fun j u v hu hv' => ?_)
    have hjl : j + 1 < zs.length := by have := (List.getElem?_eq_some_iff.1 hv').1; rwa [cnts_length] at this
    rw [cnts_get (by omega)] at hu
    rw [cnts_get hjl] at hv'
    obtain rfl := Option.some.inj hu
    obtain rfl := Option.some.inj hv'
    have := cnt_step (fun j u hj => vr_at hv hj) hjl
    omega
  simp [vcB, hu, cnts_length, hn1, hn60]
theorem readings_counts {b : Int} {zs : List Int} (hv : vrB b zs = true) : readingsF b (cnts (2 ^ b.toNat) zs zs.length) = zs := by
  have hb := (vr_parts hv).1
  rw [readingsF, hb, vc_counts hv]
  simp only [Bool.and_self, if_true]
  apply List.ext_getElem?
  intro k
  rcases Nat.lt_or_ge k zs.length with h | h
  · obtain ⟨z, hz⟩ := getElem?_of_lt h
    rw [List.getElem?_map, cnts_get h, hz, Option.map_some, cnt_mod hv hz]
  · rw [List.getElem?_eq_none (by simpa [cnts_length] using h), List.getElem?_eq_none h]
theorem steps_counts {b : Int} {zs : List Int} (hv : vrB b zs = true) : stepsF (cnts (2 ^ b.toNat) zs zs.length) = (List.range (zs.length - 1)).map fun i => cnt (2 ^ b.toNat) zs (i + 1) - cnt (2 ^ b.toNat) zs i := by
  rw [stepsF, vc_counts hv, if_pos rfl, stepsK, cnts_length]
  apply List.map_congr_left
  intro i hi
  have := List.mem_range.1 hi
  rw [getD_of (cnts_get (show i + 1 < zs.length by omega)), getD_of (cnts_get (show i < zs.length by omega))]
theorem rnd_le {zs : List Int} {k : Nat} : 0 ≤ rnd zs k ∧ rnd zs k ≤ k := rnd_bd zs k

set_option maxRecDepth 100000 in
set_option maxHeartbeats 1000000 in
theorem tickRounds_walk (b : Int) (rs : List Int) (A : Option Addr) (c : Nat) (w : World) (_hb : (Lit.int .i64 b).wf = true)
    (hA : Ints w A rs) (hc : rs.length ≤ c) (hc0 : c ≤ maxLen) :
    Calls Try.prog 7 #[.int .i64 b, .slice A rs.length c] w fun e w' => e = .returned (.bool true) ∧ Below w.heap.size w w' := by
  have hc1 : rs.length ≤ maxLen := Nat.le_trans hc hc0
  clear hc hc0
  have HA := Lib.hid hA
  have HC1 := Lib.hid hc1
  clear hA hc1
  by_cases hm : 200 < rs.length
  · have hm1 : decide (200 < rs.length) = true := decide_eq_true hm
    go_enter Try.func7, Try.ntmps7
    go_wp2_with (first
      | (go_at_call 14; refine (many_any _ _ _ _).mono ?_; rintro e w' ⟨rfl, rfl⟩)
      | (go_at_call 15; refine (awake_any _).mono ?_; rintro e w' ⟨rfl, hW⟩))
    go_ret
    exact ⟨rfl, hW⟩
  have hm3 : decide (200 < rs.length) = false := decide_eq_false hm
  by_cases hv : vrB b rs = true
  · obtain ⟨_, ⟨hb4, hb32⟩, hn1, hn60⟩ := vr_parts hv
    have HV := Lib.hid hv
    clear hv
    have hpw := pow_bounds hb4 hb32
    go_enter Try.func7, Try.ntmps7
    go_wp2_with (first
      | (go_at_call 14; refine (many_any _ _ _ _).mono ?_; rintro e w' ⟨rfl, rfl⟩)
      | (go_at_call 19; refine (refValidReadings_any _ _ _ _ _ HA.out HC1.out).mono ?_; rintro e w' ⟨he, rfl⟩; rw [HV.out] at he; subst he)
      | (go_at_call 16; refine (counts_any _ _ _ _ _ HA.out HC1.out).mono ?_; rintro e w1 ⟨A1, c1, ys, E, rfl, hI1, hB1, hF1⟩; obtain rfl : E = 0 := hF1.out.2.trans (countsE_ok HV.out); have HY : Hid (ys = cnts (2 ^ b.toNat) rs rs.length) := (hF1.out.1.trans (by rw [countsF, if_pos HV.out])))
      | (go_at_call 20; refine (validCounts_any _ _ _ _ hI1.ints (Nat.le_trans hI1.le hI1.cap)).mono ?_; rintro e w' ⟨he, rfl⟩; rw [HY.out, vc_counts HV.out] at he; subst he)
      | (go_at_call 23; refine (readings_any _ _ _ _ _ hI1.ints (Nat.le_trans hI1.le hI1.cap)).mono ?_; rintro e w2 ⟨A2, c2, xs, E2, rfl, hI2, hB2, hF2⟩; obtain rfl : xs = rs := (hF2.out.1.trans (by rw [HY.out, readings_counts HV.out])); obtain rfl : E2 = 0 := (hF2.out.2.trans (by rw [HY.out, readingsE, (vr_parts HV.out).1, vc_counts HV.out]; rfl)))
      | (go_at_call 25; refine (steps_any _ _ _ _ (hI1.below hB2).ints hI1.le hI1.cap).mono ?_; rintro e w3 ⟨A3, c3, zs, E3, rfl, hI3, hB3, hF3⟩; have HS : Hid (zs = stepsF (cnts (2 ^ b.toNat) xs xs.length)) := (hF3.out.1.trans (by rw [HY.out])); obtain rfl : E3 = 0 := (hF3.out.2.trans (by rw [HY.out, stepsE, vc_counts HV.out]; rfl)))
      | (go_at_call 27; refine (rounds_any _ _ _ _ _ (HA.out.below (below_step hB1 (hB2.trans (hB3.mono hB2.size)))) HC1.out).mono ?_; rintro e w4 ⟨n, E4, rfl, hB4, hF4⟩; have HN : Hid (n = rnd xs xs.length) := (hF4.out.1.trans (by rw [roundsF, if_pos HV.out])); obtain rfl : E4 = 0 := (hF4.out.2.trans (countsE_ok HV.out)))
      | fail)
    have hW4 := below_step (below_step (below_step hB1 hB2) hB3) hB4
    have hIx := HA.out.below hW4
    have hIs := hI2.below (hB3.trans (hB4.mono hB3.size))
    have hIy := hI1.below (hB2.trans ((hB3.trans (hB4.mono hB3.size)).mono hB2.size))
    have hIz := hI3.below hB4
    have hyl : ys.length = xs.length := by rw [HY.out, cnts_length]
    have hzl : zs.length = xs.length - 1 := by rw [HS.out, steps_counts HV.out]; simp
    obtain ⟨bl, off, rfl, hbk, hcx⟩ := hIx.open_ (by omega)
    obtain ⟨bl1, off1, rfl, hbk1, hcy⟩ := hIy.ints.open_ (by omega)
    obtain ⟨x0, hx0⟩ := getElem?_of_lt (show 0 < xs.length by omega)
    have hc0 : w4.cell? ⟨bl, off, none⟩ = some (.int .i64 x0) := hcx 0 x0 hx0
    have hc1 : w4.cell? ⟨bl1, off1, none⟩ = some (.int .i64 x0) := hcy 0 x0 (by rw [HY.out, cnts_get (by omega), cnt_of hx0 (rnd_first (by omega))]; simp [rnd])
    have hneq : ((zs.length : Int) != (xs.length : Int) - 1) = false := by rw [hzl]; simp; omega
    have j0 : 0 < xs.length := by omega
    have j1 : 0 < ys.length := by omega
    have j2 : IntKind.i64.wrap ((xs.length : Int) - 1) = (xs.length : Int) - 1 := IntWalk.i64_in _ (by omega)
    have HIX := Lib.hid hIx
    have HIZ := Lib.hid hIz
    have HZL := Lib.hid hzl
    have HCX := Lib.hid hcx
    have HIS := Lib.hid hIs
    clear hIx hIz hzl hyl hcx hcy hIs hIy hI1 hI2 hI3 hx0 hF1 hF2 hF3 hF4 hB1 hB2 hB3 hB4 HY
    go_quiet ((go_at_call 22; exact Calls.quiet_of (sameInts_same _ _ _ _ _ _ (HIS.out.ints.drewN _) (HIX.out.drewN _) HC1.out)))
    clear hc0 hc1 hneq j2
    have hW5 : Below w.heap.size w (w4.drewN nq) := below_drewN hW4 nq
    have HZ5 := Lib.hid (HIZ.out.ints.drewN nq)
    have HCX5 : Hid (∀ (k : Nat) (z : Int), xs[k]? = some z → (w4.drewN nq).cell? ⟨bl, off + k, none⟩ = some (.int .i64 z)) := HCX.out
    generalize w4.drewN nq = w5 at hW5 HZ5 HCX5 ⊢
    clear HIX HIZ HCX HIS hW4
    go_wp2
    go_loopw [12, 89] (fun d i wr => ∃ k m : Nat, k ≤ zs.length ∧ i = .int .i64 k ∧ d = .int .i64 (rnd xs (k + 1)) ∧ wr = w5.drewN m) (fun _ i _ => zs.length - (intOf i).toNat)
    case atStart => exact ⟨0, 0, Nat.zero_le _, rfl, by rw [rnd_first (by omega)]; rfl, rfl⟩
    case round =>
      obtain ⟨k, m, hk, rfl, rfl, rfl⟩ := hrel
      by_cases hlt : k < zs.length
      · obtain ⟨ad, u, rfl, hbu, hu, hcu⟩ := HZ5.out.get hlt
        have hcu' : (w5.drewN m).cell? (ad.add k) = some (.int .i64 u) := hcu
        have hkx : k + 1 < xs.length := by have := HZL.out; omega
        have hub : 0 ≤ u ∧ u < 2 ^ b.toNat := by
          have h1 := hu.out
          rw [HS.out, steps_counts HV.out, List.getElem?_map, List.getElem?_range (by omega)] at h1
          obtain rfl := Option.some.inj h1
          exact cnt_step (fun j u hj => vr_at HV.out hj) hkx
        obtain ⟨x, hx⟩ := getElem?_of_lt (show k < xs.length by omega)
        obtain ⟨y, hy⟩ := getElem?_of_lt hkx
        have hcx : w5.cell? ⟨bl, off + k, none⟩ = some (.int .i64 x) := HCX5.out k x hx
        have hcy : w5.cell? ⟨bl, off + (k + 1), none⟩ = some (.int .i64 y) := HCX5.out (k + 1) y hy
        have i0 : (0 : Int) ≤ (k : Int) := by omega
        have i1 : (k : Int) < (xs.length : Int) := by omega
        have i2 : (0 : Int) ≤ (k : Int) + 1 := by omega
        have i3 : (k : Int) + 1 < (xs.length : Int) := by omega
        have i4 : IntKind.i64.wrap ((k : Int) + 1) = (k : Int) + 1 := IntWalk.i64_in _ (by omega)
        have i5 : ((k : Int) + 1).toNat = k + 1 := by omega
        have hrb := rnd_bd xs (k + 1)
        clear hcu
        by_cases hxy : y < x
        · have hr := Lib.hid (rnd_up (k := k + 1) (by omega) hx hy hxy)
          have ht : decide (y < x) = true := decide_eq_true hxy
          clear hx hy
          generalize rnd xs (k + 1) = r at hrb hr ⊢
          go_wp2
          go_quiet (fail)
          clear i4 i5
          go_wp2
          go_roundw
          case rel => exact ⟨k + 1, _, by omega, by go_num, by rw [hr.out], rfl⟩
          case measure => simp [intOf]; omega
        · have hr := Lib.hid (rnd_stay (k := k + 1) hx hy hxy)
          have ht : decide (y < x) = false := decide_eq_false hxy
          clear hx hy
          generalize rnd xs (k + 1) = r at hrb hr ⊢
          go_wp2
          go_quiet (fail)
          clear i4 i5
          go_wp2
          go_roundw
          case rel => exact ⟨k + 1, _, by omega, by go_num, by rw [hr.out], rfl⟩
          case measure => simp [intOf]; omega
      · have hkl : k + 1 = xs.length := by have := HZL.out; omega
        rw [hkl]
        obtain rfl : n = rnd xs xs.length := HN.out
        clear hkl
        generalize rnd xs xs.length = n
        go_wp2_with (go_at_call 15; refine (awake_any _).mono ?_; rintro e w12 ⟨rfl, hW12⟩)
        go_ret
        exact ⟨rfl, below_step (below_drewN hW5 m) hW12⟩
  · have hv2 : vrB b rs = false := by simpa using hv
    go_enter Try.func7, Try.ntmps7
    go_wp2_with (first
      | (go_at_call 14; refine (many_any _ _ _ _).mono ?_; rintro e w' ⟨rfl, rfl⟩)
      | (go_at_call 19; refine (refValidReadings_any _ _ _ _ _ HA.out HC1.out).mono ?_; rintro e w' ⟨he, rfl⟩; rw [hv2] at he; subst he)
      | (go_at_call 15; refine (awake_any _).mono ?_; rintro e w' ⟨rfl, hW⟩))
    go_ret
    exact ⟨rfl, hW⟩
end Go.Proofs.Ytjghlfagdleglaa
