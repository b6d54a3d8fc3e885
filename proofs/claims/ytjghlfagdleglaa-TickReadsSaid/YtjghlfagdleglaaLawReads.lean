/-
  The walk of TickReads.
-/
import Derived.Test.YtjghlfagdleglaaLawRounds
namespace Go.Proofs.Ytjghlfagdleglaa
open Go.RowKit

def modR (R : Int) (cs : List Int) : List Int := cs.map (· % R)
theorem modR_get {R : Int} {cs : List Int} {k : Nat} {x : Int} (h : cs[k]? = some x) : (modR R cs)[k]? = some (x % R) := by
  rw [modR, List.getElem?_map, h]; rfl
theorem modR_len (R : Int) (cs : List Int) : (modR R cs).length = cs.length := by simp [modR]
theorem upFrom_step : ∀ {zs : List Int} {l : Int} {k : Nat} {x y : Int}, upFrom l zs = true → zs[k]? = some x → zs[k + 1]? = some y → x ≤ y
  | [], _, _, _, _, _, h, _ => by simp at h
  | [a], _, k, _, _, _, _, h => by simp at h
  | a :: b :: t, l, 0, x, y, h, hx, hy => by
    simp at hx hy; subst hx; subst hy
    simp [upFrom] at h; exact h.2.1.1
  | a :: t, l, k + 1, x, y, h, hx, hy => by
    simp only [upFrom, Bool.and_eq_true] at h
    exact upFrom_step (zs := t) (l := a) (k := k) h.2 (by simpa using hx) (by simpa using hy)
theorem vc_step {cs : List Int} {k : Nat} {x y : Int} (hv : vcB cs = true) (hx : cs[k]? = some x) (hy : cs[k + 1]? = some y) : x ≤ y := by
  simp [vcB] at hv
  exact upFrom_step hv.1 hx hy
theorem vr_mod {b : Int} {cs : List Int} (hb : bitsB b = true) (hv : vcB cs = true) : vrB b (modR (2 ^ b.toNat) cs) = true := by
  obtain ⟨h4, h32⟩ : 4 ≤ b ∧ b ≤ 32 := by simpa [bitsB] using hb
  have hp := pow_bounds h4 h32
  obtain ⟨n1, n60⟩ := vc_parts hv
  have : (modR (2 ^ b.toNat) cs).all (okR b) = true := by
    rw [List.all_eq_true]
    intro z hz
    obtain ⟨x, _, rfl⟩ := List.mem_map.1 hz
    simp [okR]
    exact ⟨Int.emod_nonneg _ (by omega), Int.emod_lt_of_pos _ (by omega)⟩
  rw [vrB, hb, this, modR_len]
  simp [n1, n60]
/-- How often a round has gone by never is more than the count says. -/
theorem rnd_quo {R : Int} {cs : List Int} (hR : 16 ≤ R) (hv : vcB cs = true) : ∀ (k : Nat) (x : Int), cs[k]? = some x → rnd (modR R cs) (k + 1) ≤ x / R
  | 0, x, hx => by
    rw [rnd_first (by omega)]
    have := vc_at hv hx
    exact Int.ediv_nonneg this.1 (by omega)
  | k + 1, y, hy => by
    obtain ⟨x, hx⟩ := getElem?_of_lt (zs := cs) (k := k) (by have := (List.getElem?_eq_some_iff.1 hy).1; omega)
    have ih := rnd_quo hR hv k x hx
    have hxy := vc_step hv hx hy
    have hx1 := Int.emod_add_mul_ediv x R
    have hy1 := Int.emod_add_mul_ediv y R
    have hle : x / R ≤ y / R := Int.ediv_le_ediv (by omega) hxy
    by_cases h : y % R < x % R
    · rw [rnd_up (by omega) (by simpa using modR_get hx) (modR_get hy) h]
      have : x / R ≠ y / R := by intro e; rw [e] at hx1; omega
      omega
    · rw [rnd_stay (by simpa using modR_get hx) (modR_get hy) h]; omega
theorem again_le {R : Int} {cs : List Int} {k : Nat} {x : Int} (hR : 16 ≤ R) (hv : vcB cs = true) (hx : cs[k]? = some x) :
    0 ≤ x - cnt R (modR R cs) k ∧ (x - cnt R (modR R cs) k) % R = 0 := by
  have h := rnd_quo hR hv k x hx
  have e : x - cnt R (modR R cs) k = (x / R - rnd (modR R cs) (k + 1)) * R := by
    rw [cnt_of (modR_get hx) rfl]
    have := Int.emod_add_mul_ediv x R
    rw [Int.sub_mul, Int.mul_comm (x / R) R]; omega
  rw [e]
  exact ⟨Int.mul_nonneg (by omega) (by omega), Int.mul_emod_left _ _⟩
/-- Whether the first count, and the steps up to the k-th, are less than a round. -/
def smB (R : Int) (cs : List Int) : Nat → Bool
  | 0 => decide (cs.getD 0 0 < R)
  | k + 1 => smB R cs k && decide (cs.getD (k + 1) 0 - cs.getD k 0 < R)
theorem smB_zero {R : Int} {cs : List Int} {x : Int} (h : cs[0]? = some x) : decide (x < R) = smB R cs 0 := by rw [smB, getD_of h]
theorem smB_next {R : Int} {cs : List Int} {k : Nat} {x y : Int} {s : Bool} (h : s = smB R cs k) (hx : cs[k]? = some x) (hy : cs[k + 1]? = some y) : (s && decide (y - x < R)) = smB R cs (k + 1) := by
  rw [smB, getD_of hx, getD_of hy, h]
theorem sm_quo {R : Int} {cs : List Int} (hR : 16 ≤ R) (hv : vcB cs = true) : ∀ (k : Nat) (x : Int), cs[k]? = some x → smB R cs k = true → rnd (modR R cs) (k + 1) = x / R
  | 0, x, hx, h => by
    rw [rnd_first (by omega)]
    have := vc_at hv hx
    simp [smB, hx] at h
    exact (Int.ediv_eq_zero_of_lt this.1 h).symm
  | k + 1, y, hy, h => by
    obtain ⟨x, hx⟩ := getElem?_of_lt (zs := cs) (k := k) (by have := (List.getElem?_eq_some_iff.1 hy).1; omega)
    rw [smB, getD_of hx, getD_of hy] at h
    simp at h
    have ih := sm_quo hR hv k x hx h.1
    have hxy := vc_step hv hx hy
    have hx1 := Int.emod_add_mul_ediv x R
    have hy1 := Int.emod_add_mul_ediv y R
    have b1 := Int.emod_nonneg x (show R ≠ 0 by omega)
    have b2 := Int.emod_nonneg y (show R ≠ 0 by omega)
    have b3 := Int.emod_lt_of_pos x (show 0 < R by omega)
    have b4 := Int.emod_lt_of_pos y (show 0 < R by omega)
    have hle : x / R ≤ y / R := Int.ediv_le_ediv (by omega) hxy
    have hlt : y / R < x / R + 2 := by
      have : y < x + R := by omega
      have h2 : y / R ≤ (x + R) / R := Int.ediv_le_ediv (by omega) (by omega)
      rw [Int.add_ediv_of_dvd_right (Int.dvd_refl R), Int.ediv_self (by omega)] at h2
      omega
    by_cases hd : y % R < x % R
    · rw [rnd_up (by omega) (by simpa using modR_get hx) (modR_get hy) hd, ih]
      have : x / R ≠ y / R := by intro e; rw [e] at hx1; omega
      omega
    · rw [rnd_stay (by simpa using modR_get hx) (modR_get hy) hd, ih]
      have : y / R ≠ x / R + 1 := by
        intro e
        rw [e, Int.mul_add] at hy1
        omega
      omega
theorem sm_down {R : Int} {cs : List Int} : ∀ {k j : Nat}, smB R cs k = true → j ≤ k → smB R cs j = true
  | 0, j, h, hj => by obtain rfl : j = 0 := by omega
                      exact h
  | k + 1, j, h, hj => by
    rcases Nat.lt_or_ge j (k + 1) with h1 | h1
    · simp [smB] at h; exact sm_down h.1 (by omega)
    · obtain rfl : j = k + 1 := by omega
      exact h
theorem sm_end {b : Int} {cs : List Int} (hb : bitsB b = true) (hv : vcB cs = true) : smB (2 ^ b.toNat) cs (cs.length - 1) = decide (cnts (2 ^ b.toNat) (modR (2 ^ b.toNat) cs) cs.length = cs) := by
  obtain ⟨h4, h32⟩ : 4 ≤ b ∧ b ≤ 32 := by simpa [bitsB] using hb
  have hp := pow_bounds h4 h32
  obtain ⟨n1, n60⟩ := vc_parts hv
  have hvr := vr_mod hb hv
  generalize hR : (2 : Int) ^ b.toNat = R at *
  rw [Bool.eq_iff_iff, decide_eq_true_iff]
  constructor
  · intro h
    apply List.ext_getElem?
    intro k
    rcases Nat.lt_or_ge k cs.length with hk | hk
    · obtain ⟨x, hx⟩ := getElem?_of_lt hk
      have h1 := sm_quo hp.1 hv k x hx (sm_down h (by omega))
      rw [cnts_get hk, hx, cnt_of (modR_get hx) h1]
      have := Int.emod_add_mul_ediv x R
      rw [Int.mul_comm (x / R) R, Int.add_comm, this]
    · rw [List.getElem?_eq_none (by rw [cnts_length]; exact hk), List.getElem?_eq_none hk]
  · intro h
    have hget : ∀ (k : Nat) (x : Int), cs[k]? = some x → x = cnt R (modR R cs) k := by
      intro k x hx
      have hk := (List.getElem?_eq_some_iff.1 hx).1
      have h1 := cnts_get (R := R) (zs := modR R cs) (n := cs.length) hk
      rw [h, hx] at h1
      exact Option.some.inj h1
    have key : ∀ k, k < cs.length → smB R cs k = true := by
      intro k
      induction k with
      | zero =>
        intro hk
        obtain ⟨x, hx⟩ := getElem?_of_lt hk
        have h1 := hget 0 x hx
        rw [cnt_of (modR_get hx) (rnd_first (by omega))] at h1
        have := Int.emod_lt_of_pos x (show 0 < R by omega)
        simp [smB, hx]
        simp [rnd] at h1
        omega
      | succ k ih =>
        intro hk
        obtain ⟨x, hx⟩ := getElem?_of_lt (show k < cs.length by omega)
        obtain ⟨y, hy⟩ := getElem?_of_lt hk
        rw [smB, ih (by omega), getD_of hx, getD_of hy, hget _ _ hx, hget _ _ hy]
        have := (cnt_step (R := R) (zs := modR R cs) (k := k) (fun j u hj => by have := vr_at hvr hj; rw [hR] at this; exact this) (by rw [modR_len]; exact hk)).2
        simpa using this
    exact key _ (by omega)

set_option maxRecDepth 100000 in
set_option maxHeartbeats 1000000 in
theorem tickReads_walk (b : Int) (cs : List Int) (A : Option Addr) (c : Nat) (w : World) (_hb : (Lit.int .i64 b).wf = true)
    (hA : Ints w A cs) (hc : cs.length ≤ c) (hc0 : c ≤ maxLen) :
    Calls Try.prog 8 #[.int .i64 b, .slice A cs.length c] w fun e w' => e = .returned (.bool true) ∧ Below w.heap.size w w' := by
  have hc1 : cs.length ≤ maxLen := Nat.le_trans hc hc0
  clear hc hc0
  have HA := Lib.hid hA
  have HC1 := Lib.hid hc1
  clear hA hc1
  by_cases hm : 200 < cs.length
  · have hm1 : decide (200 < cs.length) = true := decide_eq_true hm
    go_enter Try.func8, Try.ntmps8
    go_wp2_with (first
      | (go_at_call 14; refine (many_any _ _ _ _).mono ?_; rintro e w' ⟨rfl, rfl⟩)
      | (go_at_call 15; refine (awake_any _).mono ?_; rintro e w' ⟨rfl, hW⟩))
    go_ret
    exact ⟨rfl, hW⟩
  have hm3 : decide (200 < cs.length) = false := decide_eq_false hm
  by_cases hv : vcB cs = true
  · have HV := Lib.hid hv
    clear hv
    by_cases hb : bitsB b = true
    · obtain ⟨hb4, hb32⟩ : 4 ≤ b ∧ b ≤ 32 := by simpa [bitsB] using hb
      have hpw := pow_bounds hb4 hb32
      have HB := Lib.hid hb
      clear hb
      obtain ⟨hn1, hn60⟩ := vc_parts HV.out
      have HVR := Lib.hid (vr_mod HB.out HV.out)
      go_enter Try.func8, Try.ntmps8
      go_wp2_with (first
        | (go_at_call 14; refine (many_any _ _ _ _).mono ?_; rintro e w' ⟨rfl, rfl⟩)
        | (go_at_call 21; refine (refValidCounts_any _ _ _ _ HA.out HC1.out).mono ?_; rintro e w' ⟨he, rfl⟩; rw [HV.out] at he; subst he)
        | (go_at_call 51; refine (isBits_any _ _).mono ?_; rintro e w' ⟨he, rfl⟩; rw [HB.out] at he; subst he)
        | (go_at_call 23; refine (readings_any _ _ _ _ _ HA.out HC1.out).mono ?_; rintro e w1 ⟨A1, c1, xs, E, rfl, hI1, hB1, hF1⟩; obtain rfl : E = 0 := (hF1.out.2.trans (by rw [readingsE, HB.out, HV.out]; rfl)); have HX : Hid (xs = modR (2 ^ b.toNat) cs) := (hF1.out.1.trans (by rw [readingsF, HB.out, HV.out]; rfl)))
        | (go_at_call 18; refine (validReadings_any _ _ _ _ _ hI1.ints (Nat.le_trans hI1.le hI1.cap)).mono ?_; rintro e w' ⟨he, rfl⟩; rw [HX.out, HVR.out] at he; subst he)
        | (go_at_call 16; refine (counts_any _ _ _ _ _ hI1.ints (Nat.le_trans hI1.le hI1.cap)).mono ?_; rintro e w2 ⟨A2, c2, ys, E2, rfl, hI2, hB2, hF2⟩; obtain rfl : E2 = 0 := (hF2.out.2.trans (by rw [HX.out, countsE_ok HVR.out])); have HY : Hid (ys = cnts (2 ^ b.toNat) (modR (2 ^ b.toNat) cs) cs.length) := (hF2.out.1.trans (by rw [HX.out, countsF, if_pos HVR.out, modR_len])); have hyl : (((ys.length : Int) != (cs.length : Int)) = false) := (by rw [HY.out, cnts_length]; simp))
        | fail)
      have hW2 := below_step hB1 hB2
      have hIx := HA.out.below hW2
      obtain ⟨bl, off, rfl, hbk, hcx⟩ := hIx.open_ (by omega)
      have HCX := Lib.hid hcx
      have HIX := Lib.hid hIx
      have HIY := Lib.hid hI2.ints
      clear hcx hIx hI2 hI1 hF1 hF2 hB1 hB2
      obtain ⟨x0, hx0⟩ := getElem?_of_lt (show 0 < cs.length by omega)
      have hc0 : w2.cell? ⟨bl, off, none⟩ = some (.int .i64 x0) := HCX.out 0 x0 hx0
      have HX0 := Lib.hid hx0
      have j0 : 0 < cs.length := by omega
      have jR : IntKind.i64.wrap ((2 : Int) ^ b.toNat) = 2 ^ b.toNat := IntWalk.i64_in _ (by omega)
      clear hx0
      go_quiet (fail)
      clear hc0 jR
      have hW3 : Below w.heap.size w (w2.drewN nq) := below_drewN hW2 nq
      have HIX3 := Lib.hid (HIX.out.drewN nq)
      have HIY3 := Lib.hid (HIY.out.drewN nq)
      have HCX3 : Hid (∀ (k : Nat) (z : Int), cs[k]? = some z → (w2.drewN nq).cell? ⟨bl, off + k, none⟩ = some (.int .i64 z)) := HCX.out
      generalize w2.drewN nq = w3 at hW3 HIX3 HIY3 HCX3 ⊢
      clear HIX HIY HCX hW2
      obtain ⟨s0, hs0⟩ : ∃ s0 : Bool, s0 = decide (x0 < 2 ^ b.toNat) := ⟨_, rfl⟩
      go_wp2
      go_loopw [8, 9] (fun sv i wr => ∃ (k m : Nat) (s : Bool), 1 ≤ k ∧ k ≤ cs.length ∧ i = .int .i64 k ∧ sv = .bool s ∧ wr = w3.drewN m ∧ Hid (s = smB (2 ^ b.toNat) cs (k - 1))) (fun _ i _ => cs.length - (intOf i).toNat)
      case atStart => exact ⟨1, 0, _, by omega, by omega, rfl, rfl, rfl, smB_zero HX0.out⟩
      case round =>
        obtain ⟨k, m, s, hk0, hk, rfl, rfl, rfl, hs⟩ := hrel
        by_cases hlt : k < cs.length
        · obtain ⟨x, hx⟩ := getElem?_of_lt (show k - 1 < cs.length by omega)
          obtain ⟨y, hy⟩ := getElem?_of_lt (show k < cs.length by omega)
          have hcx : w3.cell? ⟨bl, off + (k - 1), none⟩ = some (.int .i64 x) := HCX3.out _ x hx
          have hcy : w3.cell? ⟨bl, off + k, none⟩ = some (.int .i64 y) := HCX3.out k y hy
          have hxa := vc_at HV.out hx
          have hya := vc_at HV.out hy
          have hnext := Lib.hid (smB_next (R := 2 ^ b.toNat) (y := y) hs.out hx (by rw [show k - 1 + 1 = k by omega]; exact hy))
          clear hx hy
          have i0 : (0 : Int) ≤ (k : Int) := by omega
          have i1 : (k : Int) < (cs.length : Int) := by omega
          have i3 : (0 : Int) ≤ (k : Int) - 1 := by omega
          have i4 : (k : Int) - 1 < (cs.length : Int) := by omega
          have i7 : (1 : Int) ≤ (k : Int) := by omega
          have i8 : (k : Int) ≤ (cs.length : Int) := by omega
          have i2 : IntKind.i64.wrap ((k : Int) - 1) = (k : Int) - 1 := IntWalk.i64_in _ (by omega)
          have i5 : ((k : Int) - 1).toNat = k - 1 := by omega
          have i6 : IntKind.i64.wrap (y - x) = y - x := IntWalk.i64_in _ (by omega)
          have jR : IntKind.i64.wrap ((2 : Int) ^ b.toNat) = 2 ^ b.toNat := IntWalk.i64_in _ (by omega)
          cases s
          · go_wp2
            go_quiet (fail)
            clear i2 i5 i6 jR
            go_wp2
            go_roundw
            case rel => exact ⟨k + 1, _, _, by omega, by omega, by go_num, rfl, rfl, by rw [show k + 1 - 1 = k - 1 + 1 by omega, ← hnext.out]; rfl⟩
            case measure => simp [intOf]; omega
          · go_wp2
            go_quiet (fail)
            clear i2 i5 i6 jR
            go_wp2
            go_roundw
            case rel => exact ⟨k + 1, _, _, by omega, by omega, by go_num, rfl, rfl, by rw [show k + 1 - 1 = k - 1 + 1 by omega, ← hnext.out]; rfl⟩
            case measure => simp [intOf]; omega
        · obtain rfl : k = cs.length := by omega
          have HS := Lib.hid (hs.out.trans (sm_end HB.out HV.out))
          clear hs
          have hW4 : Below w.heap.size w (w3.drewN m) := below_drewN hW3 m
          have HIX4 := Lib.hid (HIX3.out.drewN m)
          have HIY4 := Lib.hid (HIY3.out.drewN m)
          have HCX4 : Hid (∀ (k : Nat) (z : Int), cs[k]? = some z → (w3.drewN m).cell? ⟨bl, off + k, none⟩ = some (.int .i64 z)) := HCX3.out
          generalize w3.drewN m = w4 at hW4 HIX4 HIY4 HCX4 ⊢
          clear HIX3 HIY3 HCX3 hW3
          go_wp2
          go_loopw [84] (fun i wr => ∃ k m : Nat, k ≤ ys.length ∧ i = .int .i64 k ∧ wr = w4.drewN m) (fun i _ => ys.length - (intOf i).toNat)
          case atStart => exact ⟨0, 0, Nat.zero_le _, rfl, rfl⟩
          case round =>
            obtain ⟨k, m, hk, rfl, rfl⟩ := hrel
            by_cases hlt : k < ys.length
            · obtain ⟨ad, y, rfl, hbu, hy, hcu⟩ := HIY4.out.get hlt
              have hcu' : (w4.drewN m).cell? (ad.add k) = some (.int .i64 y) := hcu
              have hkx : k < cs.length := by rw [HY.out, cnts_length] at hlt; exact hlt
              obtain ⟨x, hx⟩ := getElem?_of_lt hkx
              have hcx : w4.cell? ⟨bl, off + k, none⟩ = some (.int .i64 x) := HCX4.out k x hx
              have hxa := vc_at HV.out hx
              have hyx : 0 ≤ x - y ∧ (x - y) % 2 ^ b.toNat = 0 := by
                have h1 := hy.out
                rw [HY.out, cnts_get hkx] at h1
                obtain rfl := Option.some.inj h1
                exact again_le hpw.1 HV.out hx
              have hy0 : 0 ≤ y := by
                have h1 := hy.out
                rw [HY.out, cnts_get hkx] at h1
                obtain rfl := Option.some.inj h1
                obtain ⟨z, hz⟩ := getElem?_of_lt (zs := modR (2 ^ b.toNat) cs) (show k < _ by rw [modR_len]; exact hkx)
                obtain ⟨h0, h1⟩ := vr_at HVR.out hz
                exact (cnt_bd (k := k) (by omega) (by omega) hpw.2 hz h0 h1).1
              clear hcu hx
              have i0 : (0 : Int) ≤ (k : Int) := by omega
              have i1 : (k : Int) < (cs.length : Int) := by omega
              have ht : decide (x < y) = false := decide_eq_false (by omega)
              have i6 : IntKind.i64.wrap (x - y) = x - y := IntWalk.i64_in _ (by omega)
              have i9 : (0 : Int) ≤ x - y := hyx.1
              have jR : IntKind.i64.wrap ((2 : Int) ^ b.toNat) = 2 ^ b.toNat := IntWalk.i64_in _ (by omega)
              have jm : (x - y) % 2 ^ b.toNat = 0 := hyx.2
              have jt : (x - y).tmod (2 ^ b.toNat) = 0 := by rw [Int.tmod_eq_emod_of_nonneg i9]; exact jm
              clear hyx
              go_wp2
              go_quiet (fail)
              clear i6 jR jm jt
              go_wp2
              go_roundw
              case rel => exact ⟨k + 1, _, by omega, by go_num, rfl⟩
              case measure => simp [intOf]; omega
            · have hW5 : Below w.heap.size w (w4.drewN m) := below_drewN hW4 m
              have HIX5 := Lib.hid (HIX4.out.drewN m)
              have HIY5 := Lib.hid (HIY4.out.drewN m)
              have HS2 : Hid (s = decide (ys = cs)) := by have := HS.out; rw [← HY.out] at this; exact this
              have hyl2 : ys.length ≤ maxLen := by rw [HY.out, cnts_length]; exact HC1.out
              have HYL := Lib.hid hyl2
              clear hyl2 HS
              generalize w4.drewN m = w5 at hW5 HIX5 HIY5 ⊢
              clear HIX4 HIY4 HCX4 hW4
              go_wp2_with (first
                | (go_at_call 22; refine (sameInts_any _ _ _ _ _ _ _ HIY5.out HIX5.out HYL.out).mono ?_; rintro e w6 ⟨he, m6, rfl⟩; rw [← HS2.out] at he; subst he)
                | (go_at_call 15; refine (awake_any _).mono ?_; rintro e w12 ⟨rfl, hW12⟩))
              go_ret
              exact ⟨rfl, below_step (below_drewN hW5 m6) hW12⟩
    · have hb2 : bitsB b = false := by simpa using hb
      go_enter Try.func8, Try.ntmps8
      go_wp2_with (first
        | (go_at_call 14; refine (many_any _ _ _ _).mono ?_; rintro e w' ⟨rfl, rfl⟩)
        | (go_at_call 21; refine (refValidCounts_any _ _ _ _ HA.out HC1.out).mono ?_; rintro e w' ⟨he, rfl⟩; rw [HV.out] at he; subst he)
        | (go_at_call 51; refine (isBits_any _ _).mono ?_; rintro e w' ⟨he, rfl⟩; rw [hb2] at he; subst he)
        | (go_at_call 15; refine (awake_any _).mono ?_; rintro e w' ⟨rfl, hW⟩))
      go_ret
      exact ⟨rfl, hW⟩
  · have hv2 : vcB cs = false := by simpa using hv
    go_enter Try.func8, Try.ntmps8
    go_wp2_with (first
      | (go_at_call 14; refine (many_any _ _ _ _).mono ?_; rintro e w' ⟨rfl, rfl⟩)
      | (go_at_call 21; refine (refValidCounts_any _ _ _ _ HA.out HC1.out).mono ?_; rintro e w' ⟨he, rfl⟩; rw [hv2] at he; subst he)
      | (go_at_call 15; refine (awake_any _).mono ?_; rintro e w' ⟨rfl, hW⟩))
    go_ret
    exact ⟨rfl, hW⟩
end Go.Proofs.Ytjghlfagdleglaa
