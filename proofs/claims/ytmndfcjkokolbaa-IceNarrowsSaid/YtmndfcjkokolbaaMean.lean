/-
  Contracts: greatestDivisor, Mean (ice); arithmetic of lowest terms.
-/
import Derived.Test.YtmndfcjkokolbaaIce
namespace Go.Proofs.Ytmndfcjkokolbaa
open Go.RowKit Go.Shelf

theorem gcd_tmod (a b : Int) : Int.gcd b (a.tmod b) = Int.gcd a b := by
  have h : a.tmod b = a - b * a.tdiv b := by have := Int.tmod_add_mul_tdiv a b; omega
  rw [h, Int.gcd_comm b]
  rw [Int.sub_eq_add_neg, ← Int.mul_neg, Int.mul_comm, Int.gcd_add_mul_right_left]
theorem gcd_emod (a b : Int) : Int.gcd b (a % b) = Int.gcd a b := by
  have h : a % b = a - b * (a / b) := by have := Int.emod_add_mul_ediv a b; omega
  rw [h, Int.gcd_comm b]
  rw [Int.sub_eq_add_neg, ← Int.mul_neg, Int.mul_comm, Int.gcd_add_mul_right_left]

def lowN (n d : Int) : Int := n / (Int.gcd n d : Int)
def lowD (n d : Int) : Int := d / (Int.gcd n d : Int)

theorem tmod_lt (a b : Int) (hb : b ≠ 0) : (a.tmod b).natAbs < b.natAbs := by
  rw [Int.natAbs_tmod]; exact Nat.mod_lt _ (by omega)

theorem gcd_pos {n d : Int} (hd : 0 < d) : 0 < (Int.gcd n d : Int) := by
  have : Int.gcd n d ≠ 0 := by rw [Ne, Int.gcd_eq_zero_iff]; omega
  omega
theorem gcd_le {n d : Int} (hd : 0 < d) : (Int.gcd n d : Int) ≤ d := Int.le_of_dvd hd (Int.gcd_dvd_right n d)
theorem quo_n {n d g : Int} (hg : g = (Int.gcd n d : Int)) : n.tdiv g = lowN n d := by
  subst hg; rw [lowN]; exact Int.tdiv_eq_ediv_of_dvd (Int.gcd_dvd_left n d)
theorem quo_d {n d g : Int} (hg : g = (Int.gcd n d : Int)) : d.tdiv g = lowD n d := by
  subst hg; rw [lowD]; exact Int.tdiv_eq_ediv_of_dvd (Int.gcd_dvd_right n d)
theorem lowN_bd {n d : Int} (hd : 0 < d) (h0 : -4611686018427387904 ≤ n) (h1 : n ≤ 4611686018427387904) : -9223372036854775808 ≤ lowN n d ∧ lowN n d ≤ 9223372036854775807 := by
  have hg := gcd_pos (n := n) hd
  have e : lowN n d * (Int.gcd n d : Int) = n := Int.ediv_mul_cancel (Int.gcd_dvd_left n d)
  generalize (Int.gcd n d : Int) = g at *
  generalize lowN n d = q at *
  by_cases hq : 0 ≤ q
  · have : q * 1 ≤ q * g := Int.mul_le_mul_of_nonneg_left (by omega) hq
    omega
  · have : q * g ≤ q * 1 := Int.mul_le_mul_of_nonpos_left (by omega) (by omega)
    omega
theorem lowD_bd {n d : Int} (hd : 0 < d) : 1 ≤ lowD n d ∧ lowD n d ≤ d := by
  have hg := gcd_pos (n := n) hd
  have e : lowD n d * (Int.gcd n d : Int) = d := Int.ediv_mul_cancel (Int.gcd_dvd_right n d)
  generalize (Int.gcd n d : Int) = g at *
  generalize lowD n d = q at *
  have hq : 0 < q := by
    rcases Int.lt_or_le 0 q with h | h
    · exact h
    · have : q * g ≤ 0 := Int.mul_nonpos_of_nonpos_of_nonneg h (by omega)
      omega
  have : q * 1 ≤ q * g := Int.mul_le_mul_of_nonneg_left (by omega) (by omega)
  omega
theorem ret_agg2 {a b c d : Int} (h1 : a = c) (h2 : b = d) : Ending.returned (.agg #[.int .i64 a, .int .i64 b]) = .returned (.agg #[.int .i64 c, .int .i64 d]) := by rw [h1, h2]


set_option maxRecDepth 100000 in
theorem gd_any (n d : Int) (w : World) (hn0 : 0 ≤ n) (hn1 : n ≤ 1000000) (hd0 : 0 < d) (hd1 : d ≤ 1000000) :
    Calls Try.prog 68 #[.int .i64 n, .int .i64 d] w fun e w' => ∃ g : Int, e = .returned (.int .i64 g) ∧ (∃ m, w' = w.drewN m) ∧ Hid (g = (Int.gcd n d : Int)) := by
  go_enter Try.func68, Try.ntmps68
  go_wp2
  go_loopw [0, 1] (fun x y wr => ∃ (a b : Int) (m : Nat), x = .int .i64 a ∧ y = .int .i64 b ∧ wr = w.drewN m ∧ 0 ≤ a ∧ a ≤ 1000000 ∧ 0 ≤ b ∧ b ≤ 1000000 ∧ Hid (Int.gcd b a = Int.gcd n d)) (fun x _ _ => (intOf x).natAbs)
  case atStart => exact ⟨n, d, 0, rfl, rfl, rfl, hn0, hn1, by omega, hd1, Int.gcd_comm d n⟩
  case round =>
    obtain ⟨a, b, m, rfl, rfl, rfl, ha0, ha1, hb0, hb1, hg⟩ := hrel
    by_cases ha : a = 0
    · subst ha
      have HG := hg.out
      rw [Int.gcd_zero_right] at HG
      have HG2 : Hid (b = (Int.gcd n d : Int)) := by show _ = _; rw [← HG]; omega
      clear HG hg
      go_wp2
      all_goals
        go_ret
        exact ⟨b, rfl, ⟨_, rfl⟩, HG2.out⟩
    · have haa : (a == 0) = false := by simpa using ha
      have han : (a != 0) = true := by simpa using ha
      have hlt : (b % a).natAbs < a.natAbs := by rw [← Int.tmod_eq_emod_of_nonneg hb0]; exact tmod_lt b a ha
      have hnn := Int.emod_nonneg b ha
      have hg2 := Lib.hid ((gcd_emod b a).trans hg.out)
      clear hg
      go_wp2
      first
        | (go_roundw
           case rel => exact ⟨b % a, a, _, rfl, rfl, rfl, by omega, by omega, by omega, by omega, hg2.out⟩
           case measure => simp only [intOf]; exact hlt)
        | (go_quiet (fail)
           go_wp2
           go_roundw
           case rel => exact ⟨b % a, a, _, rfl, rfl, World.drewN_drewN _ _ _, by omega, by omega, by omega, by omega, hg2.out⟩
           case measure => simp only [intOf]; exact hlt)

theorem two_set {w1 : World} {g : Nat} {u0 u1 v0 v1 : Value} (h0 : w1.cell? ⟨g, 0, none⟩ = some u0) (h1 : w1.cell? ⟨g, 1, none⟩ = some u1) :
    (w1.setCell ⟨g, 0, none⟩ v0).cell? ⟨g, 0, none⟩ = some v0 ∧ ((w1.setCell ⟨g, 0, none⟩ v0).setCell ⟨g, 1, none⟩ v1).cell? ⟨g, 1, none⟩ = some v1 :=
  ⟨World.cell?_setCell_same _ _ _ h0, World.cell?_setCell_same _ _ _ ((World.cell?_setCell_other _ _ _ _ (by simp)).trans h1)⟩
/-- Metres between two depths. -/
def farI (a b : Int) : Int := max a b - min a b
def meanE (ms : List (Int × Int)) (a b : Int) : Int := if lossE ms a b = 0 ∧ a = b then 2 else lossE ms a b
def meanN (ms : List (Int × Int)) (a b : Int) : Int := if meanE ms a b = 0 then lowN (lossI (mtL ms) a b) (farI a b) else 0
def meanD (ms : List (Int × Int)) (a b : Int) : Int := if meanE ms a b = 0 then lowD (lossI (mtL ms) a b) (farI a b) else 0
theorem meanE_same {ms : List (Int × Int)} {a b : Int} (h : lossE ms a b = 0) (e : a = b) : meanE ms a b = 2 := by rw [meanE, if_pos ⟨h, e⟩]
theorem meanE_ok {ms : List (Int × Int)} {a b : Int} (h : lossE ms a b = 0) (e : a ≠ b) : meanE ms a b = 0 := by rw [meanE, if_neg (fun h => e h.2), h]
theorem meanE_no {ms : List (Int × Int)} {a b : Int} (h : lossE ms a b ≠ 0) : meanE ms a b = lossE ms a b := by rw [meanE, if_neg (fun hh => h hh.1)]

set_option maxRecDepth 100000 in
set_option maxHeartbeats 800000 in
theorem iceMean_any (ms : List (Int × Int)) (A : Option Addr) (c : Nat) (a b : Int) (w : World) (h : Clk w A c ms) :
    Calls Try.prog 27 #[.slice A ms.length c, .int .i64 a, .int .i64 b] w fun e w' => ∃ n d E : Int, e = .returned (.tuple #[.agg #[.int .i64 n, .int .i64 d], .int .i64 E]) ∧ Below w.heap.size w w' ∧ Hid (n = meanN ms a b ∧ d = meanD ms a b ∧ E = meanE ms a b) := by
  have H := Lib.hid h
  clear h
  have hB0 : Below w.heap.size w ((w.alloc (.cells #[.int .i64 0, .int .i64 0] 31)).alloc (.cells #[.int .i64 a, .int .i64 b] 3)) := (by repeat (first | with_reducible exact Below.refl _ _ | with_reducible assumption | refine below_drewN ?_ _ | with_reducible refine Below.drew ?_ | (refine Below.setCell ?_ (by first | (simp; done) | (simp; omega) | omega) _) | (refine Below.alloc ?_ (by first | (simp; done) | (simp; omega) | omega) _)))
  by_cases h0 : lossE ms a b = 0
  · have H0 := Lib.hid h0
    obtain ⟨hv, ⟨ha0, ha1⟩, hb0, hb1⟩ := lossE_in h0
    have hok := mt_ok hv
    have hbd := loss_bd hok a b
    have hlen := hok.2
    unfold depthN at ha1 hb1
    obtain ⟨x, rfl⟩ := Int.eq_ofNat_of_zero_le ha0
    obtain ⟨y, rfl⟩ := Int.eq_ofNat_of_zero_le hb0
    have HOK := Lib.hid hok
    clear h0 hok
    by_cases hxy : (x : Int) = y
    · have HXY := Lib.hid hxy
      have t1 : ((x : Int) == y) = true := by simp [hxy]
      have t2 : (x == y) = true := by simp; omega
      go_enter Try.func27, Try.ntmps27
      clear hxy
      go_wp2_with (go_at_call 60; refine (look_ok (ds := [(x : Int), (y : Int)]) (D := some ⟨w.heap.size + 1, 0, none⟩) (H.out.below hB0) (Ints.two (by go_simp) (by go_simp)) (by simp [maxLen]) H0.out).mono ?_; rintro e w1 ⟨A1, c1, rfl, hL, hB1⟩; obtain ⟨hcc, hff⟩ := bcell hB1; have c0 : w1.cell? ⟨w.heap.size, 0, none⟩ = some (.int .i64 0) := (hB1.cell (p := ⟨w.heap.size, 0, none⟩) (by simp; omega)).trans (by go_simp); have c1 : w1.cell? ⟨w.heap.size, 1, none⟩ = some (.int .i64 0) := (hB1.cell (p := ⟨w.heap.size, 1, none⟩) (by simp; omega)).trans (by go_simp); have hz1 := hB1.size; simp at hz1; have hz3 : w.heap.size < w1.heap.size := (by omega))
      have hW : Below w.heap.size w w1 := hB0.trans (hB1.mono (by simp; omega))
      refine bodyPost_ret (v := .tuple #[.agg #[.int .i64 0, .int .i64 0], .int .i64 2]) (by simp [results, Try.results27, go_sem, (two_set (v0 := .int .i64 0) (v1 := .int .i64 0) c0 c1).1, (two_set (v0 := .int .i64 0) (v1 := .int .i64 0) c0 c1).2]) rfl ⟨0, 0, 2, rfl, (by repeat (first | with_reducible exact Below.refl _ _ | with_reducible assumption | refine below_drewN ?_ _ | with_reducible refine Below.drew ?_ | (refine Below.setCell ?_ (by first | (simp; done) | (simp; omega) | omega) _) | (refine Below.alloc ?_ (by first | (simp; done) | (simp; omega) | omega) _))), ?_⟩
      have e2 := meanE_same H0.out HXY.out
      exact ⟨by rw [meanN, e2]; rfl, by rw [meanD, e2]; rfl, e2.symm⟩
    · have HXY := Lib.hid hxy
      have t1 : ((x : Int) == y) = false := by simpa using hxy
      have t2 : (x == y) = false := by simp; omega
      have hfar : farI x y = max (x : Int) y - min (x : Int) y := rfl
      have hf1 : 1 ≤ farI x y ∧ farI x y ≤ 600 := by unfold farI; omega
      have HFAR := Lib.hid hfar
      clear hfar
      generalize hl : lossI (mtL ms) x y = lo at *
      generalize hf : farI x y = fa at *
      have HLF := Lib.hid (And.intro hl hf)
      obtain ⟨hi, lw, m1, m2, s1⟩ : ∃ hi lw : Int, (if x < y then (y : Int) else (x : Int)) = hi ∧ (if y < x then (y : Int) else (x : Int)) = lw ∧ IntKind.i64.wrap (hi - lw) = fa := ⟨_, _, rfl, rfl, by rw [IntWalk.i64_in _ (by split <;> split <;> omega)]; rw [HFAR.out]; split <;> split <;> omega⟩
      go_enter Try.func27, Try.ntmps27
      clear hxy
      go_wp2_with (first
        | (go_at_call 60; refine (look_ok (ds := [(x : Int), (y : Int)]) (D := some ⟨w.heap.size + 1, 0, none⟩) (H.out.below hB0) (Ints.two (by go_simp) (by go_simp)) (by simp [maxLen]) H0.out).mono ?_; rintro e w1 ⟨A1, c1, rfl, hL, hB1⟩; have c0 : w1.cell? ⟨w.heap.size, 0, none⟩ = some (.int .i64 0) := (hB1.cell (p := ⟨w.heap.size, 0, none⟩) (by simp; omega)).trans (by go_simp); have c1 : w1.cell? ⟨w.heap.size, 1, none⟩ = some (.int .i64 0) := (hB1.cell (p := ⟨w.heap.size, 1, none⟩) (by simp; omega)).trans (by go_simp); have z0 : w1.frozen? ⟨w.heap.size, 0, none⟩ = false := (hB1.frozen (p := ⟨w.heap.size, 0, none⟩) (by simp; omega)).trans (by go_simp); have z1 : w1.frozen? ⟨w.heap.size, 1, none⟩ = false := (hB1.frozen (p := ⟨w.heap.size, 1, none⟩) (by simp; omega)).trans (by go_simp); have hz1 := hB1.size; simp at hz1; have hz3 : w.heap.size < w1.heap.size := (by omega))
        | (go_at_call 66; refine (loss_any _ _ _ x y _ hL (by omega) (by omega)).mono ?_; rintro e w2 ⟨rfl, n, rfl⟩; rw [HLF.out.1])
        | (go_at_call 68; refine (gd_any lo fa _ (by omega) (by omega) (by omega) (by omega)).mono ?_; rintro e w3 ⟨g, rfl, ⟨m, rfl⟩, hg⟩))
      have hgp : 0 < g := by rw [hg.out]; exact gcd_pos (by omega)
      have hg0 : (g == 0) = false := by simp; omega
      have hgn : g ≠ 0 := by omega
      have q1 : IntKind.i64.wrap (lo.tdiv g) = lowN lo fa := by rw [quo_n hg.out]; exact IntWalk.i64_in _ (lowN_bd (by omega) (by omega) (by omega))
      have q2 : IntKind.i64.wrap (fa.tdiv g) = lowD lo fa := by rw [quo_d hg.out]; have := lowD_bd (n := lo) (d := fa) (by omega); exact IntWalk.i64_in _ (by omega)
      go_region_held3 (fun _ => True) (trivial) ((fail))
      go_wp2
      have hW : Below w.heap.size w w1 := hB0.trans (hB1.mono (by simp; omega))
      have e2 := meanE_ok (ms := ms) H0.out HXY.out
      refine bodyPost_ret (v := .tuple #[.agg #[.int .i64 (lowN lo fa), .int .i64 (lowD lo fa)], .int .i64 0]) (by simp [results, Try.results27, go_sem, c0, c1]) rfl ⟨_, _, 0, rfl, (by repeat (first | with_reducible exact Below.refl _ _ | with_reducible assumption | refine below_drewN ?_ _ | with_reducible refine Below.drew ?_ | (refine Below.setCell ?_ (by first | (simp; done) | (simp; omega) | omega) _) | (refine Below.alloc ?_ (by first | (simp; done) | (simp; omega) | omega) _))), ?_⟩
      exact ⟨by rw [meanN, if_pos e2, HLF.out.1, HLF.out.2], by rw [meanD, if_pos e2, HLF.out.1, HLF.out.2], e2.symm⟩
  · have H0 := Lib.hid h0
    clear h0
    go_enter Try.func27, Try.ntmps27
    go_wp2_with (go_at_call 60; refine (look_no (ds := [a, b]) (D := some ⟨w.heap.size + 1, 0, none⟩) (H.out.below hB0) (Ints.two (by go_simp) (by go_simp)) (by simp [maxLen]) H0.out).mono ?_; rintro e w1 ⟨E, rfl, hE0, hB1, hE⟩; obtain ⟨hcc, hff⟩ := bcell hB1; have c0 : w1.cell? ⟨w.heap.size, 0, none⟩ = some (.int .i64 0) := (hB1.cell (p := ⟨w.heap.size, 0, none⟩) (by simp; omega)).trans (by go_simp); have c1 : w1.cell? ⟨w.heap.size, 1, none⟩ = some (.int .i64 0) := (hB1.cell (p := ⟨w.heap.size, 1, none⟩) (by simp; omega)).trans (by go_simp); have hz1 := hB1.size; simp at hz1; have hz3 : w.heap.size < w1.heap.size := (by omega))
    have hW : Below w.heap.size w w1 := hB0.trans (hB1.mono (by simp; omega))
    refine bodyPost_ret (v := .tuple #[.agg #[.int .i64 0, .int .i64 0], .int .i64 E]) (by simp [results, Try.results27, go_sem, (two_set (v0 := .int .i64 0) (v1 := .int .i64 0) c0 c1).1, (two_set (v0 := .int .i64 0) (v1 := .int .i64 0) c0 c1).2]) rfl ⟨0, 0, E, rfl, (by repeat (first | with_reducible exact Below.refl _ _ | with_reducible assumption | refine below_drewN ?_ _ | with_reducible refine Below.drew ?_ | (refine Below.setCell ?_ (by first | (simp; done) | (simp; omega) | omega) _) | (refine Below.alloc ?_ (by first | (simp; done) | (simp; omega) | omega) _))), ?_⟩
    have e2 := meanE_no H0.out
    have e3 : ¬ meanE ms a b = 0 := by rw [e2]; exact H0.out
    exact ⟨by rw [meanN, if_neg e3], by rw [meanD, if_neg e3], by rw [e2]; exact hE.out⟩
end Go.Proofs.Ytmndfcjkokolbaa
