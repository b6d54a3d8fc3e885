/-
  Contracts: gcd of any numbers, through, Through (firnref05), Through (track).
-/
import Derived.Test.YtoilbgngefleiaaBestM
import Derived.Test.YtoilbgngefleiaaBoxes
import Derived.Test.YtoilbgngefleiaaRefPoint
import Derived.RegionTactic
import Derived.Deep.CutRange
namespace Go.Proofs.Ytoilbgngefleiaa
open Go.RowKit Go.Shelf
set_option linter.unusedVariables false
set_option linter.unusedSimpArgs false

set_option maxRecDepth 100000 in
theorem refgcd2_any (n d : Int) (w : World) (hn0 : -4611686018427387904 ≤ n) (hn1 : n ≤ 4611686018427387904) (hd0 : -4611686018427387904 ≤ d) (hd1 : d ≤ 4611686018427387904) :
    Calls Try.prog 88 #[.int .i64 n, .int .i64 d] w fun e w' => e = .returned (.int .i64 (Int.gcd n d : Int)) ∧ ∃ m, w' = w.drewN m := by
  go_enter Try.func88, Try.ntmps88
  go_wp2
  go_loopw [0, 1] (fun x y wr => ∃ (a b : Int) (m : Nat), x = .int .i64 a ∧ y = .int .i64 b ∧ wr = w.drewN m ∧ -4611686018427387904 ≤ a ∧ a ≤ 4611686018427387904 ∧ -4611686018427387904 ≤ b ∧ b ≤ 4611686018427387904 ∧ Hid (Int.gcd a b = Int.gcd n d)) (fun _ y _ => (intOf y).natAbs)
  case atStart => exact ⟨n, d, 0, rfl, rfl, rfl, hn0, hn1, by omega, hd1, rfl⟩
  case round =>
    obtain ⟨a, b, m, rfl, rfl, rfl, ha0, ha1, hb0, hb1, hg⟩ := hrel
    by_cases hb : b = 0
    · subst hb
      have HG := hg.out
      rw [Int.gcd_zero_right] at HG
      have HG2 := Lib.hid HG
      clear HG hg
      go_wp2
      all_goals
        go_ret
        refine ⟨ret_int ?_, _, rfl⟩
        rw [← HG2.out]
        omega
    · have hbb : (b == 0) = false := by simpa using hb
      have hbn : (b != 0) = true := by simpa using hb
      have hlt := tmod_lt a b hb
      have hg2 := Lib.hid ((gcd_tmod a b).trans hg.out)
      clear hg
      go_wp2
      go_quiet (fail)
      go_wp2
      go_roundw
      case rel => exact ⟨b, _, _, rfl, rfl, World.drewN_drewN _ _ _, hb0, hb1, by omega, by omega, hg2.out⟩
      case measure => simp only [intOf]; exact hlt

theorem up_quo {p q : Int × Int} (h : p.1 < q.1) {D N B g : Int} (hD : D = q.1 - p.1) (hN : N = q.2 - p.2) (hB : B = p.2 * D - N * p.1) (hg : g = (Int.gcd D N : Int)) :
    0 < g ∧ (Int.gcd g B : Int) = g ∧ N.tdiv g = upA p q ∧ B.tdiv g = upB p q ∧ D.tdiv g = upD p q := by
  have hc : g = (Int.gcd N D : Int) := by rw [hg, Int.gcd_comm]
  have h1 : 0 < g := by rw [hc]; exact gcd_pos (by omega)
  have e1 : N.tdiv g = upA p q := by rw [quo_n hc, hN, hD]; rfl
  have e2 : D.tdiv g = upD p q := by rw [quo_d hc, hN, hD]; rfl
  have dN : g ∣ N := by rw [hc]; exact Int.gcd_dvd_left N D
  have dD : g ∣ D := by rw [hc]; exact Int.gcd_dvd_right N D
  obtain ⟨x, hx⟩ := dN
  obtain ⟨y, hy⟩ := dD
  have hBg : B = g * (p.2 * y - p.1 * x) := by rw [hB, hx, hy]; grind
  have q1 : N.tdiv g = x := by rw [hx, Int.mul_tdiv_cancel_left _ (by omega)]
  have q2 : D.tdiv g = y := by rw [hy, Int.mul_tdiv_cancel_left _ (by omega)]
  refine ⟨h1, ?_, e1, ?_, e2⟩
  · have : (Int.gcd g B) = g.natAbs := Nat.gcd_eq_left (Int.natAbs_dvd_natAbs.2 ⟨_, hBg⟩)
    omega
  · rw [hBg, Int.mul_tdiv_cancel_left _ (by omega), upB, ← e1, ← e2, q1, q2]

set_option maxRecDepth 100000 in
set_option maxHeartbeats 4000000 in
theorem refThrough_any (x y u v : Int) (w : World) (hp : ptB (x, y) = true) (hq : ptB (u, v) = true) (hne : x ≠ u) :
    Calls Try.prog 71 #[.agg #[.int .i64 x, .int .i64 y], .agg #[.int .i64 u, .int .i64 v]] w fun e w' => e = .returned (.agg #[.int .i64 (thA (x, y) (u, v)), .int .i64 (thB (x, y) (u, v)), .int .i64 (thD (x, y) (u, v))]) ∧ Below w.heap.size w w' := by
  have b1 := pt_parts hp
  have b2 := pt_parts hq
  simp only at b1 b2
  clear hp hq
  by_cases hlt : u < x
  · have t1 : decide (u < x) = true := decide_eq_true hlt
    have hpq : u < x := by omega
    obtain ⟨D, hD⟩ : ∃ D, D = x - u := ⟨_, rfl⟩
    obtain ⟨N, hN⟩ : ∃ N, N = y - v := ⟨_, rfl⟩
    have b3 := mulBox (X := 1000) (Y := 200) (show -1000 ≤ v by omega) (by omega) (show -200 ≤ D by omega) (by omega)
    have b4 := mulBox (X := 2000) (Y := 100) (show -2000 ≤ N by omega) (by omega) (show -100 ≤ u by omega) (by omega)
    obtain ⟨y1, hy1⟩ : ∃ z, v * D = z := ⟨_, rfl⟩
    obtain ⟨y2, hy2⟩ : ∃ z, N * u = z := ⟨_, rfl⟩
    rw [hy1] at b3
    rw [hy2] at b4
    obtain ⟨B, hB⟩ : ∃ B, B = y1 - y2 := ⟨_, rfl⟩
    obtain ⟨g, hg⟩ : ∃ g, g = (Int.gcd D N : Int) := ⟨_, rfl⟩
    obtain ⟨hg0, hgB, eA, eB, eD⟩ := up_quo (p := (u, v)) (q := (x, y)) hpq hD hN (show B = v * D - N * u by rw [hy1, hy2]; exact hB) hg
    have hgl : g ≤ D := by rw [hg]; exact Int.le_of_dvd (by omega) (Int.gcd_dvd_left D N)
    have w1 : IntKind.i64.wrap (x - u) = D := by rw [← hD]; exact IntWalk.i64_in _ (by omega)
    have w2 : IntKind.i64.wrap (y - v) = N := by rw [← hN]; exact IntWalk.i64_in _ (by omega)
    have w3 : IntKind.i64.wrap (v * D) = y1 := by rw [hy1]; exact IntWalk.i64_in _ (by omega)
    have w4 : IntKind.i64.wrap (N * u) = y2 := by rw [hy2]; exact IntWalk.i64_in _ (by omega)
    have w5 : IntKind.i64.wrap (y1 - y2) = B := by rw [← hB]; exact IntWalk.i64_in _ (by omega)
    obtain ⟨rA, hrA⟩ : ∃ z, N.tdiv g = z := ⟨_, rfl⟩
    obtain ⟨rB, hrB⟩ : ∃ z, B.tdiv g = z := ⟨_, rfl⟩
    obtain ⟨rD, hrD⟩ : ∃ z, D.tdiv g = z := ⟨_, rfl⟩
    have HTH : Hid (thA (x, y) (u, v) = rA ∧ thB (x, y) (u, v) = rB ∧ thD (x, y) (u, v) = rD) := Lib.hid ⟨by rw [thA, if_pos hlt, ← eA, hrA], by rw [thB, if_pos hlt, ← eB, hrB], by rw [thD, if_pos hlt, ← eD, hrD]⟩
    have hup := up_bd (p := (u, v)) (q := (x, y)) (by simp [ptB, inB]; omega) (by simp [ptB, inB]; omega) hpq
    rw [← eA, ← eD, hrA, hrD] at hup
    have hBb : -400000 ≤ rB ∧ rB ≤ 400000 := by
      rw [← hrB, eB, upB, ← eA, ← eD, hrA, hrD]
      omega
    have wA : IntKind.i64.wrap (N.tdiv g) = rA := by rw [hrA]; exact IntWalk.i64_in _ (by omega)
    have wB : IntKind.i64.wrap (B.tdiv g) = rB := by rw [hrB]; exact IntWalk.i64_in _ (by omega)
    have wD : IntKind.i64.wrap (D.tdiv g) = rD := by rw [hrD]; exact IntWalk.i64_in _ (by omega)
    have HG1 : Hid (∀ V : World, Calls Try.prog 88 #[.int .i64 D, .int .i64 N] V fun e w' => e = .returned (.int .i64 g) ∧ ∃ m, w' = V.drewN m) := Lib.hid fun V => by
      have := refgcd2_any D N V (by omega) (by omega) (by omega) (by omega)
      rw [← hg] at this
      exact this
    have HG2 : Hid (∀ V : World, Calls Try.prog 88 #[.int .i64 g, .int .i64 B] V fun e w' => e = .returned (.int .i64 g) ∧ ∃ m, w' = V.drewN m) := Lib.hid fun V => by
      have := refgcd2_any g B V (by omega) (by omega) (by omega) (by omega)
      rw [hgB] at this
      exact this
    have hz : (g == 0) = false := by simp; omega
    have hz2 : ¬ g = 0 := by omega
    rw [HTH.out.1, HTH.out.2.1, HTH.out.2.2]
    clear hD hN hy1 hy2 hB hg hgB eA eB eD hrA hrB hrD hup
    go_enter Try.func71, Try.ntmps71
    go_upto_region 5 with (fail)
    obtain ⟨W0, hW0, hBW, HK, HL⟩ : ∃ W0, (((w.alloc (.cells #[.int .i64 u, .int .i64 v] 54)).alloc (.cells #[.int .i64 x, .int .i64 y] 54)).alloc (.cells #[.int .i64 0, .int .i64 0, .int .i64 0] 24)).alloc (.cells #[.int .i64 N, .int .i64 B, .int .i64 D] 24) = W0 ∧ Hid (Below w.heap.size w W0) ∧ Hid (Lt W0 (w.heap.size + 1 + 1) (.int .i64 0) (.int .i64 0) (.int .i64 0)) ∧ Hid (Lt W0 (w.heap.size + 1 + 1 + 1) (.int .i64 N) (.int .i64 B) (.int .i64 D)) :=
      ⟨_, rfl, Lib.hid ((((Below.refl _ _).alloc (Nat.le_refl _) _).alloc (by simp) _).alloc (by simp <;> omega) _ |>.alloc (by simp <;> omega) _), Lib.hid (Lt.alloc (by simpa using Lt.new ((w.alloc (.cells #[.int .i64 u, .int .i64 v] 54)).alloc (.cells #[.int .i64 x, .int .i64 y] 54)) (.int .i64 0) (.int .i64 0) (.int .i64 0)) _), Lib.hid (by simpa using Lt.new (((w.alloc (.cells #[.int .i64 u, .int .i64 v] 54)).alloc (.cells #[.int .i64 x, .int .i64 y] 54)).alloc (.cells #[.int .i64 0, .int .i64 0, .int .i64 0] 24)) (.int .i64 N) (.int .i64 B) (.int .i64 D))⟩
    rw [hW0]
    clear hW0
    have l0 := HL.out.c0
    have l1 := HL.out.c1
    have l2 := HL.out.c2
    have k0 := HK.out.c0
    have k1 := HK.out.c1
    have k2 := HK.out.c2
    have f0 := HK.out.f 0
    have f1 := HK.out.f 1
    have f2 := HK.out.f 2
    go_wp2
    go_quiet ((first
      | (go_at_call 88; with_reducible exact Calls.quiet_of (v := .int .i64 g) (HG1.out _))
      | (go_at_call 88; with_reducible exact Calls.quiet_of (v := .int .i64 g) (HG2.out _))
      | fail))
    go_wp2
    go_region
    go_wp2
    exact bodyPost_ret (v := .agg #[.int .i64 rA, .int .i64 rB, .int .i64 rD]) (by simp [results, Try.results71, go_sem, k0, k1, k2]) rfl ⟨rfl, by
      repeat (first | exact hBW.out | exact below_drewN hBW.out _ | refine Below.drew ?_ | refine Below.setCell ?_ (by simp <;> omega) _)⟩
  · have t1 : decide (u < x) = false := decide_eq_false hlt
    have hpq : x < u := by omega
    obtain ⟨D, hD⟩ : ∃ D, D = u - x := ⟨_, rfl⟩
    obtain ⟨N, hN⟩ : ∃ N, N = v - y := ⟨_, rfl⟩
    have b3 := mulBox (X := 1000) (Y := 200) (show -1000 ≤ y by omega) (by omega) (show -200 ≤ D by omega) (by omega)
    have b4 := mulBox (X := 2000) (Y := 100) (show -2000 ≤ N by omega) (by omega) (show -100 ≤ x by omega) (by omega)
    obtain ⟨y1, hy1⟩ : ∃ z, y * D = z := ⟨_, rfl⟩
    obtain ⟨y2, hy2⟩ : ∃ z, N * x = z := ⟨_, rfl⟩
    rw [hy1] at b3
    rw [hy2] at b4
    obtain ⟨B, hB⟩ : ∃ B, B = y1 - y2 := ⟨_, rfl⟩
    obtain ⟨g, hg⟩ : ∃ g, g = (Int.gcd D N : Int) := ⟨_, rfl⟩
    obtain ⟨hg0, hgB, eA, eB, eD⟩ := up_quo (p := (x, y)) (q := (u, v)) hpq hD hN (show B = y * D - N * x by rw [hy1, hy2]; exact hB) hg
    have hgl : g ≤ D := by rw [hg]; exact Int.le_of_dvd (by omega) (Int.gcd_dvd_left D N)
    have w1 : IntKind.i64.wrap (u - x) = D := by rw [← hD]; exact IntWalk.i64_in _ (by omega)
    have w2 : IntKind.i64.wrap (v - y) = N := by rw [← hN]; exact IntWalk.i64_in _ (by omega)
    have w3 : IntKind.i64.wrap (y * D) = y1 := by rw [hy1]; exact IntWalk.i64_in _ (by omega)
    have w4 : IntKind.i64.wrap (N * x) = y2 := by rw [hy2]; exact IntWalk.i64_in _ (by omega)
    have w5 : IntKind.i64.wrap (y1 - y2) = B := by rw [← hB]; exact IntWalk.i64_in _ (by omega)
    obtain ⟨rA, hrA⟩ : ∃ z, N.tdiv g = z := ⟨_, rfl⟩
    obtain ⟨rB, hrB⟩ : ∃ z, B.tdiv g = z := ⟨_, rfl⟩
    obtain ⟨rD, hrD⟩ : ∃ z, D.tdiv g = z := ⟨_, rfl⟩
    have HTH : Hid (thA (x, y) (u, v) = rA ∧ thB (x, y) (u, v) = rB ∧ thD (x, y) (u, v) = rD) := Lib.hid ⟨by rw [thA, if_neg hlt, ← eA, hrA], by rw [thB, if_neg hlt, ← eB, hrB], by rw [thD, if_neg hlt, ← eD, hrD]⟩
    have hup := up_bd (p := (x, y)) (q := (u, v)) (by simp [ptB, inB]; omega) (by simp [ptB, inB]; omega) hpq
    rw [← eA, ← eD, hrA, hrD] at hup
    have hBb : -400000 ≤ rB ∧ rB ≤ 400000 := by
      rw [← hrB, eB, upB, ← eA, ← eD, hrA, hrD]
      omega
    have wA : IntKind.i64.wrap (N.tdiv g) = rA := by rw [hrA]; exact IntWalk.i64_in _ (by omega)
    have wB : IntKind.i64.wrap (B.tdiv g) = rB := by rw [hrB]; exact IntWalk.i64_in _ (by omega)
    have wD : IntKind.i64.wrap (D.tdiv g) = rD := by rw [hrD]; exact IntWalk.i64_in _ (by omega)
    have HG1 : Hid (∀ V : World, Calls Try.prog 88 #[.int .i64 D, .int .i64 N] V fun e w' => e = .returned (.int .i64 g) ∧ ∃ m, w' = V.drewN m) := Lib.hid fun V => by
      have := refgcd2_any D N V (by omega) (by omega) (by omega) (by omega)
      rw [← hg] at this
      exact this
    have HG2 : Hid (∀ V : World, Calls Try.prog 88 #[.int .i64 g, .int .i64 B] V fun e w' => e = .returned (.int .i64 g) ∧ ∃ m, w' = V.drewN m) := Lib.hid fun V => by
      have := refgcd2_any g B V (by omega) (by omega) (by omega) (by omega)
      rw [hgB] at this
      exact this
    have hz : (g == 0) = false := by simp; omega
    have hz2 : ¬ g = 0 := by omega
    rw [HTH.out.1, HTH.out.2.1, HTH.out.2.2]
    clear hD hN hy1 hy2 hB hg hgB eA eB eD hrA hrB hrD hup
    go_enter Try.func71, Try.ntmps71
    go_upto_region 5 with (fail)
    obtain ⟨W0, hW0, hBW, HK, HL⟩ : ∃ W0, (((w.alloc (.cells #[.int .i64 x, .int .i64 y] 54)).alloc (.cells #[.int .i64 u, .int .i64 v] 54)).alloc (.cells #[.int .i64 0, .int .i64 0, .int .i64 0] 24)).alloc (.cells #[.int .i64 N, .int .i64 B, .int .i64 D] 24) = W0 ∧ Hid (Below w.heap.size w W0) ∧ Hid (Lt W0 (w.heap.size + 1 + 1) (.int .i64 0) (.int .i64 0) (.int .i64 0)) ∧ Hid (Lt W0 (w.heap.size + 1 + 1 + 1) (.int .i64 N) (.int .i64 B) (.int .i64 D)) :=
      ⟨_, rfl, Lib.hid ((((Below.refl _ _).alloc (Nat.le_refl _) _).alloc (by simp) _).alloc (by simp <;> omega) _ |>.alloc (by simp <;> omega) _), Lib.hid (Lt.alloc (by simpa using Lt.new ((w.alloc (.cells #[.int .i64 x, .int .i64 y] 54)).alloc (.cells #[.int .i64 u, .int .i64 v] 54)) (.int .i64 0) (.int .i64 0) (.int .i64 0)) _), Lib.hid (by simpa using Lt.new (((w.alloc (.cells #[.int .i64 x, .int .i64 y] 54)).alloc (.cells #[.int .i64 u, .int .i64 v] 54)).alloc (.cells #[.int .i64 0, .int .i64 0, .int .i64 0] 24)) (.int .i64 N) (.int .i64 B) (.int .i64 D))⟩
    rw [hW0]
    clear hW0
    have l0 := HL.out.c0
    have l1 := HL.out.c1
    have l2 := HL.out.c2
    have k0 := HK.out.c0
    have k1 := HK.out.c1
    have k2 := HK.out.c2
    have f0 := HK.out.f 0
    have f1 := HK.out.f 1
    have f2 := HK.out.f 2
    go_wp2
    go_quiet ((first
      | (go_at_call 88; with_reducible exact Calls.quiet_of (v := .int .i64 g) (HG1.out _))
      | (go_at_call 88; with_reducible exact Calls.quiet_of (v := .int .i64 g) (HG2.out _))
      | fail))
    go_wp2
    go_region
    go_wp2
    exact bodyPost_ret (v := .agg #[.int .i64 rA, .int .i64 rB, .int .i64 rD]) (by simp [results, Try.results71, go_sem, k0, k1, k2]) rfl ⟨rfl, by
      repeat (first | exact hBW.out | exact below_drewN hBW.out _ | refine Below.drew ?_ | refine Below.setCell ?_ (by simp <;> omega) _)⟩
end Go.Proofs.Ytoilbgngefleiaa
