/-
  Contracts: slices.BinarySearch at ints, areDark, AreDark (ice).
-/
import Derived.Test.YtmndfcjkokolbaaRefLight
namespace Go.Proofs.Ytmndfcjkokolbaa
open Go.RowKit Go.Shelf

theorem cmpNaN_any (x : Int) (w : World) : Calls Try.prog 102 #[.int .i64 x] w fun e w' => e = .returned (.bool false) ∧ w = w' := by
  have t : (x != x) = false := by simp
  go_enter Try.func102, Try.ntmps102
  go_wp2
  go_ret
  exact ⟨rfl, rfl⟩
theorem slNaN_any (x : Int) (w : World) : Calls Try.prog 101 #[.int .i64 x] w fun e w' => e = .returned (.bool false) ∧ w = w' := by
  have t : (x != x) = false := by simp
  go_enter Try.func101, Try.ntmps101
  go_wp2
  go_ret
  exact ⟨rfl, rfl⟩
theorem cmpLess_any (x y : Int) (w : World) : Calls Try.prog 100 #[.int .i64 x, .int .i64 y] w fun e w' => e = .returned (.bool (decide (x < y))) ∧ w = w' := by
  go_enter Try.func100, Try.ntmps100
  go_wp2_with (go_at_call 102; refine (cmpNaN_any _ _).mono ?_; rintro e w' ⟨rfl, rfl⟩)
  go_ret
  exact ⟨rfl, rfl⟩

/-- The number of what is less than a target. -/
def CutAt (xs : List Int) (t : Int) (r : Nat) : Prop := (∀ (j : Nat) (y : Int), j < r → xs[j]? = some y → y < t) ∧ (∀ (j : Nat) (y : Int), r ≤ j → xs[j]? = some y → t ≤ y)
theorem asc_le {xs : List Int} (h : Asc xs) {i j : Nat} {a b : Int} (hij : i ≤ j) (ha : xs[i]? = some a) (hb : xs[j]? = some b) : a ≤ b := by
  rcases Nat.lt_or_ge i j with hc | hc
  · have := asc_lt h (j - i - 1) i a b ha (by rw [show i + (j - i - 1) + 1 = j by omega]; exact hb)
    omega
  · obtain rfl : i = j := by omega
    rw [ha] at hb; cases hb; exact Int.le_refl _

set_option maxRecDepth 100000 in
set_option maxHeartbeats 1000000 in
theorem binary_any (xs : List Int) (A : Option Addr) (c : Nat) (t : Int) (w : World) (h : Ints w A xs) (hasc : Asc xs) (hn : xs.length ≤ 1000) :
    Calls Try.prog 97 #[.slice A xs.length c, .int .i64 t] w fun e w' => ∃ (r : Nat) (b : Bool), e = .returned (.tuple #[.int .i64 r, .bool b]) ∧ (∃ n, w' = w.drewN n) ∧ r ≤ xs.length ∧ Hid (CutAt xs t r) := by
  have H := Lib.hid h
  have HA := Lib.hid hasc
  clear h hasc
  go_enter Try.func97, Try.ntmps97
  go_wp2
  go_loopw [7, 8] (fun a b wr => ∃ lo hi n : Nat, lo ≤ hi ∧ hi ≤ xs.length ∧ a = .int .i64 lo ∧ b = .int .i64 hi ∧ wr = w.drewN n ∧ Hid ((∀ (j : Nat) (y : Int), j < lo → xs[j]? = some y → y < t) ∧ (∀ (j : Nat) (y : Int), hi ≤ j → xs[j]? = some y → t ≤ y))) (fun a b _ => (intOf b).toNat - (intOf a).toNat)
  case atStart => exact ⟨0, xs.length, 0, Nat.zero_le _, Nat.le_refl _, rfl, rfl, rfl, fun j y hj => absurd hj (Nat.not_lt_zero _), fun j y hj hy => absurd (List.getElem?_eq_some_iff.1 hy).1 (by omega)⟩
  case round =>
    obtain ⟨lo, hi, n, hlh, hin, rfl, rfl, rfl, hP⟩ := hrel
    by_cases hlt : lo < hi
    · obtain ⟨bl, o, rfl, hbk, hcells⟩ := H.out.open_ (show 0 < xs.length by omega)
      obtain ⟨md, hmd⟩ : ∃ md : Nat, md = (lo + hi) / 2 := ⟨_, rfl⟩
      have e1 : ((lo : Int) + (hi : Int)) / 2 = (md : Int) := by omega
      obtain ⟨z, hz⟩ := getElem?_of_lt (show md < xs.length by omega)
      have hc := hcells md z hz
      have HZ := Lib.hid hz
      have hm0 : lo ≤ md := by omega
      have hm1 : md < hi := by omega
      have hm2 : md < xs.length := by omega
      have j0 : (0 : Int) ≤ (md : Int) := by omega
      have j1 : (md : Int) < (xs.length : Int) := by omega
      clear hz hcells hmd
      by_cases hzt : z < t
      · have HT := Lib.hid hzt
        have t1 : decide (z < t) = true := decide_eq_true hzt
        clear hzt
        go_wp2_with (go_at_call 100; refine (cmpLess_any _ _ _).mono ?_; rintro e w' ⟨rfl, rfl⟩)
        go_roundw
        case rel => exact ⟨md + 1, hi, n, by omega, hin, by go_num, rfl, rfl, fun j y hj hy => by have := asc_le HA.out (show j ≤ md by omega) hy HZ.out; have := HT.out; omega, hP.out.2⟩
        case measure => simp [intOf]; omega
      · have HT : Hid (t ≤ z) := Int.not_lt.1 hzt
        have t1 : decide (z < t) = false := decide_eq_false hzt
        clear hzt
        go_wp2_with (go_at_call 100; refine (cmpLess_any _ _ _).mono ?_; rintro e w' ⟨rfl, rfl⟩)
        go_roundw
        case rel => exact ⟨lo, md, n, hm0, by omega, rfl, rfl, rfl, hP.out.1, fun j y hj hy => by have := asc_le HA.out hj HZ.out hy; have := HT.out; omega⟩
        case measure => simp [intOf]; omega
    · obtain rfl : lo = hi := by omega
      have t0 : decide ((lo : Int) < (lo : Int)) = false := decide_eq_false (by omega)
      by_cases hl : lo < xs.length
      · obtain ⟨ad, z, rfl, hbk, hz, hc⟩ := H.out.get hl
        have t1 : decide ((lo : Int) < (xs.length : Int)) = true := decide_eq_true (by omega)
        have j1 : (lo : Int) < (xs.length : Int) := by omega
        by_cases he : z = t
        · have t2 : (z == t) = true := by simpa using he
          clear he
          go_wp2
          go_ret2
          exact ⟨lo, _, rfl, ⟨_, rfl⟩, hin, hP.out⟩
        · have t2 : (z == t) = false := by simpa using he
          clear he
          go_wp2_with (go_at_call 101; refine (slNaN_any _ _).mono ?_; rintro e w' ⟨rfl, rfl⟩)
          go_ret2
          exact ⟨lo, _, rfl, ⟨_, rfl⟩, hin, hP.out⟩
      · have t1 : decide ((lo : Int) < (xs.length : Int)) = false := decide_eq_false (by omega)
        go_wp2
        go_ret2
        exact ⟨lo, _, rfl, ⟨_, rfl⟩, hin, hP.out⟩

/-! ### dark places -/
/-- A lamp at a depth lights two of the places. -/
def TwoLit (l : List Int) (s : Int) (ps : List Int) (a : Nat) : Prop := ∃ (j : Nat) (x y : Int), ps[j]? = some x ∧ ps[j + 1]? = some y ∧ (upN l a s : Int) ≤ x ∧ y < (dnN l a s : Int)
def DarkP (l : List Int) (s : Int) (ps : List Int) : Prop := ∀ a, a ≤ l.length → ¬ TwoLit l s ps a
theorem two_iff {l : List Int} {s : Int} {ps : List Int} {a r q : Nat} (hr : CutAt ps (upN l a s) r) (hq : CutAt ps (dnN l a s) q) (hqn : q ≤ ps.length) : (1 < (q : Int) - (r : Int)) ↔ TwoLit l s ps a := by
  constructor
  · intro h
    obtain ⟨x, hx⟩ := getElem?_of_lt (show r < ps.length by omega)
    obtain ⟨y, hy⟩ := getElem?_of_lt (show r + 1 < ps.length by omega)
    exact ⟨r, x, y, hx, hy, hr.2 r x (Nat.le_refl _) hx, hq.1 (r + 1) y (by omega) hy⟩
  · rintro ⟨j, x, y, hx, hy, h1, h2⟩
    have a1 : r ≤ j := by
      rcases Nat.lt_or_ge j r with h | h
      · have := hr.1 j x h hx; omega
      · exact h
    have a2 : j + 1 < q := by
      rcases Nat.lt_or_ge (j + 1) q with h | h
      · exact h
      · have := hq.2 (j + 1) y h hy; omega
    omega

set_option maxRecDepth 100000 in
set_option maxHeartbeats 1000000 in
theorem areDark_any (l : List Int) (A : Option Addr) (c : Nat) (s : Int) (ps : List Int) (D : Option Addr) (cd : Nat) (w : World) (h : Los w A l) (hD : Ints w D ps) (hasc : Asc ps) (hl : ps.length ≤ 700) :
    Calls Try.prog 83 #[.slice A (l.length + 1) c, .int .i64 s, .slice D ps.length cd] w fun e w' => ∃ b : Bool, e = .returned (.bool b) ∧ (∃ n, w' = w.drewN n) ∧ Hid (b = true ↔ DarkP l s ps) := by
  have H := Lib.hid h
  have HD := Lib.hid hD
  have HA := Lib.hid hasc
  have hlen := h.dims.2
  clear h hD hasc
  go_enter Try.func83, Try.ntmps83
  go_wp2
  go_loopw [14] (fun i wr => ∃ k n : Nat, k ≤ l.length + 1 ∧ i = .int .i64 k ∧ wr = w.drewN n ∧ Hid (∀ a, a < k → ¬ TwoLit l s ps a)) (fun i _ => l.length + 1 - (intOf i).toNat)
  case atStart => exact ⟨0, 0, Nat.zero_le _, rfl, rfl, fun a ha => absurd ha (Nat.not_lt_zero _)⟩
  case round =>
    obtain ⟨k, n, hk, rfl, rfl, hP⟩ := hrel
    by_cases hlt : k < l.length + 1
    · have t0 : decide ((k : Int) < (l.length : Int) + 1) = true := decide_eq_true (by omega)
      have hkl : k ≤ l.length := by omega
      have TA : Hid True := Lib.hid trivial
      generalize hU : upN l k s = u at *
      generalize hN : dnN l k s = d at *
      have HUD := Lib.hid (And.intro hU hN)
      clear hU hN
      go_wp2_with (first
        | (go_at_call 70; refine (up_any l _ _ k s _ (H.out.drewN n) hkl).mono ?_; rintro e w1 ⟨rfl, n1, rfl⟩; rw [HUD.out.1])
        | (go_at_call 97; clear TA; refine (binary_any ps _ _ (u : Int) _ (HD.out.below (below_drewN (Below.refl _ _) _)) HA.out (by omega)).mono ?_; rintro e w2 ⟨r, b, rfl, ⟨n2, rfl⟩, hr, hR⟩)
        | (go_at_call 71; refine (down_any l _ _ k s _ (H.out.drewN _) hkl).mono ?_; rintro e w3 ⟨rfl, n3, rfl⟩; rw [HUD.out.2]))
      refine (binary_any ps _ _ (d : Int) _ (HD.out.below (below_drewN (Below.refl _ _) _)) HA.out (by omega)).mono ?_
      rintro e w4 ⟨q, b4, rfl, ⟨n4, rfl⟩, hq, hQ⟩
      have HT : Hid ((1 < (q : Int) - (r : Int)) ↔ TwoLit l s ps k) := two_iff (by rw [HUD.out.1]; exact hR.out) (by rw [HUD.out.2]; exact hQ.out) hq
      have s1 : IntKind.i64.wrap ((q : Int) - (r : Int)) = (q : Int) - (r : Int) := IntWalk.i64_in _ (by omega)
      by_cases ht : 1 < (q : Int) - (r : Int)
      · have t1 : decide (1 < (q : Int) - (r : Int)) = true := decide_eq_true ht
        have HT2 := Lib.hid (HT.out.1 ht)
        clear ht
        go_wp2
        go_ret
        exact ⟨false, rfl, ⟨_, by first | rfl | (simp only [World.drewN_drewN]; rfl)⟩, ⟨fun h => by (cases h), fun h => absurd HT2.out (h k hkl)⟩⟩
      · have t1 : decide (1 < (q : Int) - (r : Int)) = false := decide_eq_false ht
        have HT2 : Hid (¬ TwoLit l s ps k) := fun h => ht (HT.out.2 h)
        clear ht
        go_wp2
        go_roundw
        case rel => exact ⟨k + 1, _, by omega, by go_num, (by first | rfl | (simp only [World.drewN_drewN]; rfl)), fun a ha => by
          rcases Nat.lt_or_ge a k with h | h
          · exact hP.out a h
          · obtain rfl : a = k := by omega
            exact HT2.out⟩
        case measure => simp [intOf]; omega
    · have t0 : decide ((k : Int) < (l.length : Int) + 1) = false := decide_eq_false (by omega)
      go_wp2
      go_ret
      exact ⟨true, rfl, ⟨_, rfl⟩, ⟨fun _ a ha => hP.out a (by omega), fun _ => rfl⟩⟩
end Go.Proofs.Ytmndfcjkokolbaa
