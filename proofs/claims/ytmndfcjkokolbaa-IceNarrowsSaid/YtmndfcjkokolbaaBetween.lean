/-
  Contracts: slices.Min, slices.Max, slices.Index at ints; Between, Clearest (ice).
-/
import Derived.Test.YtmndfcjkokolbaaEst
namespace Go.Proofs.Ytmndfcjkokolbaa
open Go.RowKit Go.Shelf

def LeastP (xs : List Int) (r : Int) : Prop := r ∈ xs ∧ ∀ x ∈ xs, r ≤ x
def MostP (xs : List Int) (r : Int) : Prop := r ∈ xs ∧ ∀ x ∈ xs, x ≤ r
theorem least_uniq {xs : List Int} {r q : Int} (h : LeastP xs r) (k : LeastP xs q) : r = q := by have := h.2 q k.1; have := k.2 r h.1; omega
theorem most_uniq {xs : List Int} {r q : Int} (h : MostP xs r) (k : MostP xs q) : r = q := by have := h.2 q k.1; have := k.2 r h.1; omega
theorem leastp_snoc {xs : List Int} {r z : Int} (h : LeastP xs r) : LeastP (xs ++ [z]) (min r z) := by
  refine ⟨?_, fun x hx => ?_⟩
  · rcases Int.le_total r z with c | c
    · rw [Int.min_eq_left c]; exact List.mem_append_left _ h.1
    · rw [Int.min_eq_right c]; simp
  · rcases List.mem_append.1 hx with hx | hx
    · have := h.2 x hx; omega
    · simp at hx; omega
theorem mostp_snoc {xs : List Int} {r z : Int} (h : MostP xs r) : MostP (xs ++ [z]) (max r z) := by
  refine ⟨?_, fun x hx => ?_⟩
  · rcases Int.le_total r z with c | c
    · rw [Int.max_eq_right c]; simp
    · rw [Int.max_eq_left c]; exact List.mem_append_left _ h.1
  · rcases List.mem_append.1 hx with hx | hx
    · have := h.2 x hx; omega
    · simp at hx; omega
theorem leastp_one (z : Int) : LeastP [z] z := ⟨by simp, by simp⟩
theorem mostp_one (z : Int) : MostP [z] z := ⟨by simp, by simp⟩
theorem take_one_eq {xs : List Int} {z : Int} (h : xs[0]? = some z) : xs.take 1 = [z] := by rw [take_snoc h]; rfl

set_option maxRecDepth 100000 in
theorem min_any (xs : List Int) (A : Option Addr) (c : Nat) (w : World) (h : Ints w A xs) (h0 : 0 < xs.length) (hl : xs.length ≤ 1000) :
    Calls Try.prog 90 #[.slice A xs.length c] w fun e w' => ∃ r : Int, e = .returned (.int .i64 r) ∧ w = w' ∧ Hid (LeastP xs r) := by
  obtain ⟨b, o, rfl, _, hc⟩ := h.open_ h0
  have HC := Lib.hid hc
  obtain ⟨z0, hz0⟩ := getElem?_of_lt h0
  have f0 := hc 0 z0 hz0
  rw [Nat.add_zero] at f0
  have HZ0 := Lib.hid hz0
  have t0 : decide ((xs.length : Int) < 1) = false := decide_eq_false (by omega)
  clear h hc hz0
  go_enter Try.func90, Try.ntmps90
  go_wp2
  clear f0
  go_loop [3, 4] (fun m i => ∃ k : Nat, 1 ≤ k ∧ k ≤ xs.length ∧ i = .int .i64 k ∧ ∃ r : Int, m = .int .i64 r ∧ Hid (LeastP (xs.take k) r)) (fun _ i => xs.length - (intOf i).toNat)
  case atStart => exact ⟨1, Nat.le_refl _, by omega, rfl, z0, rfl, by rw [take_one_eq HZ0.out]; exact leastp_one z0⟩
  case round =>
    obtain ⟨k, hk1, hk, rfl, r, rfl, hR⟩ := hrel
    by_cases hlt : k < xs.length
    · obtain ⟨z, hz⟩ := getElem?_of_lt hlt
      have f1 := HC.out k z hz
      have HR : Hid (LeastP (xs.take (k + 1)) (min r z)) := by rw [take_snoc hz]; exact leastp_snoc hR.out
      clear hz
      rcases Int.lt_or_le z r with c0 | c0
      · have HM := Lib.hid (Int.min_eq_right (a := r) (b := z) (by omega))
        have m1 : (if r < z then r else z) = z := by split <;> omega
        have m2 : (if z < r then z else r) = z := by split <;> omega
        go_wp2
        go_round
        case rel => exact ⟨k + 1, by omega, by omega, by go_num, z, rfl, by have := HR.out; rwa [HM.out] at this⟩
        case measure => simp [intOf]; omega
      · have HM := Lib.hid (Int.min_eq_left (a := r) (b := z) (by omega))
        have m1 : (if r < z then r else z) = r := by split <;> omega
        have m2 : (if z < r then z else r) = r := by split <;> omega
        go_wp2
        go_round
        case rel => exact ⟨k + 1, by omega, by omega, by go_num, r, rfl, by have := HR.out; rwa [HM.out] at this⟩
        case measure => simp [intOf]; omega
    · obtain rfl : k = xs.length := by omega
      go_wp2
      go_ret
      exact ⟨r, rfl, rfl, by have := hR.out; rwa [List.take_length] at this⟩
set_option maxRecDepth 100000 in
theorem max_any (xs : List Int) (A : Option Addr) (c : Nat) (w : World) (h : Ints w A xs) (h0 : 0 < xs.length) (hl : xs.length ≤ 1000) :
    Calls Try.prog 91 #[.slice A xs.length c] w fun e w' => ∃ r : Int, e = .returned (.int .i64 r) ∧ w = w' ∧ Hid (MostP xs r) := by
  obtain ⟨b, o, rfl, _, hc⟩ := h.open_ h0
  have HC := Lib.hid hc
  obtain ⟨z0, hz0⟩ := getElem?_of_lt h0
  have f0 := hc 0 z0 hz0
  rw [Nat.add_zero] at f0
  have HZ0 := Lib.hid hz0
  have t0 : decide ((xs.length : Int) < 1) = false := decide_eq_false (by omega)
  clear h hc hz0
  go_enter Try.func91, Try.ntmps91
  go_wp2
  clear f0
  go_loop [3, 4] (fun m i => ∃ k : Nat, 1 ≤ k ∧ k ≤ xs.length ∧ i = .int .i64 k ∧ ∃ r : Int, m = .int .i64 r ∧ Hid (MostP (xs.take k) r)) (fun _ i => xs.length - (intOf i).toNat)
  case atStart => exact ⟨1, Nat.le_refl _, by omega, rfl, z0, rfl, by rw [take_one_eq HZ0.out]; exact mostp_one z0⟩
  case round =>
    obtain ⟨k, hk1, hk, rfl, r, rfl, hR⟩ := hrel
    by_cases hlt : k < xs.length
    · obtain ⟨z, hz⟩ := getElem?_of_lt hlt
      have f1 := HC.out k z hz
      have HR : Hid (MostP (xs.take (k + 1)) (max r z)) := by rw [take_snoc hz]; exact mostp_snoc hR.out
      clear hz
      rcases Int.lt_or_le r z with c0 | c0
      · have HM := Lib.hid (Int.max_eq_right (a := r) (b := z) (by omega))
        have m1 : (if r < z then z else r) = z := by split <;> omega
        have m2 : (if z < r then r else z) = z := by split <;> omega
        go_wp2
        go_round
        case rel => exact ⟨k + 1, by omega, by omega, by go_num, z, rfl, by have := HR.out; rwa [HM.out] at this⟩
        case measure => simp [intOf]; omega
      · have HM := Lib.hid (Int.max_eq_left (a := r) (b := z) (by omega))
        have m1 : (if r < z then z else r) = r := by split <;> omega
        have m2 : (if z < r then r else z) = r := by split <;> omega
        go_wp2
        go_round
        case rel => exact ⟨k + 1, by omega, by omega, by go_num, r, rfl, by have := HR.out; rwa [HM.out] at this⟩
        case measure => simp [intOf]; omega
    · obtain rfl : k = xs.length := by omega
      go_wp2
      go_ret
      exact ⟨r, rfl, rfl, by have := hR.out; rwa [List.take_length] at this⟩

/-- The first place of the least number. -/
def FirstLow (xs : List Int) (k : Nat) : Prop := ∃ m, xs[k]? = some m ∧ (∀ x ∈ xs, m ≤ x) ∧ ∀ (j : Nat) (y : Int), j < k → xs[j]? = some y → m < y
theorem firstLow_uniq {xs : List Int} {k j : Nat} (h : FirstLow xs k) (g : FirstLow xs j) : k = j := by
  obtain ⟨m, h1, h2, h3⟩ := h
  obtain ⟨n, g1, g2, g3⟩ := g
  have a := h2 n (List.mem_of_getElem? g1)
  have b := g2 m (List.mem_of_getElem? h1)
  rcases Nat.lt_trichotomy k j with c | c | c
  · have := g3 k m c h1; omega
  · exact c
  · have := h3 j n c g1; omega
set_option maxRecDepth 100000 in
theorem index_any (xs : List Int) (A : Option Addr) (c : Nat) (x : Int) (w : World) (h : Ints w A xs) (hx : LeastP xs x) (hl : xs.length ≤ 1000) :
    Calls Try.prog 93 #[.slice A xs.length c, .int .i64 x] w fun e w' => ∃ k : Nat, e = .returned (.int .i64 k) ∧ w = w' ∧ k < xs.length ∧ Hid (FirstLow xs k) := by
  have HX := Lib.hid hx
  have h0 : 0 < xs.length := List.length_pos_of_mem hx.1
  obtain ⟨b, o, rfl, _, hc⟩ := h.open_ h0
  have HC := Lib.hid hc
  clear h hc hx
  go_enter Try.func93, Try.ntmps93
  go_wp2
  go_loop [8] (fun i => ∃ k : Nat, k ≤ xs.length ∧ i = .int .i64 k ∧ Hid (∀ (j : Nat) (y : Int), j < k → xs[j]? = some y → x < y)) (fun i => xs.length - (intOf i).toNat)
  case atStart => exact ⟨0, by omega, rfl, fun j y hj => by omega⟩
  case round =>
    obtain ⟨k, hk, rfl, hR⟩ := hrel
    by_cases hlt : k < xs.length
    · obtain ⟨z, hz⟩ := getElem?_of_lt hlt
      have f1 := HC.out k z hz
      have HZ := Lib.hid hz
      clear hz
      by_cases he : x = z
      · subst he
        go_wp2
        go_ret
        exact ⟨k, rfl, rfl, hlt, x, HZ.out, HX.out.2, hR.out⟩
      · have t1 : (x == z) = false := by simpa using he
        have HNX : Hid (∀ (j : Nat) (y : Int), j < k + 1 → xs[j]? = some y → x < y) := by
          intro j y hj hy
          rcases Nat.lt_or_ge j k with h1 | h1
          · exact hR.out j y h1 hy
          · obtain rfl : j = k := by omega
            rw [HZ.out] at hy
            cases hy
            have := HX.out.2 z (List.mem_of_getElem? HZ.out)
            omega
        clear he
        go_wp2
        go_round
        case rel => exact ⟨k + 1, by omega, by go_num, HNX⟩
        case measure => simp [intOf]; omega
    · exfalso
      obtain ⟨j, hj, e⟩ := List.mem_iff_getElem.1 HX.out.1
      have := hR.out j x (by omega) (by rw [List.getElem?_eq_getElem hj, e])
      omega

def BetRes (ms : List (Int × Int)) (T : List (List Int)) (a b r q E : Int) : Prop := E = estE ms T a b ∧ ((estE ms T a b = 0 ∧ LeastP (estL ms T a b) r ∧ MostP (estL ms T a b) q) ∨ (estE ms T a b ≠ 0 ∧ r = 0 ∧ q = 0))
theorem betRes_one {ms : List (Int × Int)} {T : List (List Int)} {a b r q E r2 q2 E2 : Int} (h : BetRes ms T a b r q E) (k : BetRes ms T a b r2 q2 E2) : r2 = r ∧ q2 = q ∧ E2 = E := by
  obtain ⟨rfl, h⟩ := h
  obtain ⟨rfl, k⟩ := k
  rcases h with ⟨h0, h1, h2⟩ | ⟨h0, rfl, rfl⟩ <;> rcases k with ⟨k0, k1, k2⟩ | ⟨k0, rfl, rfl⟩
  · exact ⟨least_uniq k1 h1, most_uniq k2 h2, rfl⟩
  · exact absurd h0 k0
  · exact absurd k0 h0
  · exact ⟨rfl, rfl, rfl⟩
def ClrRes (ms : List (Int × Int)) (T : List (List Int)) (a b : Int) (k : Nat) (E : Int) : Prop := E = estE ms T a b ∧ ((estE ms T a b = 0 ∧ FirstLow (estL ms T a b) k) ∨ (estE ms T a b ≠ 0 ∧ k = 0))
theorem clrRes_one {ms : List (Int × Int)} {T : List (List Int)} {a b : Int} {k j : Nat} {E E2 : Int} (h : ClrRes ms T a b k E) (g : ClrRes ms T a b j E2) : j = k ∧ E2 = E := by
  obtain ⟨rfl, h⟩ := h
  obtain ⟨rfl, g⟩ := g
  rcases h with ⟨h0, h1⟩ | ⟨h0, rfl⟩ <;> rcases g with ⟨g0, g1⟩ | ⟨g0, rfl⟩
  · exact ⟨firstLow_uniq g1 h1, rfl⟩
  · exact absurd h0 g0
  · exact absurd g0 h0
  · exact ⟨rfl, rfl⟩
theorem estL_len {ms : List (Int × Int)} {T : List (List Int)} {a b : Int} (h : estE ms T a b = 0) : 1 ≤ (estL ms T a b).length ∧ (estL ms T a b).length ≤ 10 ∧ (estL ms T a b).length = T.length := by
  have h0 : lookE ms [a, b] = 0 := by
    rcases Classical.em (lookE ms [a, b] = 0) with h0 | h0
    · exact h0
    · rw [(estE_no h0).1] at h; exact absurd h h0
  cases hb : estB ms.length T with
  | false => rw [(estE_arg h0 hb).1] at h; cases h
  | true =>
    have := (estB_parts hb).1
    rw [(estE_ok h0 hb).2, List.length_map]
    omega

set_option maxRecDepth 100000 in
set_option maxHeartbeats 400000 in
theorem iceBetween_any (ms : List (Int × Int)) (A : Option Addr) (c : Nat) (T : List (List Int)) (B : Option Addr) (d : Nat) (a b : Int) (w : World) (h : Clk w A c ms) (hT : Tabs w B T) (hl : T.length ≤ maxLen) :
    Calls Try.prog 54 #[.slice A ms.length c, .slice B T.length d, .int .i64 a, .int .i64 b] w fun e w' => ∃ r q E : Int, e = .returned (.tuple #[.int .i64 r, .int .i64 q, .int .i64 E]) ∧ Below w.heap.size w w' ∧ Hid (BetRes ms T a b r q E) := by
  have HE := Lib.hid (estimated_any ms A c T B d a b w h hT hl)
  clear h hT
  by_cases h0 : estE ms T a b = 0
  · have H0 := Lib.hid h0
    clear h0
    go_enter Try.func54, Try.ntmps54
    go_wp2_with (first
      | (go_at_call 89; refine HE.out.mono ?_; rintro e w1 ⟨A1, c1, xs, E, rfl, hO, hB, hF⟩; have eE := hF.out.2.trans H0.out; subst eE; have hx : 0 < xs.length ∧ xs.length ≤ 1000 := (by have := estL_len H0.out; rw [← hF.out.1] at this; omega))
      | (go_at_call 90; refine (min_any xs _ _ _ hO.ints hx.1 hx.2).mono ?_; rintro e w2 ⟨r, rfl, rfl, hr⟩)
      | (go_at_call 91; refine (max_any xs _ _ _ hO.ints hx.1 hx.2).mono ?_; rintro e w3 ⟨q, rfl, rfl, hq⟩))
    go_ret3
    exact ⟨r, q, 0, rfl, hB, H0.out.symm, .inl ⟨H0.out, by have := hr.out; rwa [hF.out.1] at this, by have := hq.out; rwa [hF.out.1] at this⟩⟩
  · have H0 := Lib.hid h0
    clear h0
    go_enter Try.func54, Try.ntmps54
    go_wp2_with (go_at_call 89; refine HE.out.mono ?_; rintro e w1 ⟨A1, c1, xs, E, rfl, hO, hB, hF⟩; have hE0 : (E != 0) = true := (by have := hF.out.2; have := H0.out; simp; omega))
    go_ret3
    exact ⟨0, 0, E, rfl, hB, hF.out.2, .inr ⟨H0.out, rfl, rfl⟩⟩
set_option maxRecDepth 100000 in
set_option maxHeartbeats 400000 in
theorem iceClearest_any (ms : List (Int × Int)) (A : Option Addr) (c : Nat) (T : List (List Int)) (B : Option Addr) (d : Nat) (a b : Int) (w : World) (h : Clk w A c ms) (hT : Tabs w B T) (hl : T.length ≤ maxLen) :
    Calls Try.prog 56 #[.slice A ms.length c, .slice B T.length d, .int .i64 a, .int .i64 b] w fun e w' => ∃ (k : Nat) (E : Int), e = .returned (.tuple #[.int .i64 k, .int .i64 E]) ∧ Below w.heap.size w w' ∧ Hid (ClrRes ms T a b k E) := by
  have HE := Lib.hid (estimated_any ms A c T B d a b w h hT hl)
  clear h hT
  by_cases h0 : estE ms T a b = 0
  · have H0 := Lib.hid h0
    clear h0
    go_enter Try.func56, Try.ntmps56
    go_wp2_with (first
      | (go_at_call 89; refine HE.out.mono ?_; rintro e w1 ⟨A1, c1, xs, E, rfl, hO, hB, hF⟩; have eE := hF.out.2.trans H0.out; subst eE; have hx : 0 < xs.length ∧ xs.length ≤ 1000 := (by have := estL_len H0.out; rw [← hF.out.1] at this; omega))
      | (go_at_call 90; refine (min_any xs _ _ _ hO.ints hx.1 hx.2).mono ?_; rintro e w2 ⟨r, rfl, rfl, hr⟩)
      | (go_at_call 93; refine (index_any xs _ _ r _ hO.ints hr.out hx.2).mono ?_; rintro e w3 ⟨k, rfl, rfl, hk, hq⟩))
    go_ret2
    exact ⟨k, 0, rfl, hB, H0.out.symm, .inl ⟨H0.out, by have := hq.out; rwa [hF.out.1] at this⟩⟩
  · have H0 := Lib.hid h0
    clear h0
    go_enter Try.func56, Try.ntmps56
    go_wp2_with (go_at_call 89; refine HE.out.mono ?_; rintro e w1 ⟨A1, c1, xs, E, rfl, hO, hB, hF⟩; have hE0 : (E != 0) = true := (by have := hF.out.2; have := H0.out; simp; omega))
    go_ret2
    exact ⟨0, E, rfl, hB, hF.out.2, .inr ⟨H0.out, rfl⟩⟩
end Go.Proofs.Ytmndfcjkokolbaa
