/-
  Contracts: slices.Min and slices.Max of ints.
-/
import Derived.Test.YtoilbgngefleiaaJoined
namespace Go.Proofs.Ytoilbgngefleiaa
open Go.RowKit Go.Shelf

theorem take_one {zs : List Int} {z : Int} (h : zs[0]? = some z) : zs.take 1 = [z] := by
  cases zs with
  | nil => simp at h
  | cons a t => simp at h; subst h; rfl

def minL (zs : List Int) : Int := (zs.drop 1).foldl min (zs.getD 0 0)
theorem minL_one {zs : List Int} {z : Int} (h : zs[0]? = some z) : minL (zs.take 1) = z := by rw [take_one h]; rfl
theorem minL_next {zs : List Int} {k : Nat} {z : Int} (hk : 1 ≤ k) (h : zs[k]? = some z) : minL (zs.take (k + 1)) = min (minL (zs.take k)) z := by
  have hl := (List.getElem?_eq_some_iff.1 h).1
  have h1 : (zs.take k).length = k := by rw [List.length_take]; omega
  rw [take_snoc h, minL, minL, List.drop_append_of_le_length (by omega), List.foldl_append, List.getD_eq_getElem?_getD, List.getElem?_append_left (by omega), ← List.getD_eq_getElem?_getD]; rfl
theorem minL_in : ∀ (zs : List Int) (x lo hi : Int), (∀ z ∈ zs, lo ≤ z ∧ z ≤ hi) → lo ≤ x → x ≤ hi → lo ≤ zs.foldl min x ∧ zs.foldl min x ≤ hi
  | [], x, lo, hi, _, h1, h2 => ⟨h1, h2⟩
  | z :: t, x, lo, hi, h, h1, h2 => by
    have h3 := h z (by simp)
    exact minL_in t (min x z) lo hi (fun y hy => h y (List.mem_cons_of_mem _ hy)) (by omega) (by omega)
theorem minL_box {zs : List Int} {lo hi : Int} (hne : 0 < zs.length) (h : ∀ z ∈ zs, lo ≤ z ∧ z ≤ hi) : lo ≤ minL zs ∧ minL zs ≤ hi := by
  have h0 := h (zs.getD 0 0) (by rw [List.getD_eq_getElem?_getD, List.getElem?_eq_getElem hne]; exact List.getElem_mem hne)
  exact minL_in (zs.drop 1) _ lo hi (fun z hz => h z (List.mem_of_mem_drop hz)) h0.1 h0.2

set_option maxRecDepth 100000 in
set_option maxHeartbeats 1000000 in
theorem min_any (zs : List Int) (A : Option Addr) (c : Nat) (w : World) (h : Ints w A zs) (hl : zs.length ≤ 1000) (hne : 0 < zs.length) :
    Calls Try.prog 114 #[.slice A zs.length c] w fun e w' => e = .returned (.int .i64 (minL zs)) ∧ w = w' := by
  obtain ⟨b, o, rfl, hb, hall⟩ := h.open_ hne
  obtain ⟨z0, hz0⟩ : ∃ z, zs[0]? = some z := ⟨_, List.getElem?_eq_getElem hne⟩
  have c0 := hall 0 z0 hz0
  rw [Nat.add_zero] at c0
  have HALL := Lib.hid hall
  have H1 := Lib.hid (minL_one hz0)
  have t0 : decide ((zs.length : Int) < 1) = false := decide_eq_false (by omega)
  clear h hall hz0 hb
  go_enter Try.func114, Try.ntmps114
  go_wp2
  go_loop [3, 4] (fun v i => ∃ (k : Nat) (m : Int), 1 ≤ k ∧ k ≤ zs.length ∧ i = .int .i64 k ∧ v = .int .i64 m ∧ Hid (m = minL (zs.take k))) (fun _ i => zs.length - (intOf i).toNat)
  case atStart => exact ⟨1, z0, Nat.le_refl _, hne, rfl, rfl, Lib.hid H1.out.symm⟩
  case round =>
    obtain ⟨k, m, hk1, hk, rfl, rfl, hm⟩ := hrel
    by_cases hlt : k < zs.length
    · obtain ⟨z, hz⟩ : ∃ z, zs[k]? = some z := ⟨_, List.getElem?_eq_getElem hlt⟩
      have c1 := HALL.out k z hz
      have HN := Lib.hid (minL_next hk1 hz)
      clear hz
      rcases Int.lt_or_le m z with q | q
      · have e := Lib.hid (show min m z = m by omega)
        go_wp2
        go_round
        case rel => exact ⟨k + 1, m, by omega, by omega, by go_num, rfl, Lib.hid (by rw [HN.out, ← hm.out, e.out])⟩
        case measure => simp [intOf]; omega
      · have e := Lib.hid (show min m z = z by omega)
        go_wp2
        go_round
        case rel => exact ⟨k + 1, z, by omega, by omega, by go_num, (by first | rfl | (congr 1; omega)), Lib.hid (by rw [HN.out, ← hm.out, e.out])⟩
        case measure => simp [intOf]; omega
    · obtain rfl : k = zs.length := by omega
      have HE : Hid (m = minL zs) := Lib.hid (by rw [hm.out, List.take_length])
      go_wp2
      go_ret
      exact ⟨ret_int HE.out, rfl⟩

def maxL (zs : List Int) : Int := (zs.drop 1).foldl max (zs.getD 0 0)
theorem maxL_one {zs : List Int} {z : Int} (h : zs[0]? = some z) : maxL (zs.take 1) = z := by rw [take_one h]; rfl
theorem maxL_next {zs : List Int} {k : Nat} {z : Int} (hk : 1 ≤ k) (h : zs[k]? = some z) : maxL (zs.take (k + 1)) = max (maxL (zs.take k)) z := by
  have hl := (List.getElem?_eq_some_iff.1 h).1
  have h1 : (zs.take k).length = k := by rw [List.length_take]; omega
  rw [take_snoc h, maxL, maxL, List.drop_append_of_le_length (by omega), List.foldl_append, List.getD_eq_getElem?_getD, List.getElem?_append_left (by omega), ← List.getD_eq_getElem?_getD]; rfl
theorem maxL_in : ∀ (zs : List Int) (x lo hi : Int), (∀ z ∈ zs, lo ≤ z ∧ z ≤ hi) → lo ≤ x → x ≤ hi → lo ≤ zs.foldl max x ∧ zs.foldl max x ≤ hi
  | [], x, lo, hi, _, h1, h2 => ⟨h1, h2⟩
  | z :: t, x, lo, hi, h, h1, h2 => by
    have h3 := h z (by simp)
    exact maxL_in t (max x z) lo hi (fun y hy => h y (List.mem_cons_of_mem _ hy)) (by omega) (by omega)
theorem maxL_box {zs : List Int} {lo hi : Int} (hne : 0 < zs.length) (h : ∀ z ∈ zs, lo ≤ z ∧ z ≤ hi) : lo ≤ maxL zs ∧ maxL zs ≤ hi := by
  have h0 := h (zs.getD 0 0) (by rw [List.getD_eq_getElem?_getD, List.getElem?_eq_getElem hne]; exact List.getElem_mem hne)
  exact maxL_in (zs.drop 1) _ lo hi (fun z hz => h z (List.mem_of_mem_drop hz)) h0.1 h0.2

set_option maxRecDepth 100000 in
set_option maxHeartbeats 1000000 in
theorem max_any (zs : List Int) (A : Option Addr) (c : Nat) (w : World) (h : Ints w A zs) (hl : zs.length ≤ 1000) (hne : 0 < zs.length) :
    Calls Try.prog 115 #[.slice A zs.length c] w fun e w' => e = .returned (.int .i64 (maxL zs)) ∧ w = w' := by
  obtain ⟨b, o, rfl, hb, hall⟩ := h.open_ hne
  obtain ⟨z0, hz0⟩ : ∃ z, zs[0]? = some z := ⟨_, List.getElem?_eq_getElem hne⟩
  have c0 := hall 0 z0 hz0
  rw [Nat.add_zero] at c0
  have HALL := Lib.hid hall
  have H1 := Lib.hid (maxL_one hz0)
  have t0 : decide ((zs.length : Int) < 1) = false := decide_eq_false (by omega)
  clear h hall hz0 hb
  go_enter Try.func115, Try.ntmps115
  go_wp2
  go_loop [3, 4] (fun v i => ∃ (k : Nat) (m : Int), 1 ≤ k ∧ k ≤ zs.length ∧ i = .int .i64 k ∧ v = .int .i64 m ∧ Hid (m = maxL (zs.take k))) (fun _ i => zs.length - (intOf i).toNat)
  case atStart => exact ⟨1, z0, Nat.le_refl _, hne, rfl, rfl, Lib.hid H1.out.symm⟩
  case round =>
    obtain ⟨k, m, hk1, hk, rfl, rfl, hm⟩ := hrel
    by_cases hlt : k < zs.length
    · obtain ⟨z, hz⟩ : ∃ z, zs[k]? = some z := ⟨_, List.getElem?_eq_getElem hlt⟩
      have c1 := HALL.out k z hz
      have HN := Lib.hid (maxL_next hk1 hz)
      clear hz
      rcases Int.lt_or_le m z with q | q
      · have e := Lib.hid (show max m z = z by omega)
        go_wp2
        go_round
        case rel => exact ⟨k + 1, z, by omega, by omega, by go_num, rfl, Lib.hid (by rw [HN.out, ← hm.out, e.out])⟩
        case measure => simp [intOf]; omega
      · have e := Lib.hid (show max m z = m by omega)
        go_wp2
        go_round
        case rel => exact ⟨k + 1, m, by omega, by omega, by go_num, (by first | rfl | (congr 1; omega)), Lib.hid (by rw [HN.out, ← hm.out, e.out])⟩
        case measure => simp [intOf]; omega
    · obtain rfl : k = zs.length := by omega
      have HE : Hid (m = maxL zs) := Lib.hid (by rw [hm.out, List.take_length])
      go_wp2
      go_ret
      exact ⟨ret_int HE.out, rfl⟩
end Go.Proofs.Ytoilbgngefleiaa
