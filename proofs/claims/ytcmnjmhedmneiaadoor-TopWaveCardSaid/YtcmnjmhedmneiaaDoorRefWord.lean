/-
  Contracts: width, kind, half, word, Word (firnref03).
-/
import Derived.Test.YtcmnjmhedmneiaaDoorNumber
namespace Go.Proofs.YtcmnjmhedmneiaaDoor
open Go.RowKit Go.Shelf

set_option maxRecDepth 100000 in
theorem refwidth_any (k : Nat) (hk : k < 5) (w : World) :
    Calls Tryd.prog 76 #[.int .i64 k] w fun e w' => e = .returned (.int .i64 (wdN k)) ∧ w = w' := by
  rcases (show k = 0 ∨ k = 1 ∨ k = 2 ∨ k = 3 ∨ k = 4 by omega) with rfl | rfl | rfl | rfl | rfl
  all_goals
    clear hk
    go_enter Tryd.func76, Tryd.ntmps76
    go_wp2
    go_ret
    exact ⟨rfl, rfl⟩

set_option maxRecDepth 100000 in
theorem refkind_any (n : Int) (w : World) :
    Calls Tryd.prog 67 #[.int .i64 n] w fun e w' => e = .returned (stV (ksF n)) ∧ w = w' := by
  go_enter Tryd.func67, Tryd.ntmps67
  go_wp2
  go_loop [4, 5] (fun _ i => ∃ k : Nat, k ≤ 5 ∧ i = .int .i64 k ∧ Hid (∀ j, j < k → decide ((wdN j : Int) = n) = false)) (fun _ i => 5 - (intOf i).toNat)
  case atStart => exact ⟨0, by omega, rfl, fun j hj => absurd hj (by omega)⟩
  case round =>
    obtain ⟨k, hk, rfl, hN⟩ := hrel
    by_cases hlt : k < 5
    · cases hp : ((wdN k : Int) == n) with
      | true =>
        have HP : Hid (decide ((wdN k : Int) = n) = true) := Lib.hid (by simpa using hp)
        have hcall := refwidth_any k hlt w
        generalize hd : wdN k = d at hp hcall
        have HD := Lib.hid hd
        clear hd
        go_wp2_with (go_at_call 76; refine hcall.mono ?_; rintro e w1 ⟨rfl, rfl⟩)
        go_ret2
        exact ⟨by rw [ksF, least_some hlt hN.out HP.out]; rfl, rfl⟩
      | false =>
        have HP : Hid (decide ((wdN k : Int) = n) = false) := Lib.hid (by simpa using hp)
        have hcall := refwidth_any k hlt w
        generalize hd : wdN k = d at hp hcall
        have HD := Lib.hid hd
        clear hd
        go_wp2_with (go_at_call 76; refine hcall.mono ?_; rintro e w1 ⟨rfl, rfl⟩)
        go_round
        case rel => exact ⟨k + 1, by omega, by go_num, fun j hj => by
          rcases Nat.lt_succ_iff_lt_or_eq.1 hj with h | h
          · exact hN.out j h
          · rw [h]; exact HP.out⟩
        case measure => simp [intOf]; omega
    · obtain rfl : k = 5 := by omega
      go_wp2
      go_ret2
      exact ⟨by rw [ksF, least_none hN.out]; rfl, rfl⟩

theorem half_bd : ∀ j, j < 12 → 1 ≤ halfN j ∧ halfN j ≤ 1024 := by decide
theorem half_succ {j : Nat} (h : 1 ≤ j) : halfN (j + 1) = halfN j * 2 := by
  obtain ⟨i, rfl⟩ : ∃ i, j = i + 1 := ⟨j - 1, by omega⟩
  show (2 : Int) ^ (i + 1) = 2 ^ i * 2
  rw [Int.pow_succ]
set_option maxRecDepth 100000 in
theorem refhalf_any (m : Nat) (h1 : 1 ≤ m) (h2 : m ≤ 11) (w : World) :
    Calls Tryd.prog 68 #[.int .i64 m] w fun e w' => e = .returned (.int .i64 (halfN m)) ∧ w = w' := by
  go_enter Tryd.func68, Tryd.ntmps68
  go_wp2
  go_loop [3, 4] (fun a i => ∃ j : Nat, 1 ≤ j ∧ j ≤ m ∧ i = .int .i64 j ∧ ∃ x : Int, a = .int .i64 x ∧ (1 ≤ x ∧ x ≤ 1024) ∧ Hid (x = halfN j)) (fun _ i => m - (intOf i).toNat)
  case atStart => exact ⟨1, Nat.le_refl _, h1, rfl, 1, rfl, by omega, rfl⟩
  case round =>
    obtain ⟨j, hj1, hj, rfl, x, rfl, hx, hX⟩ := hrel
    obtain ⟨hx0, hx1⟩ := hx
    by_cases hlt : j < m
    · have hn := half_bd (j + 1) (by omega)
      have HS := Lib.hid (half_succ hj1)
      rw [half_succ hj1, ← hX.out] at hn
      obtain ⟨hn0, hn1⟩ := hn
      go_wp2
      go_round
      case rel => exact ⟨j + 1, by omega, by omega, by go_num, x * 2, by go_num, by omega, Lib.hid (by rw [HS.out, hX.out])⟩
      case measure => simp [intOf]; omega
    · obtain rfl : j = m := by omega
      go_wp2
      go_ret
      exact ⟨by rw [← hX.out]; rfl, rfl⟩

/-! ### the word, bit by bit -/
theorem wstep_hi {n : Int} : ∀ j, 1 ≤ j → j ≤ 11 → -halfN j ≤ n → n < halfN j → (n < 0 → bitU n (j - 1) = 49 ∧ n + halfN j = n % 2 ^ (j - 1)) ∧ (¬ n < 0 → bitU n (j - 1) = 48 ∧ n = n % 2 ^ (j - 1)) := by
  intro j h1 h2 h3 h4
  rcases (show j = 1 ∨ j = 2 ∨ j = 3 ∨ j = 4 ∨ j = 5 ∨ j = 6 ∨ j = 7 ∨ j = 8 ∨ j = 9 ∨ j = 10 ∨ j = 11 by omega) with rfl | rfl | rfl | rfl | rfl | rfl | rfl | rfl | rfl | rfl | rfl
  all_goals
    simp [halfN] at h3 h4
    refine ⟨fun h => ⟨?_, ?_⟩, fun h => ⟨?_, ?_⟩⟩
    · unfold bitU; rw [if_pos (by simp; omega)]
    · simp [halfN]; omega
    · unfold bitU; rw [if_neg (by simp; omega)]
    · simp; omega
theorem wstep_lo {n l : Int} : ∀ j, 1 ≤ j → j ≤ 11 → l = n % 2 ^ j → (halfN j ≤ l → bitU n (j - 1) = 49 ∧ l - halfN j = n % 2 ^ (j - 1)) ∧ (¬ halfN j ≤ l → bitU n (j - 1) = 48 ∧ l = n % 2 ^ (j - 1)) := by
  intro j h1 h2 h3
  rcases (show j = 1 ∨ j = 2 ∨ j = 3 ∨ j = 4 ∨ j = 5 ∨ j = 6 ∨ j = 7 ∨ j = 8 ∨ j = 9 ∨ j = 10 ∨ j = 11 by omega) with rfl | rfl | rfl | rfl | rfl | rfl | rfl | rfl | rfl | rfl | rfl
  all_goals
    simp at h3
    refine ⟨fun h => ⟨?_, ?_⟩, fun h => ⟨?_, ?_⟩⟩ <;> simp [halfN] at h
    · unfold bitU; rw [if_pos (by simp; omega)]
    · simp [halfN]; omega
    · unfold bitU; rw [if_neg (by simp; omega)]
    · simp; omega
theorem word_at {W j : Nat} {n : Int} (h1 : 1 ≤ j) (h2 : j ≤ W) : (wordL W n).take (W - (j - 1)) = (wordL W n).take (W - j) ++ [bitU n (j - 1)] := by
  have hg : (wordL W n)[W - j]? = some (bitU n (j - 1)) := by
    rw [wordL, List.getElem?_map, List.getElem?_range (by omega), Option.map_some, show W - 1 - (W - j) = j - 1 by omega]
  rw [show W - (j - 1) = W - j + 1 by omega, take_snoc hg]
end Go.Proofs.YtcmnjmhedmneiaaDoor
