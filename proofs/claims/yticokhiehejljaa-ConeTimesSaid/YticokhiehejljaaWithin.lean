/-
  Contracts: validWithin, within (cone); from (firnref02).
-/
import Derived.Test.YticokhiehejljaaTrigM
import Derived.Test.YticokhiehejljaaByTime
namespace Go.Proofs.Yticokhiehejljaa
open Go.RowKit Go.Shelf

theorem validWithin_any (x : Int) (w : World) :
    Calls Try.prog 90 #[.int .i64 x] w fun e w' => e = .returned (.bool (okW x)) ∧ w = w' := by
  go_enter Try.func90, Try.ntmps90
  go_wp2
  all_goals
    go_ret
    exact ⟨ret_bool (by simp [okW]; try omega), rfl⟩
theorem refWithin_w (x : Int) (w : World) :
    Calls Try.prog 64 #[.int .i64 0, .int .i64 x, .int .i64 2000] w fun e w' => e = .returned (.bool (okW x)) ∧ w = w' := refWithin_any _ _ _ _
theorem refWithin_n (x : Int) (w : World) :
    Calls Try.prog 64 #[.int .i64 1, .int .i64 x, .int .i64 14] w fun e w' => e = .returned (.bool (okN x)) ∧ w = w' := refWithin_any _ _ _ _
theorem refWithin_in (t v : Int) (m : Int × Int) (w : World) :
    Calls Try.prog 64 #[.int .i64 t, .int .i64 m.2, .int .i64 (t + v)] w fun e w' => e = .returned (.bool (inW t v m)) ∧ w = w' := refWithin_any _ _ _ _

set_option maxRecDepth 100000 in
set_option maxHeartbeats 800000 in
theorem within_any (ms : List (Int × Int)) (A : Option Addr) (c : Nat) (t v : Int) (w : World) (h : Marks w A ms) (hv : vhB ms = true) (ht : -1000 ≤ t ∧ t ≤ 1000) (hw : 0 ≤ v ∧ v ≤ 2000) :
    Calls Try.prog 92 #[.slice A ms.length c, .int .i64 t, .int .i64 v] w fun e w' => ∃ x : Int, e = .returned (.int .i64 x) ∧ Below w.heap.size w w' ∧ 0 ≤ x ∧ x ≤ 14 ∧ Hid (x = cntI ms t v) := by
  obtain ⟨hn1, hn2⟩ := vh_parts hv
  have HV := Lib.hid hv
  obtain ⟨bl, off, rfl, hbk, hcells⟩ := h.open_ (by omega)
  have HC := Lib.hid hcells
  obtain ⟨t0, t1⟩ := ht
  obtain ⟨v0, v1⟩ := hw
  clear hcells hv h
  go_enter Try.func92, Try.ntmps92
  go_wp2
  go_loopw [7, 12] (fun x i wr => ∃ (k : Nat) (y : Int), k ≤ ms.length ∧ i = .int .i64 k ∧ x = .int .i64 y ∧ 0 ≤ y ∧ y ≤ k ∧ Below w.heap.size w wr ∧ Hid (y = cntI (ms.take k) t v)) (fun _ i _ => ms.length - (intOf i).toNat)
  case atStart => exact ⟨0, 0, Nat.zero_le _, rfl, rfl, by omega, by omega, Below.refl _ _, (cnt_zero ms t v).symm⟩
  case round =>
    obtain ⟨k, y, hk, rfl, rfl, y0, y1, hB, hy⟩ := hrel
    by_cases hlt : k < ms.length
    · obtain ⟨a, b, hx⟩ := getM_of_lt hlt
      have f0 := (hB.cell (p := ⟨bl, off + k * 2, none⟩) hbk).trans (HC.out _ _ hx).1
      have f1 := (hB.cell (p := ⟨bl, off + k * 2 + 1, none⟩) hbk).trans (HC.out _ _ hx).2
      obtain ⟨_, b0, b1⟩ := vh_at HV.out hx
      simp only at b0 b1
      have HX := Lib.hid hx
      clear hx
      have hz := hB.size
      by_cases h1 : t ≤ b
      · by_cases h2 : b ≤ t + v
        · have HN := Lib.hid (cnt_yes (t := t) (w := v) HX.out (by simp [inW, h1, h2]))
          go_wp2
          go_roundw
          case rel => exact ⟨k + 1, y + 1, by omega, by go_num, rfl, by omega, by omega, hB.alloc hz _, (by rw [HN.out, hy.out] : y + 1 = _)⟩
          case measure => simp [intOf]; omega
        · have HN := Lib.hid (cnt_no (t := t) (w := v) HX.out (by simp [inW, h2]))
          go_wp2
          go_roundw
          case rel => exact ⟨k + 1, y, by omega, by go_num, rfl, by omega, by omega, hB.alloc hz _, (by rw [HN.out, hy.out] : y = _)⟩
          case measure => simp [intOf]; omega
      · have HN := Lib.hid (cnt_no (t := t) (w := v) HX.out (by simp [inW, h1]))
        go_wp2
        go_roundw
        case rel => exact ⟨k + 1, y, by omega, by go_num, rfl, by omega, by omega, hB.alloc hz _, (by rw [HN.out, hy.out] : y = _)⟩
        case measure => simp [intOf]; omega
    · obtain rfl : k = ms.length := by omega
      go_wp2
      go_ret
      exact ⟨y, rfl, hB, y0, by omega, (by rw [hy.out, List.take_length] : y = _)⟩

set_option maxRecDepth 100000 in
set_option maxHeartbeats 800000 in
theorem refFrom_any (ms : List (Int × Int)) (A : Option Addr) (c : Nat) (t v : Int) (w : World) (h : Marks w A ms) (hv : vhB ms = true) (ht : -1000 ≤ t ∧ t ≤ 1000) (hw : 0 ≤ v ∧ v ≤ 2000) :
    Calls Try.prog 93 #[.slice A ms.length c, .int .i64 t, .int .i64 v] w fun e w' => ∃ x : Int, e = .returned (.int .i64 x) ∧ w = w' ∧ 0 ≤ x ∧ x ≤ 14 ∧ Hid (x = cntI ms t v) := by
  obtain ⟨hn1, hn2⟩ := vh_parts hv
  have HV := Lib.hid hv
  obtain ⟨bl, off, rfl, hbk, hcells⟩ := h.open_ (by omega)
  have HC := Lib.hid hcells
  obtain ⟨t0, t1⟩ := ht
  obtain ⟨v0, v1⟩ := hw
  clear hcells hv h
  go_enter Try.func93, Try.ntmps93
  go_wp2
  go_loop [7, 8] (fun x i => ∃ (k : Nat) (y : Int), k ≤ ms.length ∧ i = .int .i64 k ∧ x = .int .i64 y ∧ 0 ≤ y ∧ y ≤ k ∧ Hid (y = cntI (ms.take k) t v)) (fun _ i => ms.length - (intOf i).toNat)
  case atStart => exact ⟨0, 0, Nat.zero_le _, rfl, rfl, by omega, by omega, (cnt_zero ms t v).symm⟩
  case round =>
    obtain ⟨k, y, hk, rfl, rfl, y0, y1, hy⟩ := hrel
    by_cases hlt : k < ms.length
    · obtain ⟨a, b, hx⟩ := getM_of_lt hlt
      have f0 := (HC.out _ _ hx).1
      have f1 := (HC.out _ _ hx).2
      have HX := Lib.hid hx
      clear hx
      cases hi : inW t v (a, b) with
      | true =>
        have HI := Lib.hid hi
        have HN := Lib.hid (cnt_yes (t := t) (w := v) HX.out hi)
        clear hi
        go_wp2_with (go_at_call 64; refine (refWithin_in t v (a, b) _).mono ?_; rintro e w' ⟨he, rfl⟩; rw [HI.out] at he; subst he)
        go_round
        case rel => exact ⟨k + 1, y + 1, by omega, by go_num, rfl, by omega, by omega, (by rw [HN.out, hy.out] : y + 1 = _)⟩
        case measure => simp [intOf]; omega
      | false =>
        have HI := Lib.hid hi
        have HN := Lib.hid (cnt_no (t := t) (w := v) HX.out hi)
        clear hi
        go_wp2_with (go_at_call 64; refine (refWithin_in t v (a, b) _).mono ?_; rintro e w' ⟨he, rfl⟩; rw [HI.out] at he; subst he)
        go_round
        case rel => exact ⟨k + 1, y, by omega, by go_num, rfl, by omega, by omega, (by rw [HN.out, hy.out] : y = _)⟩
        case measure => simp [intOf]; omega
    · obtain rfl : k = ms.length := by omega
      go_wp2
      go_ret
      exact ⟨y, rfl, rfl, y0, by omega, (by rw [hy.out, List.take_length] : y = _)⟩
end Go.Proofs.Yticokhiehejljaa
