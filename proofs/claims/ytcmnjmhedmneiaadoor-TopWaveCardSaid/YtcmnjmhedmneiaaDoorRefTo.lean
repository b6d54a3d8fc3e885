/-
  Contracts: can, change, to, shorter (firnref03).
-/
import Derived.Test.YtcmnjmhedmneiaaDoorRefNumber
namespace Go.Proofs.YtcmnjmhedmneiaaDoor
open Go.RowKit Go.Shelf

set_option maxRecDepth 100000 in
theorem refcan_any (k : Nat) (d : Int) (w : World) :
    Calls Tryd.prog 81 #[.int .i64 d, .int .i64 (wdN k)] w fun e w' => e = .returned (.bool (canB (wdN k) d)) ∧ w = w' := by
  have hw := wd_bd k
  have hcall := refhalf_any (wdN k) hw.1 hw.2
  have hb := half_bd (wdN k) (by omega)
  show Calls Tryd.prog _ _ w fun e w' => e = .returned (.bool (decide (-halfN (wdN k) < d ∧ d < halfN (wdN k)))) ∧ w = w'
  generalize halfN (wdN k) = h at hcall hb ⊢
  generalize wdN k = x at hcall ⊢
  obtain ⟨hb0, hb1⟩ := hb
  clear hw
  by_cases h1 : -h < d
  · have u1 : decide (-h < d) = true := decide_eq_true h1
    go_enter Tryd.func81, Tryd.ntmps81
    go_wp2_with (go_at_call 68; refine (hcall _).mono ?_; rintro e w1 ⟨rfl, rfl⟩)
    go_ret
    exact ⟨ret_bool (by simp; omega), rfl⟩
  · have u1 : decide (-h < d) = false := decide_eq_false h1
    go_enter Tryd.func81, Tryd.ntmps81
    go_wp2_with (go_at_call 68; refine (hcall _).mono ?_; rintro e w1 ⟨rfl, rfl⟩)
    go_ret
    exact ⟨ret_bool (by simp; omega), rfl⟩

theorem sign_word : ∀ k, k < 5 → inwB (wdN k) (-halfN (wdN k)) = true ∧ wordL (wdN k) (-halfN (wdN k)) = signL (wdN k) := by decide +kernel
/-- The bit behind a sign of change. -/
def upB (u : Bool) : UInt8 := if u then 49 else 48
set_option maxRecDepth 100000 in
theorem refchange_any (k : Nat) (hk : k < 5) (u : Bool) (w : World) :
    Calls Tryd.prog 104 #[.int .i64 k, .bool u] w fun e w' => ∃ q : ByteArray, e = .returned (.string q) ∧ q.size ≤ 12 ∧ w = w' ∧ Hid (q = ⟨(signL (wdN k) ++ [upB u]).toArray⟩) := by
  have hw := wd_bd k
  have hcall := refhalf_any (wdN k) hw.1 hw.2
  have hb := half_bd (wdN k) (by omega)
  have hword := refword_any (wdN k) (-halfN (wdN k))
  have hwid := refwidth_any k hk
  have HS := Lib.hid (sign_word k hk)
  generalize hh : halfN (wdN k) = h at hcall hb hword HS
  generalize hx : wdN k = x at hcall hword hwid HS hw
  have HX := Lib.hid hx
  have HW := Lib.hid hw
  have HWD := Lib.hid hword
  obtain ⟨hb0, hb1⟩ := hb
  clear hw hh hx hword
  cases u
  all_goals
    go_enter Tryd.func104, Tryd.ntmps104
    go_wp2_with (first
      | (go_at_call 76; refine (hwid _).mono ?_; rintro e w1 ⟨rfl, rfl⟩)
      | (go_at_call 68; refine (hcall _).mono ?_; rintro e w1 ⟨rfl, rfl⟩)
      | (go_at_call 69; refine (HWD.out _ HW.out.1 HW.out.2 HS.out.1).mono ?_; rintro e w1 ⟨q, rfl, hq, rfl, hQ⟩))
    go_ret
    exact ⟨_, rfl, by rw [size_snoc]; omega, rfl, Lib.hid (bt_snoc _ (by rw [← HS.out.2]; exact hQ.out))⟩

set_option maxRecDepth 100000 in
set_option maxHeartbeats 1000000 in
theorem refto_any (a b : Nat) (ha : a < 5) (hb : b < 5) (w : World) :
    Calls Tryd.prog 97 #[.int .i64 a, .int .i64 b] w fun e w' => ∃ q : ByteArray, e = .returned (.string q) ∧ q.size ≤ 96 ∧ w = w' ∧ Hid (q = ⟨(changeL a b).toArray⟩) := by
  go_enter Tryd.func97, Tryd.ntmps97
  go_wp2
  go_loop [0, 5] (fun i v => ∃ j : Nat, j ≤ b - a ∧ i = .int .i64 (a + j : Nat) ∧ ∃ q : ByteArray, v = .string q ∧ q.size ≤ 12 * j ∧ Hid (q = ⟨(upsL a j).toArray⟩)) (fun i _ => b - (intOf i).toNat)
  case atStart => exact ⟨0, Nat.zero_le _, rfl, ⟨#[]⟩, rfl, by show 0 ≤ _; omega, Lib.hid rfl⟩
  case round =>
    obtain ⟨j, hj, rfl, q, rfl, hq, hQ⟩ := hrel
    by_cases hlt : a + j < b
    · have u1 : decide (((a + j : Nat) : Int) < (b : Int)) = true := decide_eq_true (by omega)
      have hcall := refchange_any (a + j) (by omega) true w
      have HU := Lib.hid (ups_succ a j)
      obtain ⟨c, hc⟩ : ∃ c, a + j = c := ⟨_, rfl⟩
      rw [hc] at hcall u1 hlt ⊢
      have HC := Lib.hid hc
      have u1n : decide (c < b) = true := decide_eq_true hlt
      have hc5 : c < 5 := by omega
      have hq5 : q.size ≤ 60 := by omega
      clear hc
      go_wp2_with (go_at_call 104; refine hcall.mono ?_; rintro e w1 ⟨q1, rfl, hq1, rfl, hQ1⟩; have r12 : (9223372036854775807 < q.size + q1.size) = False := eq_false (by omega))
      go_round
      case rel => exact ⟨j + 1, by have := HC.out; omega, by have := HC.out; rw [← Nat.add_assoc, this]; go_num, _, rfl, by rw [ByteArray.size_append]; omega, Lib.hid (by rw [HU.out, hQ.out, hQ1.out, HC.out]; exact sv_append _ _)⟩
      case measure => have := HC.out; simp [intOf]; omega
    · have u1 : decide (((a + j : Nat) : Int) < (b : Int)) = false := decide_eq_false (by omega)
      obtain rfl : j = b - a := by omega
      obtain ⟨m, hm⟩ : ∃ m, a + (b - a) = m := ⟨_, rfl⟩
      have HQ : Hid (q = ⟨(upsL a (b - a)).toArray⟩) := hQ
      have hq4 : q.size ≤ 48 := by omega
      rw [hm] at u1 ⊢
      have HM := Lib.hid hm
      have hm5 : m < 5 := by omega
      have hmb : b ≤ m := by omega
      have u1n : decide (m < b) = false := decide_eq_false (by omega)
      clear hm hQ hj
      obtain ⟨q0, hq0⟩ : ∃ q0, q0 = q := ⟨_, rfl⟩
      go_wp2
      go_loop [0, 5] (fun i v => ∃ j : Nat, j ≤ m - b ∧ i = .int .i64 (m - j : Nat) ∧ ∃ q1 : ByteArray, v = .string q1 ∧ q1.size ≤ 48 + 12 * j ∧ Hid (q1 = ⟨(upsL a (b - a) ++ dnsL m j).toArray⟩)) (fun i _ => (intOf i).toNat)
      case atStart => exact ⟨0, Nat.zero_le _, rfl, q, rfl, by omega, Lib.hid (by rw [HQ.out]; simp [dnsL])⟩
      case round =>
        obtain ⟨j, hj, rfl, q1, rfl, hq1, hQ1⟩ := hrel
        by_cases hlt : b < m - j
        · have hcall := refchange_any (m - j) (by omega) false w
          have HU := Lib.hid (dns_succ m j)
          obtain ⟨c, hc⟩ : ∃ c, m - j = c := ⟨_, rfl⟩
          rw [hc] at hcall ⊢
          have hbc : b < c := by omega
          have u2n : decide (b < c) = true := decide_eq_true hbc
          have u2 : decide ((b : Int) < (c : Int)) = true := decide_eq_true (by omega)
          have HC := Lib.hid (And.intro hc hj)
          have hc5 : c < 5 := by omega
          have hc1 : 1 ≤ c := by omega
          have hq5 : q1.size ≤ 100 := by omega
          have e1 : IntKind.i64.wrap ((c : Int) - 1) = (c : Int) - 1 := IntWalk.i64_in _ (by omega)
          clear hc hj hlt
          go_wp2_with (go_at_call 104; refine hcall.mono ?_; rintro e w1 ⟨q2, rfl, hq2, rfl, hQ2⟩; have r12 : (9223372036854775807 < q1.size + q2.size) = False := eq_false (by omega))
          go_round
          case rel => exact ⟨j + 1, by have := HC.out; omega, by have := HC.out.1; rw [show m - (j + 1) = c - 1 by omega]; go_num, _, rfl, by rw [ByteArray.size_append]; omega, Lib.hid (by rw [HU.out, hQ1.out, hQ2.out, HC.out.1, ← List.append_assoc]; exact sv_append _ _)⟩
          case measure => have := HC.out; simp [intOf]; omega
        · obtain ⟨c, hc⟩ : ∃ c, m - j = c := ⟨_, rfl⟩
          have hjm : j = m - b := by omega
          rw [hc]
          have u2 : decide ((b : Int) < (c : Int)) = false := decide_eq_false (by omega)
          have u2n : decide (b < c) = false := decide_eq_false (by omega)
          have HC := Lib.hid (And.intro hc hjm)
          have hqs : q1.size ≤ 96 := by omega
          clear hc hjm hj hlt
          go_wp2
          go_ret
          refine ⟨q1, rfl, hqs, rfl, Lib.hid ?_⟩
          have e1 := hQ1.out
          rw [HC.out.2] at e1
          rw [e1, changeL]
          have e2 := HM.out
          rcases Nat.le_total a b with h | h
          · rw [show m - b = 0 by omega, show a - b = 0 by omega]; simp [dnsL]
          · rw [show m = a by omega]

theorem bless_eq (a b : List UInt8) : betterB a b = (decide (a.length < b.length) || (decide (a.length = b.length) && Op.bytesLess a b)) := rfl
set_option maxRecDepth 100000 in
theorem shorter_any (a b : List UInt8) (w : World) :
    Calls Tryd.prog 98 #[sv a, sv b] w fun e w' => e = .returned (.bool (betterB a b)) ∧ w = w' := by
  have e1 := sv_size a
  have e2 := sv_size b
  go_enter Tryd.func98, Tryd.ntmps98
  go_wp2
  all_goals
    go_ret
    refine ⟨ret_bool ?_, rfl⟩
  · have h : a.length = b.length := by omega
    rw [betterB, decide_eq_true h]; simp
  · have h : ¬ a.length = b.length := by omega
    rw [betterB, decide_eq_false h]; simp
  · have h : a.length < b.length := by omega
    rw [betterB, decide_eq_true h]; rfl
end Go.Proofs.YtcmnjmhedmneiaaDoor
