/-
  Contracts: validTokens, validProduct; the reference's isTokens.
-/
import Derived.Test.YtdekpggfepllhaaPairs
import Derived.Test.YtdekpggfepllhaaGrow
set_option linter.unusedVariables false
set_option linter.unusedSimpArgs false
namespace Go.Proofs.Ytdekpggfepllhaa
open Go Go.RowKit

theorem tok_no_len {q : ByteArray} (h : 12 < q.size) : false = tokB q := by rw [tokB, decide_eq_false (by omega)]; rfl
theorem tok_no {q : ByteArray} {k : Nat} (h : k < q.size) (ho : okK q k = false) : false = tokB q := by rw [tokB, asc_not h ho, Bool.and_false]
theorem tok_end {q : ByteArray} (h : q.size ≤ 12) (ha : (List.range q.size).all (okK q) = true) : true = tokB q := by rw [tokB, decide_eq_true h, ascB, ha]; rfl
theorem ok_next {q : ByteArray} {k : Nat} (ha : (List.range k).all (okK q) = true) (ho : okK q k = true) : (List.range (k + 1)).all (okK q) = true := by rw [range_snoc, ha, ho]; rfl
def lstN (q : ByteArray) (k : Nat) : Nat := if k = 0 then 97 else bN q (k - 1)
theorem lst_bd {q : ByteArray} {k : Nat} (hk : k ≤ q.size) (ha : (List.range k).all (okK q) = true) : 97 ≤ lstN q k := by
  unfold lstN
  by_cases h : k = 0
  · rw [if_pos h]; exact Nat.le_refl _
  · rw [if_neg h]
    have := List.all_eq_true.1 ha (k - 1) (List.mem_range.2 (by omega))
    simp [okK] at this; omega
set_option maxRecDepth 100000 in
set_option maxHeartbeats 1000000 in
theorem validTokens_any (q : ByteArray) (w : World) (hl : q.size ≤ maxLen) :
    Calls Try.prog 69 #[.string q] w fun e w' => e = .returned (.bool (tokB q)) ∧ w = w' := by
  unfold maxLen at hl
  by_cases hs : 12 < q.size
  · have t1 : decide (12 < (q.size : Int)) = true := decide_eq_true (by omega)
    go_enter Try.func69, Try.ntmps69
    go_wp2
    go_ret
    exact ⟨ret_bool (tok_no_len hs), rfl⟩
  · have t1 : decide (12 < (q.size : Int)) = false := decide_eq_false (by omega)
    go_enter Try.func69, Try.ntmps69
    go_wp2
    clear t1
    go_loop [3, 10] (fun l i => ∃ k : Nat, k ≤ q.size ∧ i = .int .i64 k ∧ l = .int .u8 (lstN q k : Nat) ∧ Hid ((List.range k).all (okK q) = true)) (fun _ i => q.size - (intOf i).toNat)
    case atStart => exact ⟨0, Nat.zero_le _, rfl, rfl, rfl⟩
    case round =>
      obtain ⟨k, hk, rfl, rfl, ha⟩ := hrel
      by_cases hlt : k < q.size
      · have hb : 97 ≤ lstN q k := lst_bd hk ha.out
        have hq := bN_at hlt
        obtain ⟨x, hx⟩ : ∃ x, bN q k = x := ⟨_, rfl⟩
        obtain ⟨y, hy⟩ : ∃ y, lstN q k = y := ⟨_, rfl⟩
        have HX := Lib.hid hx
        have HY := Lib.hid hy
        have hx' : q[k].toNat = x := hq.trans hx
        rw [hy]
        rw [hy] at hb
        clear hq hx hy
        by_cases h1 : x < y
        · have HN : Hid (okK q k = false) := Lib.hid (ok_no1 (by have := HX.out; have := HY.out; unfold lstN at this; omega))
          have u1 : decide ((x : Int) < (y : Int)) = true := decide_eq_true (by omega)
          have u2 : decide (x < y) = true := decide_eq_true h1
          go_wp2
          go_ret
          exact ⟨ret_bool (tok_no hlt HN.out), rfl⟩
        · have u1 : decide ((x : Int) < (y : Int)) = false := decide_eq_false (by omega)
          have u2 : decide (x < y) = false := decide_eq_false h1
          by_cases h2 : 104 < x
          · have HN : Hid (okK q k = false) := Lib.hid (ok_no2 (by have := HX.out; omega))
            have u3 : decide (104 < (x : Int)) = true := decide_eq_true (by omega)
            have u4 : decide (104 < x) = true := decide_eq_true h2
            go_wp2
            go_ret
            exact ⟨ret_bool (tok_no hlt HN.out), rfl⟩
          · have HN : Hid (okK q k = true) := Lib.hid (ok_yes (by have := HX.out; have := HY.out; unfold lstN at this; omega) (by have := HX.out; omega) (by have := HY.out; unfold lstN at this; omega))
            have u3 : decide (104 < (x : Int)) = false := decide_eq_false (by omega)
            have u4 : decide (104 < x) = false := decide_eq_false h2
            go_wp2
            go_round
            case rel => exact ⟨k + 1, by omega, by go_num, by rw [show lstN q (k + 1) = x by rw [← HX.out]; simp [lstN]], ok_next ha.out HN.out⟩
            case measure => simp [intOf]; omega
      · obtain rfl : k = q.size := by omega
        go_wp2
        go_ret
        exact ⟨ret_bool (tok_end (by omega) ha.out), rfl⟩

set_option maxRecDepth 100000 in
set_option maxHeartbeats 1000000 in
theorem isTokens_any (q : ByteArray) (w : World) (hl : q.size ≤ maxLen) :
    Calls Try.prog 42 #[.string q] w fun e w' => e = .returned (.bool (tokB q)) ∧ Below w.heap.size w w' := by
  unfold maxLen at hl
  go_enter Try.func42, Try.ntmps42
  go_wp2
  go_loopw [6] (fun i wr => ∃ k : Nat, k ≤ q.size ∧ i = .int .i64 k ∧ Hid ((List.range k).all (okK q) = true) ∧ Below w.heap.size w wr) (fun i _ => q.size - (intOf i).toNat)
  case atStart => exact ⟨0, Nat.zero_le _, rfl, rfl, Below.refl _ _⟩
  case round =>
    obtain ⟨k, hk, rfl, ha, hB⟩ := hrel
    rename World => wr
    by_cases hlt : k < q.size
    · have hq := bN_at hlt
      obtain ⟨x, hx⟩ : ∃ x, bN q k = x := ⟨_, rfl⟩
      have HX := Lib.hid hx
      have hx' : q[k].toNat = x := hq.trans hx
      clear hq hx
      by_cases h1 : x < 97
      · have HN : Hid (okK q k = false) := Lib.hid (ok_no3 (by have := HX.out; omega))
        have u1 : decide ((x : Int) < 97) = true := decide_eq_true (by omega)
        have u2 : decide (x < 97) = true := decide_eq_true h1
        go_wp2
        go_quiet (fail)
        go_wp2
        go_ret
        exact ⟨ret_bool (tok_no hlt HN.out), (by repeat (first | with_reducible exact Below.refl _ _ | with_reducible assumption | refine below_drewN ?_ _ | with_reducible refine Below.drew ?_ | (refine Below.setCell ?_ (by first | (simp; done) | (simp; omega) | omega) _) | (refine Below.alloc ?_ (by first | (simp; done) | (simp; omega) | omega) _)))⟩
      · have u1 : decide ((x : Int) < 97) = false := decide_eq_false (by omega)
        have u2 : decide (x < 97) = false := decide_eq_false h1
        by_cases h2 : 105 ≤ x
        · have HN : Hid (okK q k = false) := Lib.hid (ok_no2 (by have := HX.out; omega))
          have u3 : decide (105 ≤ (x : Int)) = true := decide_eq_true (by omega)
          have u4 : decide (105 ≤ x) = true := decide_eq_true h2
          go_wp2
          go_quiet (fail)
          go_wp2
          go_ret
          exact ⟨ret_bool (tok_no hlt HN.out), (by repeat (first | with_reducible exact Below.refl _ _ | with_reducible assumption | refine below_drewN ?_ _ | with_reducible refine Below.drew ?_ | (refine Below.setCell ?_ (by first | (simp; done) | (simp; omega) | omega) _) | (refine Below.alloc ?_ (by first | (simp; done) | (simp; omega) | omega) _)))⟩
        · have u3 : decide (105 ≤ (x : Int)) = false := decide_eq_false (by omega)
          have u4 : decide (105 ≤ x) = false := decide_eq_false h2
          by_cases hk0 : k = 0
          · subst hk0
            have HN : Hid (okK q 0 = true) := Lib.hid (ok_yes (by have := HX.out; simp; omega) (by have := HX.out; omega) (by simp))
            go_wp2
            go_quiet (fail)
            go_wp2
            go_roundw
            case rel => exact ⟨1, by omega, by go_num, ok_next ha.out HN.out, (by repeat (first | with_reducible exact Below.refl _ _ | with_reducible assumption | refine below_drewN ?_ _ | with_reducible refine Below.drew ?_ | (refine Below.setCell ?_ (by first | (simp; done) | (simp; omega) | omega) _) | (refine Below.alloc ?_ (by first | (simp; done) | (simp; omega) | omega) _)))⟩
            case measure => simp [intOf]; omega
          · obtain ⟨m, rfl⟩ : ∃ m, k = m + 1 := ⟨k - 1, by omega⟩
            have hmq : m < q.size := by omega
            have hq2 := bN_at hmq
            obtain ⟨y, hy⟩ : ∃ y, bN q m = y := ⟨_, rfl⟩
            have HY := Lib.hid hy
            have hy' : q[m].toNat = y := hq2.trans hy
            clear hq2 hy
            have u7 : decide ((0 : Int) < ((m + 1 : Nat) : Int)) = true := decide_eq_true (by omega)
            have u8 : decide ((0 : Int) < (m : Int) + 1) = true := decide_eq_true (by omega)
            have e1 : ((m + 1 : Nat) : Int) - 1 = (m : Int) := by omega
            by_cases h3 : x < y
            · have HN : Hid (okK q (m + 1) = false) := Lib.hid (ok_no1 (by have := HX.out; have := HY.out; simp; omega))
              have u5 : decide ((x : Int) < (y : Int)) = true := decide_eq_true (by omega)
              have u6 : decide (x < y) = true := decide_eq_true h3
              go_wp2
              go_quiet (fail)
              go_wp2
              go_ret
              exact ⟨ret_bool (tok_no hlt HN.out), (by repeat (first | with_reducible exact Below.refl _ _ | with_reducible assumption | refine below_drewN ?_ _ | with_reducible refine Below.drew ?_ | (refine Below.setCell ?_ (by first | (simp; done) | (simp; omega) | omega) _) | (refine Below.alloc ?_ (by first | (simp; done) | (simp; omega) | omega) _)))⟩
            · have HN : Hid (okK q (m + 1) = true) := Lib.hid (ok_yes (by have := HX.out; have := HY.out; simp; omega) (by have := HX.out; omega) (by
                have := lst_bd hk ha.out; unfold lstN at this; exact this))
              have u5 : decide ((x : Int) < (y : Int)) = false := decide_eq_false (by omega)
              have u6 : decide (x < y) = false := decide_eq_false h3
              go_wp2
              go_quiet (fail)
              go_wp2
              go_roundw
              case rel => exact ⟨m + 1 + 1, by omega, by go_num, ok_next ha.out HN.out, (by repeat (first | with_reducible exact Below.refl _ _ | with_reducible assumption | refine below_drewN ?_ _ | with_reducible refine Below.drew ?_ | (refine Below.setCell ?_ (by first | (simp; done) | (simp; omega) | omega) _) | (refine Below.alloc ?_ (by first | (simp; done) | (simp; omega) | omega) _)))⟩
              case measure => simp [intOf]; omega
    · obtain rfl : k = q.size := by omega
      go_wp2
      go_ret
      exact ⟨ret_bool (by
        rw [tokB, ascB, ha.out, Bool.and_true, Bool.eq_iff_iff]; simp; omega), hB⟩
end Go.Proofs.Ytdekpggfepllhaa
