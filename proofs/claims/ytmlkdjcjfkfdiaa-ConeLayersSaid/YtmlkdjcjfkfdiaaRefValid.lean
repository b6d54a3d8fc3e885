/-
  Contracts: within, Valid (firnref02).
-/
import Derived.Test.YtmlkdjcjfkfdiaaValid
namespace Go.Proofs.Ytmlkdjcjfkfdiaa
open Go.RowKit

def wiB (lo n hi : Int) : Bool := decide (lo ≤ n ∧ n ≤ hi)
theorem refWithin_any (lo n hi : Int) (w : World) :
    Calls Try.prog 64 #[.int .i64 lo, .int .i64 n, .int .i64 hi] w fun e w' => e = .returned (.bool (wiB lo n hi)) ∧ w = w' := by
  go_enter Try.func64, Try.ntmps64
  go_wp2
  all_goals
    go_ret
    exact ⟨ret_bool (by simp [wiB]; try omega), rfl⟩
theorem refWithin_pl (x : Int) (w : World) :
    Calls Try.prog 64 #[.int .i64 (-1000), .int .i64 x, .int .i64 1000] w fun e w' => e = .returned (.bool (plB x)) ∧ w = w' := refWithin_any _ _ _ _

theorem not_mem_snoc {α : Type} {zs : List α} {j : Nat} {y z : α} (h : zs[j]? = some y) (hn : z ∉ zs.take j) (hz : z ≠ y) : z ∉ zs.take (j + 1) := by
  rw [take_snoc h]; simp [hn, hz]
theorem mem_take_of {α : Type} {zs : List α} {j k : Nat} {y : α} (h : zs[j]? = some y) (hj : j < k) : y ∈ zs.take k := by
  rw [List.mem_take_iff_getElem]
  obtain ⟨h1, h2⟩ := List.getElem?_eq_some_iff.1 h
  exact ⟨j, by omega, h2⟩

set_option maxRecDepth 100000 in
set_option maxHeartbeats 800000 in
theorem refValid_any (ms : List (Int × Int)) (A : Option Addr) (c : Nat) (w : World) (h : Marks w A ms) (hl : ms.length ≤ maxLen) :
    Calls Try.prog 22 #[.slice A ms.length c] w fun e w' => e = .returned (.bool (vhB ms)) ∧ ∃ n, w' = w.drewN n := by
  unfold maxLen at hl
  have H := Lib.hid h
  clear h
  by_cases hn : 1 ≤ ms.length ∧ ms.length ≤ 14
  · have n1 : decide ((ms.length : Int) < 1) = false := by simp; omega
    have n2 : decide (14 < (ms.length : Int)) = false := by simp; omega
    obtain ⟨bl, off, rfl, hbk, hcells⟩ := H.out.open_ (by omega)
    have HC := Lib.hid hcells
    clear hcells
    go_enter Try.func22, Try.ntmps22
    go_wp2
    go_loopw [3, 4] (fun i _ wr => ∃ k m : Nat, k ≤ ms.length ∧ i = .int .i64 k ∧ wr = w.drewN m ∧ Hid ((ms.take k).all hitB = true) ∧ Hid ((ms.take k).Nodup)) (fun i _ _ => ms.length - (intOf i).toNat)
    case atStart => exact ⟨0, 0, Nat.zero_le _, rfl, rfl, rfl, List.nodup_nil⟩
    case round =>
      obtain ⟨k, m, hk, rfl, rfl, hall, hnd⟩ := hrel
      by_cases hlt : k < ms.length
      · obtain ⟨a, b, hx⟩ := getM_of_lt hlt
        have f0 := (HC.out _ _ hx).1
        have f1 := (HC.out _ _ hx).2
        have HX := Lib.hid hx
        clear hx
        by_cases hp1 : plB a = true
        · by_cases hp2 : plB b = true
          · go_wp2_with (go_at_call 64; refine (refWithin_pl _ _).mono ?_; rintro e w' ⟨rfl, rfl⟩)
            go_loopw [4] (fun j wr => ∃ k2 m2 : Nat, k2 ≤ k ∧ j = .int .i64 k2 ∧ wr = w.drewN m2 ∧ Hid ((a, b) ∉ ms.take k2)) (fun j _ => k - (intOf j).toNat)
            case atStart => exact ⟨0, m, Nat.zero_le _, rfl, rfl, (by simp : (a, b) ∉ ms.take 0)⟩
            case round =>
              obtain ⟨k2, m2, hk2, rfl, rfl, hno⟩ := hrel
              by_cases hlt2 : k2 < k
              · obtain ⟨a2, b2, hy⟩ := getM_of_lt (show k2 < ms.length by omega)
                have g0 := (HC.out _ _ hy).1
                have g1 := (HC.out _ _ hy).2
                have HY := Lib.hid hy
                clear hy
                by_cases h1 : a = a2
                · subst h1
                  by_cases h2 : b = b2
                  · subst h2
                    go_wp2
                    go_quiet (fail)
                    go_wp2
                    go_ret
                    exact ⟨ret_bool (vh_twice HX.out (mem_take_of HY.out hlt2)), _, World.drewN_drewN _ _ _⟩
                  · have t2 : (b == b2) = false := by simpa using h2
                    go_wp2
                    go_quiet (fail)
                    go_wp2
                    go_roundw
                    case rel => exact ⟨k2 + 1, _, by omega, by go_num, (by first | rfl | exact World.drewN_drewN _ _ _), not_mem_snoc HY.out hno.out (by simpa using h2)⟩
                    case measure => simp [intOf]; omega
                · have t1 : (a == a2) = false := by simpa using h1
                  go_wp2
                  go_quiet (fail)
                  go_wp2
                  go_roundw
                  case rel => exact ⟨k2 + 1, _, by omega, by go_num, (by first | rfl | exact World.drewN_drewN _ _ _), not_mem_snoc HY.out hno.out (by intro e; injection e with e1 e2; exact h1 e1)⟩
                  case measure => simp [intOf]; omega
              · obtain rfl : k2 = k := by omega
                go_wp2
                go_roundw
                case rel => exact ⟨k2 + 1, _, by omega, by go_num, rfl, vh_next HX.out hall.out hp1 hp2, nodup_snoc HX.out hnd.out hno.out⟩
                case measure => simp [intOf]; omega
          · have hp2' : plB b = false := by simpa using hp2
            go_wp2_with (go_at_call 64; refine (refWithin_pl _ _).mono ?_; rintro e w' ⟨rfl, rfl⟩)
            go_ret
            exact ⟨ret_bool (vh_bad HX.out (by simp [hitB, hp2'])), _, rfl⟩
        · have hp1' : plB a = false := by simpa using hp1
          go_wp2_with (go_at_call 64; refine (refWithin_pl _ _).mono ?_; rintro e w' ⟨rfl, rfl⟩)
          go_ret
          exact ⟨ret_bool (vh_bad HX.out (by simp [hitB, hp1'])), _, rfl⟩
      · go_wp2
        go_ret
        exact ⟨ret_bool (vh_all hn (by omega) hall.out hnd.out), _, rfl⟩
  · by_cases n1 : (ms.length : Int) < 1
    · go_enter Try.func22, Try.ntmps22
      go_wp2
      go_ret
      exact ⟨ret_bool (vh_len hn), 0, rfl⟩
    · have n2 : 14 < (ms.length : Int) := by omega
      have n3 : decide ((ms.length : Int) < 1) = false := by simp; omega
      go_enter Try.func22, Try.ntmps22
      go_wp2
      go_ret
      exact ⟨ret_bool (vh_len hn), 0, rfl⟩
end Go.Proofs.Ytmlkdjcjfkfdiaa
