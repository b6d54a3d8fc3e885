/-
  Contracts: slices.Compare, cmp.Or, cutOf (weigh).
-/
import Derived.Test.YtolpbbabmcpdkaaRefGain
import Derived.Test.YtolpbbabmcpdkaaJoined
set_option linter.unusedVariables false
set_option linter.unusedSimpArgs false
namespace Go.Proofs.Ytolpbbabmcpdkaa
open Go.RowKit Go.Shelf

def cmL : List Int → List Int → Int
  | [], [] => 0
  | [], _ :: _ => -1
  | _ :: _, [] => 1
  | a :: s, b :: t => if cmpV a b = 0 then cmL s t else cmpV a b
theorem cmL_nil {ys : List Int} : cmL [] ys = if 0 < ys.length then -1 else 0 := by cases ys <;> simp [cmL]
theorem cmL_end {xs ys : List Int} (h : 0 < xs.length) (h2 : ys.length = 0) : cmL xs ys = 1 := by
  cases xs with
  | nil => simp at h
  | cons a t => cases ys with
    | nil => rfl
    | cons b s => simp at h2
set_option maxRecDepth 100000 in
set_option maxHeartbeats 1000000 in
theorem sCmp_any (xs ys : List Int) (A B : Option Addr) (c d : Nat) (w : World) (hA : Ints w A xs) (hB : Ints w B ys) (hl : xs.length ≤ 1000) (hl2 : ys.length ≤ 1000) :
    Calls Try.prog 109 #[.slice A xs.length c, .slice B ys.length d] w fun e w' => e = .returned (.int .i64 (cmL xs ys)) ∧ w = w' := by
  have HA := Lib.hid hA
  have HB := Lib.hid hB
  clear hA hB
  go_enter Try.func109, Try.ntmps109
  go_wp2
  go_loopw [11] (fun i wr => ∃ k : Nat, k ≤ xs.length ∧ k ≤ ys.length ∧ i = .int .i64 k ∧ wr = w ∧ Hid (cmL xs ys = cmL (xs.drop k) (ys.drop k))) (fun i _ => xs.length - (intOf i).toNat)
  case atStart => exact ⟨0, Nat.zero_le _, Nat.zero_le _, rfl, rfl, rfl⟩
  case round =>
    obtain ⟨k, hk, hky, rfl, rfl, ht⟩ := hrel
    by_cases hlt : k < xs.length
    · obtain ⟨ad, x, rfl, _, hx, c1⟩ := HA.out.get hlt
      by_cases hly : k < ys.length
      · obtain ⟨bd, y, rfl, _, hy, c2⟩ := HB.out.get hly
        have HD : Hid (cmL xs ys = if cmpV x y = 0 then cmL (xs.drop (k + 1)) (ys.drop (k + 1)) else cmpV x y) := Lib.hid (by
          rw [ht.out, drop_at hx.out, drop_at hy.out]; rfl)
        obtain ⟨v, hv⟩ : ∃ v, cmpV x y = v := ⟨_, rfl⟩
        rw [hv] at HD
        have HV := Lib.hid hv
        have d1 : decide ((ys.length : Int) ≤ (k : Int)) = false := decide_eq_false (by omega)
        have d2 : decide (ys.length ≤ k) = false := decide_eq_false (by omega)
        clear hv ht hx hy
        by_cases h0 : v = 0
        · have HN : Hid (cmL xs ys = cmL (xs.drop (k + 1)) (ys.drop (k + 1))) := Lib.hid (by rw [HD.out, if_pos h0])
          subst h0
          go_wp2_with (go_at_call 108; with_reducible refine (compare_any x y _).mono ?_; rintro e w1 ⟨rfl, rfl⟩; rw [HV.out])
          go_roundw
          case rel => exact ⟨k + 1, by omega, by omega, by go_num, (by first | trivial | rfl), HN⟩
          case measure => simp [intOf]; omega
        · have HN : Hid (cmL xs ys = v) := Lib.hid (by rw [HD.out, if_neg h0])
          go_wp2_with (go_at_call 108; with_reducible refine (compare_any x y _).mono ?_; rintro e w1 ⟨rfl, rfl⟩; rw [HV.out])
          go_ret
          exact ⟨ret_int HN.out.symm, rfl⟩
      · have d1 : decide ((ys.length : Int) ≤ (k : Int)) = true := decide_eq_true (by omega)
        have d2 : decide (ys.length ≤ k) = true := decide_eq_true (by omega)
        have HN : Hid (cmL xs ys = 1) := Lib.hid (by rw [ht.out]; exact cmL_end (by rw [List.length_drop]; omega) (by rw [List.length_drop]; omega))
        go_wp2
        go_ret
        exact ⟨ret_int HN.out.symm, rfl⟩
    · obtain rfl : k = xs.length := by omega
      have HN : Hid (cmL xs ys = if xs.length < ys.length then -1 else 0) := Lib.hid (by
        rw [ht.out, List.drop_of_length_le (Nat.le_refl _), cmL_nil, List.length_drop]
        congr 1
        exact propext ⟨fun h => by omega, fun h => by omega⟩)
      clear ht
      by_cases hly : xs.length < ys.length
      · have d1 : decide ((xs.length : Int) < (ys.length : Int)) = true := decide_eq_true (by omega)
        have d2 : decide (xs.length < ys.length) = true := decide_eq_true (by omega)
        have HE : Hid (cmL xs ys = -1) := Lib.hid (by rw [HN.out, if_pos hly])
        go_wp2
        go_ret
        exact ⟨ret_int HE.out.symm, rfl⟩
      · have d1 : decide ((xs.length : Int) < (ys.length : Int)) = false := decide_eq_false (by omega)
        have d2 : decide (xs.length < ys.length) = false := decide_eq_false (by omega)
        have HE : Hid (cmL xs ys = 0) := Lib.hid (by rw [HN.out, if_neg hly])
        go_wp2
        go_ret
        exact ⟨ret_int HE.out.symm, rfl⟩
def orL : List Int → Int
  | [] => 0
  | a :: t => if a = 0 then orL t else a
set_option maxRecDepth 100000 in
set_option maxHeartbeats 1000000 in
theorem or_any (xs : List Int) (A : Option Addr) (c : Nat) (w : World) (hA : Ints w A xs) (hl : xs.length ≤ 1000) :
    Calls Try.prog 107 #[.slice A xs.length c] w fun e w' => e = .returned (.int .i64 (orL xs)) ∧ w = w' := by
  have HA := Lib.hid hA
  clear hA
  go_enter Try.func107, Try.ntmps107
  go_wp2
  go_loopw [8] (fun i wr => ∃ k : Nat, k ≤ xs.length ∧ i = .int .i64 k ∧ wr = w ∧ Hid (orL xs = orL (xs.drop k))) (fun i _ => xs.length - (intOf i).toNat)
  case atStart => exact ⟨0, Nat.zero_le _, rfl, rfl, rfl⟩
  case round =>
    obtain ⟨k, hk, rfl, rfl, ht⟩ := hrel
    by_cases hlt : k < xs.length
    · obtain ⟨ad, x, rfl, _, hx, c1⟩ := HA.out.get hlt
      have HD : Hid (orL xs = if x = 0 then orL (xs.drop (k + 1)) else x) := Lib.hid (by rw [ht.out, drop_at hx.out]; rfl)
      clear hx ht
      by_cases h0 : x = 0
      · have HN : Hid (orL xs = orL (xs.drop (k + 1))) := Lib.hid (by rw [HD.out, if_pos h0])
        subst h0
        go_wp2
        go_roundw
        case rel => exact ⟨k + 1, by omega, by go_num, (by first | trivial | rfl), HN⟩
        case measure => simp [intOf]; omega
      · have HN : Hid (orL xs = x) := Lib.hid (by rw [HD.out, if_neg h0])
        go_wp2
        go_ret
        exact ⟨ret_int HN.out.symm, rfl⟩
    · obtain rfl : k = xs.length := by omega
      have HN : Hid (orL xs = 0) := Lib.hid (by rw [ht.out, List.drop_of_length_le (Nat.le_refl _)]; rfl)
      go_wp2
      go_ret
      exact ⟨ret_int HN.out.symm, rfl⟩
end Go.Proofs.Ytolpbbabmcpdkaa
