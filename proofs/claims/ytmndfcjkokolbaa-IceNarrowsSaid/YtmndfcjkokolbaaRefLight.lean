/-
  Contracts: firnref04's ascends, Light.
-/
import Derived.Test.YtmndfcjkokolbaaLight
namespace Go.Proofs.Ytmndfcjkokolbaa
open Go.RowKit Go.Shelf

theorem refWithin_val {lo n hi : Int} {b : Bool} (w : World) (h : decide (lo ≤ n ∧ n ≤ hi) = b) :
    Calls Try.prog 65 #[.int .i64 lo, .int .i64 n, .int .i64 hi] w fun e w' => e = .returned (.bool b) ∧ w' = w :=
  (refWithin_any lo n hi w).mono fun _ _ hh => ⟨by rw [hh.1, h], hh.2.symm⟩
theorem all_in_no {ns : List Int} {k : Nat} {z m : Int} (h : ns[k]? = some z) (hz : decide (0 ≤ z ∧ z ≤ m) = false) : false = (ns.all (inB m) && ascB ns) := by
  rw [all_not (p := inB m) h hz]; rfl

set_option maxRecDepth 100000 in
set_option maxHeartbeats 800000 in
theorem ascends_any (ns : List Int) (A : Option Addr) (c : Nat) (m : Int) (w : World) (h : Ints w A ns) (hl : ns.length ≤ maxLen) :
    Calls Try.prog 82 #[.slice A ns.length c, .int .i64 m] w fun e w' => e = .returned (.bool (ns.all (inB m) && ascB ns)) ∧ ∃ n, w' = w.drewN n := by
  unfold maxLen at hl
  have H := Lib.hid h
  clear h
  go_enter Try.func82, Try.ntmps82
  go_wp2
  go_loopw [5] (fun i wr => ∃ k n : Nat, k ≤ ns.length ∧ i = .int .i64 k ∧ wr = w.drewN n ∧ Hid ((ns.take k).all (inB m) = true ∧ ∀ (j : Nat) (a b : Int), j + 1 < k → ns[j]? = some a → ns[j + 1]? = some b → a < b)) (fun i _ => ns.length - (intOf i).toNat)
  case atStart => exact ⟨0, 0, Nat.zero_le _, rfl, rfl, rfl, fun j a b hj => absurd hj (Nat.not_lt_zero _)⟩
  case round =>
    obtain ⟨k, n, hk, rfl, hw, hA⟩ := hrel
    have HW : Hid (wr = w.drewN n) := hw
    by_cases hlt : k < ns.length
    · obtain ⟨bl, o, rfl, hbk, hcells⟩ := H.out.open_ (show 0 < ns.length by omega)
      obtain ⟨z, hz0⟩ := getElem?_of_lt hlt
      have hc : wr.cell? ⟨bl, o + k, none⟩ = some (.int .i64 z) := by rw [hw]; exact hcells k z hz0
      have HZ := Lib.hid hz0
      have i0 : (0 : Int) ≤ (k : Int) := by omega
      have i1 : (k : Int) < (ns.length : Int) := by omega
      cases hin : decide (0 ≤ z ∧ z ≤ m) with
      | false =>
        have HI := Lib.hid hin
        clear hin hcells hz0 hw
        go_wp2
        go_quiet ((go_at_call 65; exact Calls.quiet_of_same (refWithin_val (lo := 0) (n := z) (hi := m) _ HI.out)))
        go_wp2
        go_ret
        exact ⟨ret_bool (all_in_no HZ.out HI.out), _, (by rw [HW.out]; first | rfl | exact World.drewN_drewN _ _ _)⟩
      | true =>
        have HI := Lib.hid hin
        cases k with
        | zero =>
          have hc' : wr.cell? ⟨bl, o, none⟩ = some (.int .i64 z) := hc
          have i2 : (0 : Int) < (ns.length : Int) := by omega
          clear hc i0 i1
          clear hin hcells hz0 hw
          go_wp2
          go_quiet ((go_at_call 65; exact Calls.quiet_of_same (refWithin_val (lo := 0) (n := z) (hi := m) _ HI.out)))
          go_wp2
          go_roundw
          case rel => exact ⟨1, _, by omega, by go_num, (by rw [HW.out]; first | rfl | exact World.drewN_drewN _ _ _), (by rw [all_snoc HZ.out]; simpa [inB] using HI.out), fun j a b hj => by omega⟩
          case measure => simp [intOf]; omega
        | succ q =>
          obtain ⟨y, hy0⟩ := getElem?_of_lt (show q < ns.length by omega)
          have hc2 : wr.cell? ⟨bl, o + q, none⟩ = some (.int .i64 y) := by rw [hw]; exact hcells q y hy0
          have HY := Lib.hid hy0
          have i2 : (q : Int) + 1 < (ns.length : Int) := by omega
          have i3 : (0 : Int) ≤ (q : Int) + 1 := by omega
          have i4 : ((q : Int) + 1).toNat = q + 1 := by omega
          have i5 : q + 1 < ns.length := by omega
          have i6 : q < ns.length := by omega
          have i7 : (0 : Int) ≤ (q : Int) := by omega
          have i8 : (q : Int) < (ns.length : Int) := by omega
          have s1 : IntKind.i64.wrap (q : Int) = q := IntWalk.i64_in _ (by omega)
          have t0 : decide ((0 : Int) < (q : Int) + 1) = true := decide_eq_true (by omega)
          clear hin hcells hz0 hw hy0 i0 i1
          by_cases hzy : z ≤ y
          · have t1 : decide (z ≤ y) = true := decide_eq_true hzy
            have HN := Lib.hid (asc_no HY.out HZ.out hzy)
            clear hzy
            go_wp2
            go_quiet ((go_at_call 65; exact Calls.quiet_of_same (refWithin_val (lo := 0) (n := z) (hi := m) _ HI.out)))
            go_wp2
            go_ret
            exact ⟨ret_bool (by rw [HN.out, Bool.and_false]), _, (by rw [HW.out]; first | rfl | exact World.drewN_drewN _ _ _)⟩
          · have t1 : decide (z ≤ y) = false := decide_eq_false hzy
            have HN : Hid (y < z) := Int.not_le.1 hzy
            clear hzy
            go_wp2
            go_quiet ((go_at_call 65; exact Calls.quiet_of_same (refWithin_val (lo := 0) (n := z) (hi := m) _ HI.out)))
            go_wp2
            go_roundw
            case rel => exact ⟨q + 1 + 1, _, by omega, by go_num, (by rw [HW.out]; first | rfl | exact World.drewN_drewN _ _ _), (by rw [all_snoc HZ.out, hA.out.1]; exact HI.out), fun j a b hj h1 h2 => by
              rcases Nat.lt_or_ge j q with h | h
              · exact hA.out.2 j a b (by omega) h1 h2
              · obtain rfl : j = q := by omega
                rw [HY.out] at h1
                rw [HZ.out] at h2
                cases h1; cases h2
                exact HN.out⟩
            case measure => simp [intOf]; omega
    · go_wp2
      go_ret
      refine ⟨ret_bool ?_, n, rfl⟩
      have h1 := hA.out.1
      rw [all_full (show ns.length ≤ k by omega)] at h1
      rw [h1, (ascB_iff ns).2 (fun j a b h1 h2 => hA.out.2 j a b (by have := (List.getElem?_eq_some_iff.1 h2).1; omega) h1 h2)]
      rfl
end Go.Proofs.Ytmndfcjkokolbaa
