/-
  Contract: list (firnref02): the hits of a set.
-/
import Derived.Test.YtmlkdjcjfkfdiaaRefFirst
import Derived.Test.YtmlkdjcjfkfdiaaBitsI
namespace Go.Proofs.Ytmlkdjcjfkfdiaa
open Go.RowKit Go.Shelf

theorem shr_in {n s k : Nat} (hs : s < 2 ^ 63) : bits .and .i64 ((s : Int) / 2 ^ (n - 1 - k)) 1 = if inS n s k then 1 else 0 := by
  rw [shr_bit s _ hs, inS, Int.toNat_natCast]
theorem setL_in {n s k : Nat} : (allL (k + 1)).filter (inS n s) = (allL k).filter (inS n s) ++ (if inS n s k then [(k : Int)] else []) := firstB_take _

set_option maxRecDepth 100000 in
set_option maxHeartbeats 400000 in
theorem refList_any (n s : Nat) (w : World) (hn : n ≤ 40) (hs : s < 2 ^ 63) :
    Calls Try.prog 83 #[.int .i64 n, .int .i64 s] w fun e w' => ∃ (A' : Option Addr) (c' : Nat) (ys : List Int), e = .returned (.slice A' ys.length c') ∧ Out w' A' c' ys ∧ Below w.heap.size w w' ∧ Hid (ys = setL n s) := by
  have HS := Lib.hid hs
  clear hs
  go_enter Try.func83, Try.ntmps83
  go_wp2
  go_loopw [5, 6] (fun v i wr => ∃ k : Nat, k ≤ n ∧ i = .int .i64 k ∧ (∃ ys : List Int, wr.ownsRow w.heap.size 3 1 v ys.length (ys.map (Value.int .i64)) ∧ ys.length ≤ k ∧ Hid (ys = (allL k).filter (inS n s))) ∧ Below w.heap.size w wr) (fun _ i _ => n - (intOf i).toNat)
  case atStart => exact ⟨0, Nat.zero_le _, rfl, ⟨[], World.ownsRow_nil _ _ _ _, Nat.le_refl _, rfl⟩, Below.refl _ _⟩
  case round =>
    obtain ⟨k, hk, rfl, ⟨ys, hown, hyk, hys⟩, hB⟩ := hrel
    have hz := hB.size
    by_cases hlt : k < n
    · have hb := shr_in (n := n) (k := k) HS.out
      have HFT := Lib.hid (setL_in (n := n) (s := s) (k := k))
      cases hin : inS n s k with
      | false =>
        have HI := Lib.hid hin
        rw [hin] at hb
        clear hin
        simp only [Bool.false_eq_true, if_false] at hb
        go_wp2
        go_roundw
        case rel => exact ⟨k + 1, by omega, by go_num, ⟨ys, hown, by omega, (by rw [HFT.out, HI.out, hys.out]; simp : ys = _)⟩, hB⟩
        case measure => simp [intOf]; omega
      | true =>
        have HI := Lib.hid hin
        rw [hin] at hb
        clear hin
        simp only [if_true] at hb
        go_wp2_with (at_builtin; refine wp_app_int wr rfl (.tmp 20) (.tmp 22) rfl w.heap.size _ ys.length ys _ rfl hown rfl (by omega) hz ?_; intro v2 w2 hown2 hB2)
        go_roundw
        case rel => exact ⟨k + 1, by omega, by go_num, ⟨ys ++ [(k : Int)], by rw [List.length_append]; exact hown2, by simp; omega, (by rw [HFT.out, HI.out, hys.out]; rfl : ys ++ [(k : Int)] = _)⟩, hB.trans hB2⟩
        case measure => simp [intOf]; omega
    · obtain rfl : k = n := by omega
      go_wp2
      go_ret
      obtain ⟨A', c', rfl, hI⟩ := own_ints hown
      exact ⟨A', c', ys, rfl, hI, hB, hys⟩
end Go.Proofs.Ytmlkdjcjfkfdiaa
