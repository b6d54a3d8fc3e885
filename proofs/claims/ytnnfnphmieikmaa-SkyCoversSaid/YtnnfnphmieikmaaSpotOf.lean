/-
  Contract: spotOf.
-/
import Derived.Test.YtnnfnphmieikmaaBits
namespace Go.Proofs.Ytnnfnphmieikmaa
open Go Go.RowKit

theorem setCell_drewN (w : World) (n : Nat) (a : Addr) (v : Value) : (w.drewN n).setCell a v = (w.setCell a v).drewN n := rfl
set_option maxRecDepth 100000 in
theorem spotOf_any (k p : Nat) (hk : k < 5) (hp : p < 3072) (w : World) :
    Calls Try.prog 70 #[.agg #[.int .i64 (k : Int), .int .i64 (p : Int)]] w fun e w' => e = .returned (.agg #[.int .i64 (fB k p : Nat), .int .i64 (xB k p : Nat), .int .i64 (yB k p : Nat)]) ∧ Below w.heap.size w w' := by
  have hsh : (p : Int) / 2 ^ (2 * k) = ((fB k p : Nat) : Int) := by simp [fB]
  have HSH := Lib.hid hsh
  clear hsh
  go_enter Try.func70, Try.ntmps70
  go_wp2
  rw [HSH.out]
  go_loopw [4, 14] (fun _ i wr => ∃ b m : Nat, b ≤ k ∧ i = .int .i64 b ∧ wr = (((w.alloc (.cells #[.int .i64 (k : Int), .int .i64 (p : Int)] 43)).alloc (.cells #[.int .i64 0, .int .i64 0, .int .i64 0] 72)).alloc (.cells #[.int .i64 (fB k p : Nat), .int .i64 (xB b p : Nat), .int .i64 (yB b p : Nat)] 72)).drewN m) (fun _ i _ => k - (intOf i).toNat)
  case atStart => exact ⟨0, 0, Nat.zero_le _, rfl, rfl⟩
  case round =>
    obtain ⟨b, m, hb, rfl, rfl⟩ := hrel
    by_cases hlt : b < k
    · go_wp2
      go_region
      go_wp2
      go_region
      go_wp2
      go_roundw
      case rel =>
        refine ⟨b + 1, m + 2, by omega, by go_num, ?_⟩
        rw [xB_step b p (by omega) (by omega), yB_step b p (by omega) (by omega)]
        simp only [setCell_drewN]
        rw [World.setCell_alloc_at _ _ _ _ _ (by simp), World.setCell_alloc_at _ _ _ _ _ (by simp)]
        simp
      case measure => simp [intOf]; omega
    · go_wp2
      obtain rfl : b = k := by omega
      refine bodyPost_ret (v := .agg #[.int .i64 (fB b p : Nat), .int .i64 (xB b p : Nat), .int .i64 (yB b p : Nat)]) (by simp [results, Try.results70, go_sem]) rfl ⟨rfl, ?_⟩
      exact (by repeat (first | with_reducible exact Below.refl _ _ | with_reducible assumption | refine below_drewN ?_ _ | with_reducible refine Below.drew ?_ | (refine Below.setCell ?_ (by first | (simp; done) | (simp; omega) | omega) _) | (refine Below.alloc ?_ (by first | (simp; done) | (simp; omega) | omega) _)))
end Go.Proofs.Ytnnfnphmieikmaa
