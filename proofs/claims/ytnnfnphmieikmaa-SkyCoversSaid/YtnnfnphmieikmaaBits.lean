/-
  Contracts: bits of the reference; spotOf, nested.
-/
import Derived.Test.YtnnfnphmieikmaaSpot
import Derived.Test.YtnnfnphmieikmaaBitsS
import Derived.RegionTactic
import Derived.ChangeAlike
import Derived.BigRegion
namespace Go.Proofs.Ytnnfnphmieikmaa
open Go Go.RowKit

theorem results_tmp4 {fn : Func} {t u v x : Tmp} (h : fn.results = #[.tmp t, .tmp u, .tmp v, .tmp x]) (tmps : Array Value) (P : Program) (w : World) :
    (results fn tmps).run P w = .ok (.tuple #[tmps.getD t undef, tmps.getD u undef, tmps.getD v undef, tmps.getD x undef]) w := by simp [results, h]
theorem bcell {W w1 : World} (hb : Below W.heap.size W w1) : (∀ b o, b < W.heap.size → w1.cell? ⟨b, o, none⟩ = W.cell? ⟨b, o, none⟩) ∧ (∀ b o, b < W.heap.size → w1.frozen? ⟨b, o, none⟩ = W.frozen? ⟨b, o, none⟩) :=
  ⟨fun b o h => hb.cell (p := ⟨b, o, none⟩) h, fun b o h => hb.frozen (p := ⟨b, o, none⟩) h⟩
set_option maxRecDepth 100000 in
theorem bits_any (k x y : Nat) (hk : k < 5) (hx : x < 16) (hy : y < 16) (w : World) :
    Calls Try.prog 73 #[.int .i64 (k : Int), .int .i64 (x : Int), .int .i64 (y : Int)] w fun e w' => e = .returned (.int .i64 (bI k x y : Nat)) ∧ ∃ n, w' = w.drewN n := by
  go_enter Try.func73, Try.ntmps73
  go_wp2
  go_loopw [7, 8] (fun n i wr => ∃ b m : Nat, b ≤ k ∧ i = .int .i64 b ∧ n = .int .i64 (bI b x y : Nat) ∧ wr = w.drewN m) (fun _ i _ => k - (intOf i).toNat)
  case atStart => exact ⟨0, 0, Nat.zero_le _, rfl, rfl, rfl⟩
  case round =>
    obtain ⟨b, m, hb, rfl, rfl, rfl⟩ := hrel
    by_cases hlt : b < k
    · go_wp2
      go_quiet (fail)
      go_wp2
      go_roundw
      case rel => exact ⟨b + 1, _, by omega, by go_num, by rw [bits_step b x y (by omega) (by omega) (by omega)], rfl⟩
      case measure => simp [intOf]; omega
    · go_wp2
      go_ret
      obtain rfl : b = k := by omega
      exact ⟨rfl, _, rfl⟩

set_option maxRecDepth 100000 in
theorem nested_any (k f x y : Nat) (hk : k < 5) (hf : f < 12) (hx : x < 16) (hy : y < 16) (w : World) :
    Calls Try.prog 82 #[.agg #[.int .i64 (f : Int), .int .i64 (x : Int), .int .i64 (y : Int)], .int .i64 (k : Int)] w fun e w' => e = .returned (.int .i64 (nB k f k x y : Nat)) ∧ Below w.heap.size w w' := by
  have hsh : wrap64 ((f : Int) * 2 ^ (2 * k)) = ((nB k f 0 x y : Nat) : Int) := by
    have h3 := pow_k hk
    have h4 : f * 2 ^ (2 * k) ≤ 11 * 2 ^ (2 * k) := Nat.mul_le_mul_right _ (by omega)
    have e : (f : Int) * 2 ^ (2 * k) = ((f * 2 ^ (2 * k) : Nat) : Int) := by simp
    rw [e, IntWalk.wrap64_in _ (by omega)]; simp [nB, bI]
  have HSH := Lib.hid hsh
  clear hsh
  go_enter Try.func82, Try.ntmps82
  go_wp2
  go_loop [5, 6, 13] (fun n _ i => ∃ b : Nat, b ≤ k ∧ i = .int .i64 b ∧ n = .int .i64 (nB k f b x y : Nat)) (fun _ _ i => k - (intOf i).toNat)
  case atStart => exact ⟨0, Nat.zero_le _, rfl, by rw [HSH.out]⟩
  case round =>
    obtain ⟨b, hb, rfl, rfl⟩ := hrel
    by_cases hlt : b < k
    · go_wp2
      go_round
      case rel => exact ⟨b + 1, by omega, by go_num, by rw [nB_step k f b x y hk hf hlt (by omega) (by omega)]⟩
      case measure => simp [intOf]; omega
    · go_wp2
      go_ret
      obtain rfl : b = k := by omega
      exact ⟨rfl, (by repeat (first | with_reducible exact Below.refl _ _ | with_reducible assumption | refine below_drewN ?_ _ | with_reducible refine Below.drew ?_ | (refine Below.setCell ?_ (by first | (simp; done) | (simp; omega) | omega) _) | (refine Below.alloc ?_ (by first | (simp; done) | (simp; omega) | omega) _)))⟩
end Go.Proofs.Ytnnfnphmieikmaa
