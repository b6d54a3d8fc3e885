/-
  Contract: told (firntop) of valid odds and any cut, with its values.
-/
import Derived.Test.YtolpbbabmcpdkaaTold
import Derived.Test.YtolpbbabmcpdkaaLowM
import Derived.Test.YtolpbbabmcpdkaaNotMore
import Derived.Test.YtolpbbabmcpdkaaPairsW
import Derived.Test.YtolpbbabmcpdkaaWProves
set_option linter.unusedVariables false
set_option linter.unusedSimpArgs false
namespace Go.Proofs.Ytolpbbabmcpdkaa
open Go.RowKit Go.Shelf

def prE (ns ss : List Int) (k : Nat) : Int := if ns.getD (laN ns ss k) 0 = 0 then 5 else 0
def prN (ns ss : List Int) (k : Nat) : Int := if ns.getD (laN ns ss k) 0 = 0 then 0 else lowN (ss.getD (laN ns ss k) 0 * ns.sum) (ss.sum * ns.getD (laN ns ss k) 0)
def prD (ns ss : List Int) (k : Nat) : Int := if ns.getD (laN ns ss k) 0 = 0 then 0 else lowD (ss.getD (laN ns ss k) 0 * ns.sum) (ss.sum * ns.getD (laN ns ss k) 0)
def apN (ns ss : List Int) : Int := lowN (apV ns ss) (unV ns ss 1)
def apD (ns ss : List Int) : Int := lowD (apV ns ss) (unV ns ss 1)
theorem cu_kept (ns ss : List Int) (k : Nat) : cuQ ns ss k = ((lowN (keptL ns (ctL ns ss k)) ns.sum, lowD (keptL ns (ctL ns ss k)) ns.sum), (lowN (keptL ss (ctL ns ss k)) ss.sum, lowD (keptL ss (ctL ns ss k)) ss.sum)) := by
  unfold cuQ
  rw [(kept_cv k).1, (kept_cv k).2]
theorem told_any (ns ss cs : List Int) (A B C : Option Addr) (c d e1 : Nat) (w : World) (hA : Ints w A ns) (hB : Ints w B ss) (hC : Ints w C cs) (hcl : cs.length ≤ 1000) (hv : odB ns ss = true) :
    Calls Try.prog 64 #[.agg #[.slice A ns.length c, .slice B ss.length d], .slice C cs.length e1] w fun e w' => e = .returned (.tuple #[.agg #[.int .i64 (arN ns ss), .int .i64 (arD ns ss)], .agg #[.int .i64 (apN ns ss), .int .i64 (apD ns ss)], .bool true]) ∧ Below w.heap.size w w' := by
  have ho := od_of hv
  have hA1 := fun W (hW : Below w.heap.size w W) => area_yes ns ss A B c d W (hA.below hW) (hB.below hW) hv
  have hP1 := fun W (hW : Below w.heap.size w W) => pairs_yes ns ss A B c d W (hA.below hW) (hB.below hW) hv
  have hF1 := fun W (hW : Below w.heap.size w W) => wApart_yes ns ss A B c d W (hA.below hW) (hB.below hW) hv
  have hC1 : ∀ W, Below w.heap.size w W → Calls Try.prog 38 #[.agg #[.slice A ns.length c, .slice B ss.length d]] W fun e w' => ∃ A' c', e = .returned (.tuple #[.slice A' (ns.length + 1) c', .int .i64 0]) ∧ QOut w' A' c' (cuL ns ss (ns.length + 1)) ∧ Below W.heap.size W w' := fun W hW => by
    have h := wCurve_yes ns ss A B c d W (hA.below hW) (hB.below hW) hv
    rw [cu_len] at h
    exact h
  have hT1 : ∀ (k : Nat), k ≤ ns.length → ∀ W, Below w.heap.size w W → _ := fun k hk W hW => wCut_yes ns ss A B c d W (hA.below hW) (hB.below hW) hv k hk
  have hR1 : ∀ (k : Nat), 1 ≤ k → k ≤ ns.length → ∀ W, Below w.heap.size w W → Calls Try.prog 28 #[.agg #[.slice A ns.length c, .slice B ss.length d], .int .i64 k] W fun e w' => e = .returned (.tuple #[.agg #[.int .i64 (prN ns ss k), .int .i64 (prD ns ss k)], .int .i64 (prE ns ss k)]) ∧ Below W.heap.size W w' := fun k h1 h2 W hW => by
    unfold prN prD prE
    by_cases hz : ns.getD (laN ns ss k) 0 = 0
    · rw [if_pos hz, if_pos hz, if_pos hz]
      exact price_none ns ss A B c d k W (hA.below hW) (hB.below hW) hv h1 h2 hz
    · rw [if_neg hz, if_neg hz, if_neg hz]
      exact price_yes ns ss A B c d k W (hA.below hW) (hB.below hW) hv h1 h2 hz
  have hX1 : ∀ (k : Nat), k ≤ ns.length → ∀ W A' c', Below w.heap.size w W → Out W A' c' (ctL ns ss k) → Calls Try.prog 18 #[.agg #[.slice A ns.length c, .slice B ss.length d], .slice A' (ctL ns ss k).length c'] W fun e w' => e = .returned (.tuple #[.agg #[.int .i64 (cuQ ns ss k).1.1, .int .i64 (cuQ ns ss k).1.2], .int .i64 0]) ∧ Below W.heap.size W w' := fun k hk W A' c' hW hO => by
    rw [cu_kept]
    exact rNoise_yes ns ss (ctL ns ss k) A B A' c d c' W (hA.below hW) (hB.below hW) hO.ints (by rw [ct_len hk]; have := ho.le; omega) hv (ct_cut k)
  have hY1 : ∀ (k : Nat), k ≤ ns.length → ∀ W A' c', Below w.heap.size w W → Out W A' c' (ctL ns ss k) → Calls Try.prog 20 #[.agg #[.slice A ns.length c, .slice B ss.length d], .slice A' (ctL ns ss k).length c'] W fun e w' => e = .returned (.tuple #[.agg #[.int .i64 (cuQ ns ss k).2.1, .int .i64 (cuQ ns ss k).2.2], .int .i64 0]) ∧ Below W.heap.size W w' := fun k hk W A' c' hW hO => by
    rw [cu_kept]
    exact rSignal_yes ns ss (ctL ns ss k) A B A' c d c' W (hA.below hW) (hB.below hW) hO.ints (by rw [ct_len hk]; have := ho.le; omega) hv (ct_cut k)
  have hne : ∀ k, prE ns ss k = 0 → ns.getD (laN ns ss k) 0 ≠ 0 := fun k h hz => by
    unfold prE at h
    rw [if_pos hz] at h
    omega
  have hV1 : ∀ (k : Nat), 1 ≤ k → k ≤ ns.length → prE ns ss k = 0 → ∀ W A' c', Below w.heap.size w W → Out W A' c' (ctL ns ss k) → Calls Try.prog 36 #[.agg #[.slice A ns.length c, .slice B ss.length d], .slice A' (ctL ns ss k).length c', .agg #[.int .i64 (prN ns ss k), .int .i64 (prD ns ss k)]] W fun e w' => e = .returned (.tuple #[.bool true, .int .i64 0]) ∧ Below W.heap.size W w' := fun k h1 h2 hE W A' c' hW hO => by
    have hz := hne k hE
    obtain ⟨q1, q2⟩ := price_ok ho h1 h2 hz
    unfold prN prD
    rw [if_neg hz, if_neg hz]
    have := wProves_yes ns ss (ctL ns ss k) A B A' c d c' _ _ W (hA.below hW) (hB.below hW) hO.ints hv q1 (ct_cut k)
    rw [q2, beq_self_eq_true] at this
    exact this
  have hE1 : ∀ k, prE ns ss k = 0 ∨ prE ns ss k = 5 := fun k => by unfold prE; split <;> simp
  have hbd : ∀ k, k ≤ ns.length → smB (cuQ ns ss k).1.1 (cuQ ns ss k).1.2 = true ∧ smB (cuQ ns ss k).2.1 (cuQ ns ss k).2.2 = true := fun k hk => by
    have k1 := ho.kb (ct_cut (ns := ns) (ss := ss) k)
    rw [cu_kept]
    exact ⟨sm_low k1.1.1 k1.1.2 ho.np (by have := ho.nm; omega), sm_low k1.2.1 k1.2.2 ho.sp (by have := ho.sm; omega)⟩
  cases hq : cutB ns.length cs with
  | false =>
    have hN1 := fun W (hW : Below w.heap.size w W) => rNoise_arg ns ss cs A B C c d e1 W (hA.below hW) (hB.below hW) (hC.below hW) hcl hv hq
    have hS1 := fun W (hW : Below w.heap.size w W) => rSignal_arg ns ss cs A B C c d e1 W (hA.below hW) (hB.below hW) (hC.below hW) hcl hv hq
    exact told_2 ns ss cs A B C c d e1 _ _ _ _ _ _ _ _ (prN ns ss) (prD ns ss) (prE ns ss) w hA1 hP1 hF1 hC1 hN1 hS1 hT1 hR1 hX1 hY1 hV1 hE1 hbd ho.le (sm_ar ho) (sm_ap ho)
  | true =>
    have hN1 := fun W (hW : Below w.heap.size w W) => rNoise_yes ns ss cs A B C c d e1 W (hA.below hW) (hB.below hW) (hC.below hW) hcl hv hq
    have hS1 := fun W (hW : Below w.heap.size w W) => rSignal_yes ns ss cs A B C c d e1 W (hA.below hW) (hB.below hW) (hC.below hW) hcl hv hq
    have k1 := ho.kb hq
    refine told_0 ns ss cs A B C c d e1 _ _ _ _ _ _ _ _ (prN ns ss) (prD ns ss) (prE ns ss) w hA1 hP1 hF1 hC1 hN1 hS1 hT1 hR1 hX1 hY1 hV1 hE1 hbd (fun k h1 h2 hE hle => ?_) ho.le (sm_ar ho) (sm_ap ho) (sm_low k1.1.1 k1.1.2 ho.np (by have := ho.nm; omega)) (sm_low k1.2.1 k1.2.2 ho.sp (by have := ho.sm; omega))
    have hz := hne k hE
    obtain ⟨q1, q2⟩ := price_ok ho h1 h2 hz
    rw [cu_kept] at hle ⊢
    have hle2 := of_decide_eq_true hle
    dsimp only at hle2
    have hn : keptL ns cs ≤ keptL ns (ctL ns ss k) := le_of_low ho.np (decide_eq_false (Int.not_lt.2 hle2))
    exact not_lt_low ho.sp (proved_sig ho q1 hq q2 hn)
end Go.Proofs.Ytolpbbabmcpdkaa
