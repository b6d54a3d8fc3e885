/-
  slices.Backward over ints: what it hands to a loop, for every loop body that keeps what lay below n₀.
-/
import Derived.RangeFuncBox
import Derived.RangeFuncLeaves
import Derived.Shelf.Abstract
import Derived.OwnWalkIn
import Derived.TacticsInMore
import Derived.LoopNIn
import Derived.LoopIn
import Derived.Test.YtmlkdjcjfkfdiaaJoined
namespace Go.Proofs.Ytmlkdjcjfkfdiaa
open Go.RowKit Go.Shelf
attribute [local go_sem] Oper.semAt_some

/-- What has come when k rounds are over: el k names what the k-th round is handed. -/
def comeK {α : Type} (el : Nat → α) (k : Nat) : List α := (List.range k).map el
theorem comeK_succ {α : Type} (el : Nat → α) (k : Nat) : comeK el (k + 1) = comeK el k ++ [el k] := by simp [comeK, List.range_succ]
theorem comeK_length {α : Type} (el : Nat → α) (k : Nat) : (comeK el k).length = k := by simp [comeK]
/-- From the last one on. -/
def FromEnd {α : Type} (encs : α → Array Value) (el : Nat → α) (zs : List Int) : Prop :=
  ∀ m, m < zs.length → encs (el (zs.length - (m + 1))) = #[.int .i64 (m : Int), .int .i64 (zs[m]?.getD 0)]

set_option maxRecDepth 100000 in
set_option maxHeartbeats 2000000 in
theorem backward1_in {α : Type} (encs : α → Array Value) (el : Nat → α) (F : Fence) (n : Nat) (hF : F.fn 127) (hro : F.round = none) (hn : 1 ≤ n) (l Bs : Nat) (A : Option Addr) (cap : Nat) (zs : List Int) (hlen : zs.length ≤ 1000) (hel : FromEnd encs el zs) (Kp : World → World → Prop) (hKt : ∀ {A B C : World}, Kp A B → Kp B C → Kp A C) (J Jx : List α → World → Prop)
    (hY : ∀ pre x W, J pre W → pre.length < zs.length → YieldAt F (n - 1) Try.prog l (encs x) W fun e W' =>
      (e = .returned (.bool true) ∧ J (pre ++ [x]) W' ∧ Kp W W') ∨ (e = .returned (.bool false) ∧ Jx (pre ++ [x]) W'))
    (W : World) (hK0 : Kp W W) (hBs : ∀ W', Kp W W' → W'.cell? ⟨Bs, 0, none⟩ = some (.slice A zs.length cap)) (hc : ∀ W', Kp W W' → ∀ j, j < zs.length → ∃ ad, A = some ad ∧ W'.cell? (ad.add j) = some (.int .i64 (zs[j]?.getD 0))) (h0 : J [] W) :
    CallsIn F n Try.prog 127 #[.func (.yield l) #[] #[], .pointer (some ⟨Bs, 0, none⟩)] W fun e W' => (∃ v, e = .returned v) ∧
      ((∃ ys, ys = comeK el zs.length ∧ J ys W') ∨ (∃ pre, (∃ k, k ≤ zs.length ∧ pre = comeK el k) ∧ Jx pre W')) := by
  refine callsIn_of_wp Try.func127 rfl hF ?_ hro
  simp only [Try.ntmps127, List.size_toArray, List.length_cons, List.length_nil, Nat.reduceAdd, Nat.reduceSub, Array.replicate_succ, Array.replicate_zero, List.push_toArray, List.append_toArray, List.nil_append, List.cons_append]
  have hB0 := hBs _ hK0
  gi_wp2
  gi_loopw [3] (fun i wr => ∃ m : Nat, m ≤ zs.length ∧ i = .int .i64 ((m : Int) - 1) ∧ J (comeK el (zs.length - m)) wr ∧ Kp W wr)
    (fun i _ => (intOf i + 1).toNat)
  case atStart => exact ⟨zs.length, Nat.le_refl _, by go_num, by rw [Nat.sub_self]; exact h0, hK0⟩
  case round =>
    obtain ⟨m, hm, hi, hJs, hnx⟩ := hrel
    have hBw := hBs _ hnx
    cases m with
    | zero =>
      obtain rfl : _ = Value.int .i64 (-1) := hi
      rw [Nat.sub_zero] at hJs
      gi_wp2
      go_end0
      exact ⟨⟨_, rfl⟩, .inl ⟨_, rfl, hJs⟩⟩
    | succ m =>
      have e : (((m + 1 : Nat) : Int) - 1) = (m : Int) := by omega
      rw [e] at hi
      subst hi
      obtain ⟨ad, rfl, hcx⟩ := hc _ hnx m (by omega)
      obtain ⟨fn, tmps, assign, body, hy, hR⟩ := hY _ (el (zs.length - (m + 1))) _ hJs (by rw [comeK_length]; omega)
      rw [hel m (by omega)] at hy
      have hlt : m < zs.length := by omega
      generalize hz : zs[m]?.getD 0 = z at hy hcx hR
      have hstep : comeK el (zs.length - (m + 1)) ++ [el (zs.length - (m + 1))] = comeK el (zs.length - m) := by
        rw [show zs.length - m = zs.length - (m + 1) + 1 by omega, comeK_succ]
      have HZ := Lib.hid hstep
      clear hz hstep
      gi_wp2
      refine hR.mono ?_
      rintro e W3 (⟨rfl, hJ3, hk3⟩ | ⟨rfl, hJx3⟩)
      · gi_wp2
        go_roundw
        case rel => exact ⟨m, by omega, by go_num, by rw [← HZ.out]; exact hJ3, hKt hnx hk3⟩
        case measure => simp [intOf]; try omega
      · gi_wp2
        refine bodyPost_ret (results_none rfl _ _ _) rfl ?_
        exact ⟨⟨_, rfl⟩, .inr ⟨_, ⟨zs.length - m, by omega, HZ.out⟩, hJx3⟩⟩

theorem backward_stops {α : Type} (encs : α → Array Value) (el : Nat → α) (F : Fence) (n : Nat) (hF : F.fn 127) (hro : F.round = none) (hn : 1 ≤ n) (Bs : Nat) (A : Option Addr) (cap : Nat) (zs : List Int) (hlen : zs.length ≤ 1000) (hel : FromEnd encs el zs) (Kp : World → World → Prop) (hKt : ∀ {A B C : World}, Kp A B → Kp B C → Kp A C) (hKr : ∀ W, Kp W W) (w : World)
    (hBs : ∀ W W', Below w.heap.size w W → Kp W W' → W'.cell? ⟨Bs, 0, none⟩ = some (.slice A zs.length cap)) (hc : ∀ W W', Below w.heap.size w W → Kp W W' → ∀ j, j < zs.length → ∃ ad, A = some ad ∧ W'.cell? (ad.add j) = some (.int .i64 (zs[j]?.getD 0))) :
    SeqStopsK F n Try.prog 127 #[.pointer (some ⟨Bs, 0, none⟩)] encs Kp (fun ys => ys = comeK el zs.length) (fun pre => ∃ k, k ≤ zs.length ∧ pre = comeK el k) zs.length w := fun l J Jx W hW _ _ hY h0 =>
  backward1_in encs el F n hF hro hn l Bs A cap zs hlen hel Kp hKt J Jx hY W (hKr W) (fun W' h => hBs W W' hW h) (fun W' h => hc W W' hW h) h0

set_option maxHeartbeats 1000000 in
theorem backward_in (F : Fence) (n : Nat) (hF : F.fn 119) (hro : F.round = none) (a : Option Addr) (len cap : Nat) (w : World) :
    CallsIn F n Try.prog 119 #[.slice a len cap] w fun e w' => e = .returned (.func (.func 127) #[] #[.pointer (some ⟨w.heap.size, 0, none⟩)]) ∧ w' = w.alloc (.cells #[.slice a len cap] 28) := by
  refine callsIn_of_wp Try.func119 rfl hF ?_ hro
  simp only [Try.ntmps119, List.size_toArray, List.length_cons, List.length_nil, Nat.reduceAdd, Nat.reduceSub, Array.replicate_succ, Array.replicate_zero, List.push_toArray, List.append_toArray, List.nil_append, List.cons_append]
  gi_wp2
  go_ret
  exact ⟨rfl, rfl⟩
end Go.Proofs.Ytmlkdjcjfkfdiaa
