/-
  The iterator stretches: what it hands to a loop, for every loop body; demand, slack.
-/
import Derived.RangeFuncBox
import Derived.RangeFuncLeaves
import Derived.Shelf.Abstract
import Derived.OwnWalkIn
import Derived.TacticsInMore
import Derived.LoopNIn
import Derived.LoopIn
import Derived.Test.YthanmiifcpajhaaValid
set_option linter.unusedVariables false
set_option linter.unusedSimpArgs false
namespace Go.Proofs.Ythanmiifcpajhaa
open Go Go.RowKit Go.Shelf
attribute [local go_sem] Oper.semAt_some

/-- A stretch by its beginning and its length less one. -/
abbrev StE := Fin 100 × Fin 100
def elS (a d : Nat) : StE := (⟨a % 100, Nat.mod_lt _ (by omega)⟩, ⟨d % 100, Nat.mod_lt _ (by omega)⟩)
def encS (x : StE) : Array Value := #[.int .i64 (x.1.val : Int), .int .i64 ((x.1.val : Int) + 1 + (x.2.val : Int))]
def rowS (a k : Nat) : List StE := (List.range k).map (elS a)
def comeA (a : Nat) : List StE := (List.range a).flatMap fun a' => rowS a' (100 - a')
def allS : List StE := comeA 100
theorem rowS_succ (a k : Nat) : rowS a (k + 1) = rowS a k ++ [elS a k] := by simp [rowS, List.range_succ]
theorem comeA_succ (a : Nat) : comeA (a + 1) = comeA a ++ rowS a (100 - a) := by simp [comeA, List.range_succ]
theorem rowS_len (a k : Nat) : (rowS a k).length = k := by simp [rowS]
theorem comeA_len : ∀ a, (comeA a).length ≤ a * 100
  | 0 => by simp [comeA]
  | a + 1 => by rw [comeA_succ, List.length_append, rowS_len]; have := comeA_len a; omega
theorem row_pre (a : Nat) {k l : Nat} (h : k ≤ l) : rowS a k <+: rowS a l := by
  obtain ⟨d, rfl⟩ : ∃ d, l = k + d := ⟨l - k, by omega⟩
  induction d with
  | zero => exact List.prefix_refl _
  | succ d ih => rw [← Nat.add_assoc, rowS_succ]; exact (ih (by omega)).trans (List.prefix_append _ _)
theorem come_pre {a b : Nat} (h : a ≤ b) : comeA a <+: comeA b := by
  obtain ⟨d, rfl⟩ : ∃ d, b = a + d := ⟨b - a, by omega⟩
  induction d with
  | zero => exact List.prefix_refl _
  | succ d ih => rw [← Nat.add_assoc, comeA_succ]; exact (ih (by omega)).trans (List.prefix_append _ _)
theorem at_pre {a k : Nat} (ha : a < 100) (hk : k ≤ 100 - a) : comeA a ++ rowS a k <+: allS := by
  refine List.IsPrefix.trans ?_ (come_pre (show a + 1 ≤ 100 by omega))
  rw [comeA_succ]
  exact (List.prefix_append_right_inj _).2 (row_pre a hk)
theorem encS_el {a d : Nat} (ha : a < 100) (hd : d < 100) : encS (elS a d) = #[.int .i64 (a : Int), .int .i64 ((a : Int) + 1 + (d : Int))] := by
  simp only [encS, elS, Nat.mod_eq_of_lt ha, Nat.mod_eq_of_lt hd]

set_option maxRecDepth 100000 in
set_option maxHeartbeats 2000000 in
theorem stretches1_in (F : Fence) (n : Nat) (hF : F.fn 75) (hro : F.round = none) (hn : 1 ≤ n) (l : Nat) (Kp : World → World → Prop) (hKt : ∀ {A B C : World}, Kp A B → Kp B C → Kp A C) (J Jx : List StE → World → Prop)
    (hY : ∀ pre x W, J pre W → pre.length < 10100 → YieldAt F (n - 1) Try.prog l (encS x) W fun e W' =>
      (e = .returned (.bool true) ∧ J (pre ++ [x]) W' ∧ Kp W W') ∨ (e = .returned (.bool false) ∧ Jx (pre ++ [x]) W'))
    (W : World) (hK0 : Kp W W) (h0 : J [] W) :
    CallsIn F n Try.prog 75 #[.func (.yield l) #[] #[]] W fun e W' => (∃ v, e = .returned v) ∧
      ((∃ ys, ys = allS ∧ J ys W') ∨ (∃ pre, pre <+: allS ∧ Jx pre W')) := by
  refine callsIn_of_wp Try.func75 rfl hF ?_ hro
  simp only [Try.ntmps75, List.size_toArray, List.length_cons, List.length_nil, Nat.reduceAdd, Nat.reduceSub, Array.replicate_succ, Array.replicate_zero, List.push_toArray, List.append_toArray, List.nil_append, List.cons_append]
  gi_wp2
  gi_loopw [4] (fun i wr => ∃ a : Nat, a ≤ 100 ∧ i = .int .i64 a ∧ J (comeA a) wr ∧ Kp W wr)
    (fun i _ => 100 - (intOf i).toNat)
  case atStart => exact ⟨0, Nat.zero_le _, rfl, h0, hK0⟩
  case round =>
    obtain ⟨a, ha, rfl, hJs, hnx⟩ := hrel
    by_cases hlt : a < 100
    · have ta : decide ((a : Int) < 100) = true := decide_eq_true (by omega)
      gi_wp2
      gi_loopw [3] (fun i wr2 => ∃ d : Nat, d ≤ 100 - a ∧ i = .int .i64 ((a : Int) + 1 + d) ∧ J (comeA a ++ rowS a d) wr2 ∧ Kp W wr2)
        (fun i _ => 101 - (intOf i).toNat)
      case atStart => exact ⟨0, Nat.zero_le _, by go_num, by simpa [rowS] using hJs, hnx⟩
      case round =>
        obtain ⟨d, hd, rfl, hJs2, hnx2⟩ := hrel
        by_cases hlt2 : d < 100 - a
        · have tb : decide ((a : Int) + 1 + (d : Int) ≤ 100) = true := decide_eq_true (by omega)
          have hlen := comeA_len a
          obtain ⟨fn, tmps, assign, body, hy, hR⟩ := hY _ (elS a d) _ hJs2 (by rw [List.length_append, rowS_len]; omega)
          rw [encS_el hlt (by omega)] at hy
          have hstep : comeA a ++ rowS a d ++ [elS a d] = comeA a ++ rowS a (d + 1) := by rw [rowS_succ, List.append_assoc]
          have HZ := Lib.hid hstep
          clear hstep hlen
          gi_wp2
          refine hR.mono ?_
          rintro e W3 (⟨rfl, hJ3, hk3⟩ | ⟨rfl, hJx3⟩)
          · gi_wp2
            go_roundw
            case rel => exact ⟨d + 1, by omega, by go_num, by rw [← HZ.out]; exact hJ3, hKt hnx2 hk3⟩
            case measure => simp [intOf]; try omega
          · gi_wp2
            refine bodyPost_ret (results_none rfl _ _ _) rfl ?_
            exact ⟨⟨_, rfl⟩, .inr ⟨_, by rw [HZ.out]; exact at_pre hlt (by omega), hJx3⟩⟩
        · obtain rfl : d = 100 - a := by omega
          have tb : decide ((a : Int) + 1 + ((100 - a : Nat) : Int) ≤ 100) = false := decide_eq_false (by omega)
          have HJ := Lib.hid hJs2
          clear hJs hJs2
          gi_wp2
          go_roundw
          case rel => exact ⟨a + 1, by omega, by go_num, by rw [comeA_succ]; exact HJ.out, hnx2⟩
          case measure => simp [intOf]; try omega
    · obtain rfl : a = 100 := by omega
      gi_wp2
      go_end0
      exact ⟨⟨_, rfl⟩, .inl ⟨_, rfl, hJs⟩⟩

theorem stretches_stops (F : Fence) (n : Nat) (hF : F.fn 75) (hro : F.round = none) (hn : 1 ≤ n) (Kp : World → World → Prop) (hKt : ∀ {A B C : World}, Kp A B → Kp B C → Kp A C) (hKr : ∀ W, Kp W W) (w : World) :
    SeqStopsK F n Try.prog 75 #[] encS Kp (fun ys => ys = allS) (fun pre => pre <+: allS) 10100 w := fun l J Jx W _ _ _ hY h0 =>
  stretches1_in F n hF hro hn l Kp hKt J Jx hY W (hKr W) h0
end Go.Proofs.Ythanmiifcpajhaa
