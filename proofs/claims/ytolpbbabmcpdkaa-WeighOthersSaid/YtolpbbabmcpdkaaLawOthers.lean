/-
  The walk of WeighOthers: it returns true, whatever it is given.
-/
import Derived.Test.YtolpbbabmcpdkaaZero
import Derived.Test.YtolpbbabmcpdkaaLawOthC
set_option linter.unusedVariables false
set_option linter.unusedSimpArgs false
namespace Go.Proofs.Ytolpbbabmcpdkaa
open Go.RowKit Go.Shelf

def swE (ns ss : List Int) : Int := if odB ns ss = true then 0 else 70
def swL (ns ss xs : List Int) : List Int := if odB ns ss = true then xs else []
theorem wSwapped_g (ns ss : List Int) (A B : Option Addr) (c d : Nat) (w : World) (hA : Ints w A ns) (hB : Ints w B ss) (hl : ns.length ≤ 1000) (hl2 : ss.length ≤ 1000) :
    Gives 49 #[.agg #[.slice A ns.length c, .slice B ss.length d]] w (swL ns ss ss) (swL ns ss ns) (swE ns ss) := by
  intro W hW
  cases hv : odB ns ss with
  | false =>
    rw [show swE ns ss = 70 by simp [swE, hv], show swL ns ss ss = [] by simp [swL, hv], show swL ns ss ns = [] by simp [swL, hv]]
    exact (wSwapped_no ns ss A B c d W (hA.below hW) (hB.below hW) hl hl2 hv).mono fun e w' ⟨he, hb⟩ => ⟨none, 0, none, 0, he, Out.nil_, Out.nil_, hb⟩
  | true =>
    rw [show swE ns ss = 0 by simp [swE, hv], show swL ns ss ss = ss by simp [swL, hv], show swL ns ss ns = ns by simp [swL, hv]]
    exact (wSwapped_yes ns ss A B c d W (hA.below hW) (hB.below hW) hv).mono fun e w' ⟨S, s, N, n, he, h1, h2, hb⟩ => ⟨S, s, N, n, he, h1, h2, hb⟩
theorem refSwapped_g (ns ss : List Int) (A B : Option Addr) (c d : Nat) (w : World) (hA : Ints w A ns) (hB : Ints w B ss) (hl : ns.length ≤ 1000) (hl2 : ss.length ≤ 1000) :
    Gives 50 #[.agg #[.slice A ns.length c, .slice B ss.length d]] w (swL ns ss ss) (swL ns ss ns) (swE ns ss) := by
  intro W hW
  cases hv : odB ns ss with
  | false =>
    rw [show swE ns ss = 70 by simp [swE, hv], show swL ns ss ss = [] by simp [swL, hv], show swL ns ss ns = [] by simp [swL, hv]]
    exact (refSwapped_no ns ss A B c d W (hA.below hW) (hB.below hW) hl hl2 hv).mono fun e w' ⟨he, hb⟩ => ⟨none, 0, none, 0, he, Out.nil_, Out.nil_, hb⟩
  | true =>
    rw [show swE ns ss = 0 by simp [swE, hv], show swL ns ss ss = ss by simp [swL, hv], show swL ns ss ns = ns by simp [swL, hv]]
    exact (refSwapped_yes ns ss A B c d W (hA.below hW) (hB.below hW) hv).mono fun e w' ⟨S, s, N, n, he, h1, h2, hb⟩ => ⟨S, s, N, n, he, h1, h2, hb⟩
def boE (ns ss ms ts : List Int) : Int := if (odB ns ss && odB ms ts) = true then (if odB (qdL ns ms) (qdL ss ts) = true then 0 else 5) else 70
def boL (ns ss ms ts xs : List Int) : List Int := if (odB ns ss && odB ms ts) = true then (if odB (qdL ns ms) (qdL ss ts) = true then xs else []) else []
theorem od_le {ns ss : List Int} (h : odB ns ss = true) : ns.length ≤ 10 := (od_of h).le
theorem wBoth_g (ns ss ms ts : List Int) (A B C D : Option Addr) (c d e0 f0 : Nat) (w : World) (hA : Ints w A ns) (hB : Ints w B ss) (hC : Ints w C ms) (hD : Ints w D ts) (l1 : ns.length ≤ 1000) (l2 : ss.length ≤ 1000) (l3 : ms.length ≤ 1000) (l4 : ts.length ≤ 1000) :
    Gives 51 #[.agg #[.slice A ns.length c, .slice B ss.length d], .agg #[.slice C ms.length e0, .slice D ts.length f0]] w (boL ns ss ms ts (qdL ns ms)) (boL ns ss ms ts (qdL ss ts)) (boE ns ss ms ts) := by
  intro W hW
  have z : ∀ E, boE ns ss ms ts = E → (∀ xs, boL ns ss ms ts xs = []) → Calls Try.prog 51 #[.agg #[.slice A ns.length c, .slice B ss.length d], .agg #[.slice C ms.length e0, .slice D ts.length f0]] W (fun e w' => e = .returned (.tuple #[.agg #[.slice none 0 0, .slice none 0 0], .int .i64 E]) ∧ Below W.heap.size W w') →
      Calls Try.prog 51 #[.agg #[.slice A ns.length c, .slice B ss.length d], .agg #[.slice C ms.length e0, .slice D ts.length f0]] W fun e w' => ∃ N n S s, e = .returned (.tuple #[.agg #[.slice N (boL ns ss ms ts (qdL ns ms)).length n, .slice S (boL ns ss ms ts (qdL ss ts)).length s], .int .i64 (boE ns ss ms ts)]) ∧ Out w' N n (boL ns ss ms ts (qdL ns ms)) ∧ Out w' S s (boL ns ss ms ts (qdL ss ts)) ∧ Below W.heap.size W w' := by
    intro E h1 h2 h
    rw [h1, h2, h2]
    exact h.mono fun e w' ⟨he, hb⟩ => ⟨none, 0, none, 0, he, Out.nil_, Out.nil_, hb⟩
  cases hv : odB ns ss with
  | false => exact z 70 (by simp [boE, hv]) (by intro xs; simp [boL, hv]) (wBoth_no1 ns ss ms ts A B C D c d e0 f0 W (hA.below hW) (hB.below hW) (hC.below hW) (hD.below hW) l1 l2 l3 l4 hv)
  | true =>
    cases hu : odB ms ts with
    | false => exact z 70 (by simp [boE, hu]) (by intro xs; simp [boL, hu]) (wBoth_no2 ns ss ms ts A B C D c d e0 f0 W (hA.below hW) (hB.below hW) (hC.below hW) (hD.below hW) l1 l2 l3 l4 hv hu)
    | true =>
      cases hq : odB (qdL ns ms) (qdL ss ts) with
      | false =>
        rw [show boE ns ss ms ts = 5 by simp [boE, hv, hu, hq], show boL ns ss ms ts (qdL ns ms) = [] by simp [boL, hv, hu, hq], show boL ns ss ms ts (qdL ss ts) = [] by simp [boL, hv, hu, hq]]
        exact (wBoth_none ns ss ms ts A B C D c d e0 f0 W (hA.below hW) (hB.below hW) (hC.below hW) (hD.below hW) hv hu hq).mono fun e w' ⟨he, hb⟩ => ⟨none, 0, none, 0, he, Out.nil_, Out.nil_, hb⟩
      | true =>
        rw [show boE ns ss ms ts = 0 by simp [boE, hv, hu, hq], show boL ns ss ms ts (qdL ns ms) = qdL ns ms by simp [boL, hv, hu, hq], show boL ns ss ms ts (qdL ss ts) = qdL ss ts by simp [boL, hv, hu, hq]]
        exact (wBoth_yes ns ss ms ts A B C D c d e0 f0 W (hA.below hW) (hB.below hW) (hC.below hW) (hD.below hW) hv hu hq).mono fun e w' ⟨N, S, n, s, he, h1, h2, hb⟩ => ⟨N, n, S, s, he, h1, h2, hb⟩
theorem refBoth_g (ns ss ms ts : List Int) (A B C D : Option Addr) (c d e0 f0 : Nat) (w : World) (hA : Ints w A ns) (hB : Ints w B ss) (hC : Ints w C ms) (hD : Ints w D ts) (l1 : ns.length ≤ 1000) (l2 : ss.length ≤ 1000) (l3 : ms.length ≤ 1000) (l4 : ts.length ≤ 1000) :
    Gives 52 #[.agg #[.slice A ns.length c, .slice B ss.length d], .agg #[.slice C ms.length e0, .slice D ts.length f0]] w (boL ns ss ms ts (qdL ns ms)) (boL ns ss ms ts (qdL ss ts)) (boE ns ss ms ts) := by
  intro W hW
  have z : ∀ E, boE ns ss ms ts = E → (∀ xs, boL ns ss ms ts xs = []) → Calls Try.prog 52 #[.agg #[.slice A ns.length c, .slice B ss.length d], .agg #[.slice C ms.length e0, .slice D ts.length f0]] W (fun e w' => e = .returned (.tuple #[.agg #[.slice none 0 0, .slice none 0 0], .int .i64 E]) ∧ Below W.heap.size W w') →
      Calls Try.prog 52 #[.agg #[.slice A ns.length c, .slice B ss.length d], .agg #[.slice C ms.length e0, .slice D ts.length f0]] W fun e w' => ∃ N n S s, e = .returned (.tuple #[.agg #[.slice N (boL ns ss ms ts (qdL ns ms)).length n, .slice S (boL ns ss ms ts (qdL ss ts)).length s], .int .i64 (boE ns ss ms ts)]) ∧ Out w' N n (boL ns ss ms ts (qdL ns ms)) ∧ Out w' S s (boL ns ss ms ts (qdL ss ts)) ∧ Below W.heap.size W w' := by
    intro E h1 h2 h
    rw [h1, h2, h2]
    exact h.mono fun e w' ⟨he, hb⟩ => ⟨none, 0, none, 0, he, Out.nil_, Out.nil_, hb⟩
  cases hv : odB ns ss with
  | false => exact z 70 (by simp [boE, hv]) (by intro xs; simp [boL, hv]) (refBoth_no1 ns ss ms ts A B C D c d e0 f0 W (hA.below hW) (hB.below hW) (hC.below hW) (hD.below hW) l1 l2 l3 l4 hv)
  | true =>
    cases hu : odB ms ts with
    | false => exact z 70 (by simp [boE, hu]) (by intro xs; simp [boL, hu]) (refBoth_no2 ns ss ms ts A B C D c d e0 f0 W (hA.below hW) (hB.below hW) (hC.below hW) (hD.below hW) l1 l2 l3 l4 hv hu)
    | true =>
      cases hq : odB (qdL ns ms) (qdL ss ts) with
      | false =>
        rw [show boE ns ss ms ts = 5 by simp [boE, hv, hu, hq], show boL ns ss ms ts (qdL ns ms) = [] by simp [boL, hv, hu, hq], show boL ns ss ms ts (qdL ss ts) = [] by simp [boL, hv, hu, hq]]
        by_cases hm : (qdL ns ms).length ≤ 10
        · exact (refBoth_none ns ss ms ts A B C D c d e0 f0 W (hA.below hW) (hB.below hW) (hC.below hW) (hD.below hW) hv hu hm hq).mono fun e w' ⟨he, hb⟩ => ⟨none, 0, none, 0, he, Out.nil_, Out.nil_, hb⟩
        · exact (refBoth_many ns ss ms ts A B C D c d e0 f0 W (hA.below hW) (hB.below hW) (hC.below hW) (hD.below hW) l1 l2 l3 l4 hv hu (by omega)).mono fun e w' ⟨he, hb⟩ => ⟨none, 0, none, 0, he, Out.nil_, Out.nil_, hb⟩
      | true =>
        rw [show boE ns ss ms ts = 0 by simp [boE, hv, hu, hq], show boL ns ss ms ts (qdL ns ms) = qdL ns ms by simp [boL, hv, hu, hq], show boL ns ss ms ts (qdL ss ts) = qdL ss ts by simp [boL, hv, hu, hq]]
        exact (refBoth_yes ns ss ms ts A B C D c d e0 f0 W (hA.below hW) (hB.below hW) (hC.below hW) (hD.below hW) hv hu (od_le hq) hq).mono fun e w' ⟨N, S, n, s, he, h1, h2, hb⟩ => ⟨N, n, S, s, he, h1, h2, hb⟩

set_option maxRecDepth 100000 in
set_option maxHeartbeats 1000000 in
theorem others_long (x : Bool) (ns ss ms ts : List Int) (A B C D : Option Addr) (c d e0 f0 : Nat) (a b : Int) (w : World)
    (hL1 : Says 15 #[.agg #[.slice A ns.length c, .slice B ss.length d]] w x) (hL2 : Says 15 #[.agg #[.slice C ms.length e0, .slice D ts.length f0]] w true) :
    Calls Try.prog 7 #[.agg #[.slice A ns.length c, .slice B ss.length d], .agg #[.slice C ms.length e0, .slice D ts.length f0], .int .i64 a, .int .i64 b] w fun e w' => e = .returned (.bool true) ∧ Below w.heap.size w w' := by
  have HL1 := Lib.hid hL1
  have HL2 := Lib.hid hL2
  clear hL1 hL2
  obtain ⟨W0, hW0, HW, HO, HP, z0, z1⟩ := two_new w #[.slice A ns.length c, .slice B ss.length d] #[.slice C ms.length e0, .slice D ts.length f0] 24 24
  have HO : Hid (Bx W0 w.heap.size (.slice A ns.length c) (.slice B ss.length d)) := HO
  have HP : Hid (Bx W0 (w.heap.size + 1) (.slice C ms.length e0) (.slice D ts.length f0)) := HP
  clear z0 z1
  cases x
  all_goals
    go_enter Try.func7, Try.ntmps7
    go_wp2_with (first
      | (go_at_call 15; with_reducible refine (HL1.out _ (by repeat (first | with_reducible exact Below.refl _ _ | with_reducible assumption | refine below_drewN ?_ _ | with_reducible refine Below.drew ?_ | (refine Below.setCell ?_ (by first | (simp; done) | (simp; omega) | omega) _) | (refine Below.alloc ?_ (by first | (simp; done) | (simp; omega) | omega) _)))).mono ?_; rintro e v1 ⟨rfl, hB1⟩; rw [← hW0] at hB1; have HP := Lib.hid (Bx.below HP.out hB1); have g0 := HP.out.c0; have g1 := HP.out.c1; have HW : Hid (Below w.heap.size w _) := Lib.hid (below_step HW.out hB1); clear hB1)
      | (go_at_call 15; with_reducible refine (HL2.out _ HW.out).mono ?_; rintro e v2 ⟨rfl, hB2⟩; have HW : Hid (Below w.heap.size w _) := Lib.hid (below_step HW.out hB2); clear hB2)
      | (go_at_call 16; refine (awake_any _).mono ?_; rintro e v12 ⟨rfl, hB12⟩; have HW : Hid (Below w.heap.size w _) := Lib.hid (below_step HW.out hB12); clear hB12)
      | fail)
    go_ret
    exact ⟨rfl, HW.out⟩
set_option maxRecDepth 100000 in
set_option maxHeartbeats 1000000 in
theorem others_long1 (ns ss ms ts : List Int) (A B C D : Option Addr) (c d e0 f0 : Nat) (a b : Int) (w : World)
    (hL1 : Says 15 #[.agg #[.slice A ns.length c, .slice B ss.length d]] w true) :
    Calls Try.prog 7 #[.agg #[.slice A ns.length c, .slice B ss.length d], .agg #[.slice C ms.length e0, .slice D ts.length f0], .int .i64 a, .int .i64 b] w fun e w' => e = .returned (.bool true) ∧ Below w.heap.size w w' := by
  have HL1 := Lib.hid hL1
  clear hL1
  obtain ⟨W0, hW0, HW, HO, HP, z0, z1⟩ := two_new w #[.slice A ns.length c, .slice B ss.length d] #[.slice C ms.length e0, .slice D ts.length f0] 24 24
  clear z0 z1
  go_enter Try.func7, Try.ntmps7
  go_wp2_with (first
    | (go_at_call 15; with_reducible refine (HL1.out _ (by repeat (first | with_reducible exact Below.refl _ _ | with_reducible assumption | refine below_drewN ?_ _ | with_reducible refine Below.drew ?_ | (refine Below.setCell ?_ (by first | (simp; done) | (simp; omega) | omega) _) | (refine Below.alloc ?_ (by first | (simp; done) | (simp; omega) | omega) _)))).mono ?_; rintro e v1 ⟨rfl, hB1⟩; rw [← hW0] at hB1; have HW : Hid (Below w.heap.size w _) := Lib.hid (below_step HW.out hB1); clear hB1)
    | (go_at_call 16; refine (awake_any _).mono ?_; rintro e v12 ⟨rfl, hB12⟩; have HW : Hid (Below w.heap.size w _) := Lib.hid (below_step HW.out hB12); clear hB12)
    | fail)
  go_ret
  exact ⟨rfl, HW.out⟩
theorem weighOthers_walk (A : Option Addr) (c : Nat) (ns : List Int) (B : Option Addr) (d : Nat) (ss : List Int) (C : Option Addr) (e0 : Nat) (ms : List Int) (D : Option Addr) (f0 : Nat) (ts : List Int) (a b : Int) (w : World)
    (hA : Ints w A ns) (_ : ns.length ≤ c) (_ : c ≤ maxLen) (hB : Ints w B ss) (_ : ss.length ≤ d) (_ : d ≤ maxLen) (hC : Ints w C ms) (_ : ms.length ≤ e0) (_ : e0 ≤ maxLen) (hD : Ints w D ts) (_ : ts.length ≤ f0) (_ : f0 ≤ maxLen) (_ : (Lit.int .i64 a).wf = true) (_ : (Lit.int .i64 b).wf = true) :
    Calls Try.prog 7 #[.agg #[.slice A ns.length c, .slice B ss.length d], .agg #[.slice C ms.length e0, .slice D ts.length f0], .int .i64 a, .int .i64 b] w fun e w' => e = .returned (.bool true) ∧ Below w.heap.size w w' := by
  have L1 : Says 15 #[.agg #[.slice A ns.length c, .slice B ss.length d]] w (decide (60 < ns.length) || decide (60 < ss.length)) := fun W _ => long_any ns ss A B c d W
  have L2 : Says 15 #[.agg #[.slice C ms.length e0, .slice D ts.length f0]] w (decide (60 < ms.length) || decide (60 < ts.length)) := fun W _ => long_any ms ts C D e0 f0 W
  cases hl : (decide (60 < ns.length) || decide (60 < ss.length)) with
  | true => rw [hl] at L1; exact others_long1 ns ss ms ts A B C D c d e0 f0 a b w L1
  | false =>
    cases hm : (decide (60 < ms.length) || decide (60 < ts.length)) with
    | true => rw [hm] at L2; exact others_long _ ns ss ms ts A B C D c d e0 f0 a b w L1 L2
    | false =>
      rw [hl] at L1
      rw [hm] at L2
      simp only [Bool.or_eq_false_iff, decide_eq_false_iff_not] at hl hm
      exact others_core ns ss ms ts A B C D c d e0 f0 a b _ _ _ _ _ _ _ _ _ w L1 L2
        (fun W hW => wMerged_any ns ss A B c d a b W (hA.below hW) (hB.below hW) (by omega) (by omega)) (fun W hW => refMerged_any ns ss A B c d a b W (hA.below hW) (hB.below hW) (by omega) (by omega))
        (wSwapped_g ns ss A B c d w hA hB (by omega) (by omega)) (refSwapped_g ns ss A B c d w hA hB (by omega) (by omega))
        (wBoth_g ns ss ms ts A B C D c d e0 f0 w hA hB hC hD (by omega) (by omega) (by omega) (by omega)) (refBoth_g ns ss ms ts A B C D c d e0 f0 w hA hB hC hD (by omega) (by omega) (by omega) (by omega))
end Go.Proofs.Ytolpbbabmcpdkaa
