/-
  Contracts: leastStep, stepOf (wave); what a call answers that returns a text and an error.
-/
import Derived.Test.YtcmnjmhedmneiaaDoorBits
import Derived.Test.YtcmnjmhedmneiaaDoorWord
namespace Go.Proofs.YtcmnjmhedmneiaaDoor
open Go.RowKit Go.Shelf

def leastK (p : Nat → Bool) : Option Nat := (List.range 5).find? p
/-- The step of a width. -/
def ksF (n : Int) : Option Nat := leastK fun k => decide ((wdN k : Int) = n)
def stV (o : Option Nat) : Value := .tuple #[.int .i64 (o.getD 0), .bool o.isSome]
theorem least_none {p : Nat → Bool} (h : ∀ j, j < 5 → p j = false) : leastK p = none := by
  rw [leastK, List.find?_eq_none]
  intro x hx
  rw [h x (List.mem_range.1 hx)]; simp
theorem least_some {p : Nat → Bool} {k : Nat} (hk : k < 5) (h : ∀ j, j < k → p j = false) (hp : p k = true) : leastK p = some k := by
  rw [leastK, List.find?_eq_some_iff_append]
  refine ⟨hp, List.range k, (List.range' (k + 1) (4 - k)), ?_, fun a ha => by simp [h a (List.mem_range.1 ha)]⟩
  rcases (show k = 0 ∨ k = 1 ∨ k = 2 ∨ k = 3 ∨ k = 4 by omega) with rfl | rfl | rfl | rfl | rfl <;> rfl
theorem least_spec {p : Nat → Bool} {k : Nat} (h : leastK p = some k) : k < 5 ∧ p k = true :=
  ⟨List.mem_range.1 (List.mem_of_find?_eq_some h), List.find?_some h⟩
theorem ks_some {n : Int} {k : Nat} (h : ksF n = some k) : k < 5 ∧ (wdN k : Int) = n := by
  have := least_spec h
  simpa using this
/-- What is asked of a function value that says yes or no to a width. -/
def AskAt (g : Nat) (lb : Array Value) (p : Nat → Bool) (w : World) : Prop :=
  ∀ (W : World) (k : Nat), k < 5 → Below w.heap.size w W → Calls Tryd.prog g (#[.int .i64 (wdN k)] ++ lb) W fun e w' => e = .returned (.bool (p k)) ∧ Below W.heap.size W w'

set_option maxRecDepth 100000 in
set_option maxHeartbeats 800000 in
theorem leastStep_any (g : Nat) (lb : Array Value) (p : Nat → Bool) (eg : ∀ args w, (callFunc g args).run Tryd.prog w = .ok (.enter g args) w) (w : World) (hW : Wids w) (hK : AskAt g lb p w) :
    Calls Tryd.prog 78 #[.func (.func g) #[] lb] w fun e w' => e = .returned (stV (leastK p)) ∧ Below w.heap.size w w' := by
  have HK := Lib.hid hK
  have HW := Lib.hid hW
  clear hK hW
  go_enter Tryd.func78, Tryd.ntmps78
  go_wp2
  go_loopw [4, 5] (fun _ i wr => ∃ k : Nat, k ≤ 5 ∧ i = .int .i64 k ∧ Below w.heap.size w wr ∧ Hid (∀ j, j < k → p j = false)) (fun _ i _ => 5 - (intOf i).toNat)
  case atStart => exact ⟨0, by omega, rfl, Below.refl _ _, fun j hj => absurd hj (by omega)⟩
  case round =>
    obtain ⟨k, hk, rfl, hB, hN⟩ := hrel
    by_cases hlt : k < 5
    · have f0 := (HW.out.below hB).2 k hlt
      have hcall := HK.out wr k hlt hB
      cases hp : p k with
      | true =>
        rw [hp] at hcall
        have HP := Lib.hid hp
        clear hp
        go_wp2_with (go_at_fn g; refine hcall.mono ?_; rintro e w3 ⟨rfl, hB3⟩; have hW3 : Below w.heap.size w w3 := below_step hB hB3)
        go_ret2
        exact ⟨by rw [least_some hlt hN.out HP.out]; rfl, hW3⟩
      | false =>
        rw [hp] at hcall
        have HP := Lib.hid hp
        clear hp
        go_wp2_with (go_at_fn g; refine hcall.mono ?_; rintro e w3 ⟨rfl, hB3⟩; have hW3 : Below w.heap.size w w3 := below_step hB hB3)
        go_roundw
        case rel => exact ⟨k + 1, by omega, by go_num, hW3, fun j hj => by
          rcases Nat.lt_succ_iff_lt_or_eq.1 hj with h | h
          · exact hN.out j h
          · rw [h]; exact HP.out⟩
        case measure => simp [intOf]; omega
    · obtain rfl : k = 5 := by omega
      go_wp2
      go_ret2
      exact ⟨by rw [least_none hN.out]; rfl, hB⟩

set_option maxRecDepth 100000 in
theorem ask_step (n : Int) (B : Nat) (w : World) (hb : B < w.heap.size) (hc : w.cell? ⟨B, 0, none⟩ = some (.int .i64 n)) :
    AskAt 94 #[.pointer (some ⟨B, 0, none⟩)] (fun k => decide ((wdN k : Int) = n)) w := by
  intro W k hk hB
  have c0 := (hB.cell (p := ⟨B, 0, none⟩) hb).trans hc
  show Calls Tryd.prog _ #[.int .i64 (wdN k), .pointer (some ⟨B, 0, none⟩)] W fun e w' => e = .returned (.bool (decide ((wdN k : Int) = n))) ∧ Below W.heap.size W w'
  generalize wdN k = d
  clear hb hc hB hk
  go_enter Tryd.func94, Tryd.ntmps94
  go_wp2
  go_ret
  exact ⟨ret_bool (by rw [Bool.eq_iff_iff]; simp), Below.refl _ _⟩

set_option maxRecDepth 100000 in
theorem stepOf_any (n : Int) (w : World) (hW : Wids w) :
    Calls Tryd.prog 64 #[.int .i64 n] w fun e w' => e = .returned (stV (ksF n)) ∧ Below w.heap.size w w' := by
  have HW := Lib.hid hW
  have eg : ∀ args w, (callFunc 94 args).run Tryd.prog w = .ok (.enter 94 args) w := enters_of Tryd.func94 (by kernel_rfl) rfl
  clear hW
  go_enter Tryd.func64, Tryd.ntmps64
  go_wp2_with fail
  have hB0 : Below w.heap.size w (w.alloc (.cells #[.int .i64 n] 3)) := (by repeat (first | with_reducible exact Below.refl _ _ | with_reducible assumption | refine below_drewN ?_ _ | with_reducible refine Below.drew ?_ | (refine Below.setCell ?_ (by first | (simp; done) | (simp; omega) | omega) _) | (refine Below.alloc ?_ (by first | (simp; done) | (simp; omega) | omega) _)))
  refine (leastStep_any _ _ _ eg _ (HW.out.below hB0) (ask_step n w.heap.size _ (by first | (simp; done) | (simp; omega) | omega) (by simp))).mono ?_
  rintro e w1 ⟨rfl, hB1⟩
  have hB2 := below_step hB0 hB1
  generalize hv : ksF n = o
  have e0 : leastK (fun k => decide ((wdN k : Int) = n)) = o := hv
  rw [e0]
  have HV := Lib.hid hv
  clear eg hv e0
  unfold stV
  go_wp2
  go_ret2
  exact ⟨by rw [HV.out]; rfl, hB2⟩

/-- What a call answers that returns a text and an error. -/
def TextRes (E : Int) (l : List UInt8) (e : Ending) (w w' : World) : Prop :=
  ∃ (q : ByteArray) (F : Int), e = .returned (.tuple #[.string q, .int .i64 F]) ∧ Below w.heap.size w w' ∧ Hid (q = ⟨l.toArray⟩ ∧ F = E)
/-- What a call answers that returns a number and an error. -/
def NumRes (E n : Int) (e : Ending) (w w' : World) : Prop :=
  ∃ m F : Int, e = .returned (.tuple #[.int .i64 m, .int .i64 F]) ∧ Below w.heap.size w w' ∧ Hid (m = n ∧ F = E)
end Go.Proofs.YtcmnjmhedmneiaaDoor
