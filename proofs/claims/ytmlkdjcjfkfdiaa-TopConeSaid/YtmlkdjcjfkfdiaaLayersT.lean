/-
  Contracts: told of tables, Layers (cone).
-/
import Derived.Test.YtmlkdjcjfkfdiaaLayers
namespace Go.Proofs.Ytmlkdjcjfkfdiaa
open Go.RowKit Go.Shelf

set_option maxRecDepth 100000 in
theorem toldLayers_any (ms : List (Int × Int)) (A : Option Addr) (c : Nat) (w : World) (h : Clk w A c ms) :
    Calls Try.prog 77 #[.slice A ms.length c, .func (Fn.func 78) #[.slice A ms.length c] #[]] w fun e w' => ∃ (A' : Option Addr) (c' : Nat) (ys : List (List Int)) (E : Int), e = .returned (.tuple #[.slice A' ys.length c', .int .i64 E]) ∧ TOut w' A' c' ys ∧ Below w.heap.size w w' ∧ Hid (ys = layersF ms ∧ E = hitsE ms) := by
  have H := Lib.hid h
  clear h
  cases hv : vhB ms with
  | true =>
    have HV := Lib.hid hv
    clear hv
    go_enter Try.func77, Try.ntmps77
    go_wp2_with (first
      | (go_at_call 21; refine (valid_any ms A c _ H.out.marks H.out.len).mono ?_; rintro e w1 ⟨he, hB1⟩; rw [HV.out] at he; subst he)
      | (go_at_call 78; refine (layers_any ms A c _ (H.out.marks.below hB1) HV.out).mono ?_; rintro e w2 ⟨A2, c2, ys, rfl, hO2, hB2, hy⟩))
    go_ret2
    exact ⟨A2, c2, ys, _, rfl, hO2, below_step hB1 hB2, by rw [hy.out, layersF, HV.out]; rfl, (hitsE_yes HV.out).symm⟩
  | false =>
    have HV := Lib.hid hv
    clear hv
    go_enter Try.func77, Try.ntmps77
    go_wp2_with (go_at_call 21; refine (valid_any ms A c _ H.out.marks H.out.len).mono ?_; rintro e w1 ⟨he, hB1⟩; rw [HV.out] at he; subst he)
    go_ret2
    exact ⟨none, 0, [], _, rfl, TOut.nil_, hB1, by rw [layersF, HV.out]; rfl, (hitsE_no HV.out).symm⟩
set_option maxRecDepth 100000 in
theorem coneLayers_any (ms : List (Int × Int)) (A : Option Addr) (c : Nat) (w : World) (h : Clk w A c ms) :
    Calls Try.prog 33 #[.slice A ms.length c] w fun e w' => ∃ (A' : Option Addr) (c' : Nat) (ys : List (List Int)) (E : Int), e = .returned (.tuple #[.slice A' ys.length c', .int .i64 E]) ∧ TOut w' A' c' ys ∧ Below w.heap.size w w' ∧ Hid (ys = layersF ms ∧ E = hitsE ms) := by
  have H := Lib.hid h
  clear h
  go_enter Try.func33, Try.ntmps33
  go_wp2_with (go_at_call 77; refine (toldLayers_any ms A c _ H.out).mono ?_; rintro e w2 ⟨A2, c2, ys, E, rfl, hO2, hB2, hy⟩)
  go_ret2
  exact ⟨A2, c2, ys, E, rfl, hO2, hB2, hy⟩
end Go.Proofs.Ytmlkdjcjfkfdiaa
