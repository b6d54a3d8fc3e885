/-
  Contracts: told of threads, Threads (cone).
-/
import Derived.Test.YtmlkdjcjfkfdiaaThreads
import Derived.Test.YtmlkdjcjfkfdiaaLayersT
namespace Go.Proofs.Ytmlkdjcjfkfdiaa
open Go.RowKit Go.Shelf

theorem thr_len {ms : List (Int × Int)} {T : List (List Int)} (hv : vhB ms = true) (h : thyB ms T = true ∧ T.length ≤ (layerL ms).length) : thyB ms T = true ∧ T.length = (layerL ms).length := by
  obtain ⟨hn1, hn2⟩ := vh_parts hv
  have := lay_thy (layer_is hn1 (by omega)) h.1
  exact ⟨h.1, by omega⟩
set_option maxRecDepth 100000 in
theorem toldThreads_any (ms : List (Int × Int)) (A : Option Addr) (c : Nat) (w : World) (h : Clk w A c ms) :
    Calls Try.prog 77 #[.slice A ms.length c, .func (Fn.func 89) #[.slice A ms.length c] #[]] w fun e w' => ∃ (A' : Option Addr) (c' : Nat) (ys : List (List Int)) (E : Int), e = .returned (.tuple #[.slice A' ys.length c', .int .i64 E]) ∧ TOut w' A' c' ys ∧ Below w.heap.size w w' ∧ Hid (E = hitsE ms ∧ (vhB ms = true → thyB ms ys = true ∧ ys.length = (layerL ms).length) ∧ (vhB ms = false → ys = [])) := by
  have H := Lib.hid h
  clear h
  cases hv : vhB ms with
  | true =>
    have HV := Lib.hid hv
    clear hv
    go_enter Try.func77, Try.ntmps77
    go_wp2_with (first
      | (go_at_call 21; refine (valid_any ms A c _ H.out.marks H.out.len).mono ?_; rintro e w1 ⟨he, hB1⟩; rw [HV.out] at he; subst he)
      | (go_at_call 89; refine (threads_any ms A c _ (H.out.marks.below hB1) HV.out).mono ?_; rintro e w2 ⟨A2, c2, ys, rfl, hO2, hB2, hy⟩))
    go_ret2
    exact ⟨A2, c2, ys, _, rfl, hO2, below_step hB1 hB2, (hitsE_yes HV.out).symm, fun _ => thr_len HV.out hy.out, fun h => by first | (cases h; done) | (rw [HV.out] at h; cases h)⟩
  | false =>
    have HV := Lib.hid hv
    clear hv
    go_enter Try.func77, Try.ntmps77
    go_wp2_with (go_at_call 21; refine (valid_any ms A c _ H.out.marks H.out.len).mono ?_; rintro e w1 ⟨he, hB1⟩; rw [HV.out] at he; subst he)
    go_ret2
    exact ⟨none, 0, [], _, rfl, TOut.nil_, hB1, (hitsE_no HV.out).symm, (fun h => by first | (cases h; done) | (rw [HV.out] at h; cases h)), fun _ => rfl⟩
set_option maxRecDepth 100000 in
theorem coneThreads_any (ms : List (Int × Int)) (A : Option Addr) (c : Nat) (w : World) (h : Clk w A c ms) :
    Calls Try.prog 44 #[.slice A ms.length c] w fun e w' => ∃ (A' : Option Addr) (c' : Nat) (ys : List (List Int)) (E : Int), e = .returned (.tuple #[.slice A' ys.length c', .int .i64 E]) ∧ TOut w' A' c' ys ∧ Below w.heap.size w w' ∧ Hid (E = hitsE ms ∧ (vhB ms = true → thyB ms ys = true ∧ ys.length = (layerL ms).length) ∧ (vhB ms = false → ys = [])) := by
  have H := Lib.hid h
  clear h
  go_enter Try.func44, Try.ntmps44
  go_wp2_with (go_at_call 77; refine (toldThreads_any ms A c _ H.out).mono ?_; rintro e w2 ⟨A2, c2, ys, E, rfl, hO2, hB2, hy⟩)
  go_ret2
  exact ⟨A2, c2, ys, E, rfl, hO2, hB2, hy⟩
end Go.Proofs.Ytmlkdjcjfkfdiaa
