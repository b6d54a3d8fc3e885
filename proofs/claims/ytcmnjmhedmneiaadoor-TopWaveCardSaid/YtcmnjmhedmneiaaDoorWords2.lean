/-
  Contracts: canHave, sign, better.
-/
import Derived.Test.YtcmnjmhedmneiaaDoorWords
namespace Go.Proofs.YtcmnjmhedmneiaaDoor
open Go.RowKit Go.Shelf

theorem can_both {h d : Int} : (decide (-h ≤ d ∧ d < h) && decide (-h ≤ -d ∧ -d < h)) = decide (-h < d ∧ d < h) := by
  rw [← Bool.decide_and]
  exact decide_eq_decide.2 (by omega)
set_option maxRecDepth 100000 in
theorem canHave_any {wi h : Int} (hw : WH wi h) (d : Int) (w : World) (h0 : -2000 ≤ d) (h1 : d ≤ 2000) :
    Calls Tryd.prog 80 #[.int .i64 wi, .int .i64 d] w fun e w' => e = .returned (.bool (decide (-h < d ∧ d < h))) ∧ w = w' := by
  have HE := Lib.hid (can_both (h := h) (d := d))
  have HW := Lib.hid hw
  have TA : Hid True := Lib.hid trivial
  clear hw
  cases h1b : decide (-h ≤ d ∧ d < h) with
  | false =>
    have H1 := Lib.hid h1b
    clear h1b
    go_enter Tryd.func80, Tryd.ntmps80
    go_wp2_with (go_at_call 65; refine (inWord_any HW.out d _).mono ?_; rintro e w1 ⟨rfl, rfl⟩; rw [H1.out])
    go_ret
    exact ⟨ret_bool (by have := HE.out; rw [H1.out] at this; exact this), rfl⟩
  | true =>
    have H1 := Lib.hid h1b
    clear h1b
    go_enter Tryd.func80, Tryd.ntmps80
    go_wp2_with (first
      | (go_at_call 65; clear TA; refine (inWord_any HW.out d _).mono ?_; rintro e w1 ⟨rfl, rfl⟩; rw [H1.out])
      | (go_at_call 65; refine (inWord_any HW.out (-d) _).mono ?_; rintro e w1 ⟨rfl, rfl⟩))
    go_ret
    exact ⟨ret_bool (by have := HE.out; rw [H1.out] at this; simpa using this), rfl⟩
theorem canHave_at (k : Nat) (d : Int) (w : World) (h0 : -2000 ≤ d) (h1 : d ≤ 2000) :
    Calls Tryd.prog 80 #[.int .i64 (wdN k), .int .i64 d] w fun e w' => e = .returned (.bool (canB (wdN k) d)) ∧ w = w' :=
  canHave_any (wh_at k) d w h0 h1

theorem rep_eq (c : Nat) : Lib.repeatL [48] c = List.replicate c 48 := by
  induction c with
  | zero => rfl
  | succ c ih => rw [Lib.repeatL, ih]; rfl
set_option maxRecDepth 100000 in
theorem sign_any (k : Nat) (w : World) :
    Calls Tryd.prog 101 #[.int .i64 (wdN k)] w fun e w' => e = .returned (sv (signL (wdN k))) ∧ Below w.heap.size w w' := by
  obtain ⟨n, hn⟩ : ∃ n, wdN k = n + 1 := ⟨wdN k - 1, by have := wd_bd k; omega⟩
  have hb := wd_bd k
  rw [hn] at hb ⊢
  have hn10 : n ≤ 10 := by omega
  have s1 : IntKind.i64.wrap (((n + 1 : Nat) : Int) - 1) = (n : Int) := by rw [show (((n + 1 : Nat) : Int) - 1) = (n : Int) by omega]; exact IntWalk.i64_in _ (by omega)
  have s2 : IntKind.i64.wrap ((n : Int) + 1 - 1) = (n : Int) := by rw [show ((n : Int) + 1 - 1) = (n : Int) by omega]; exact IntWalk.i64_in _ (by omega)
  have hz : (⟨(Lib.repeatL [48] n).toArray⟩ : ByteArray).size ≤ 10 := by rw [sv_size, rep_eq, List.length_replicate]; exact hn10
  have hrep : ∀ w, Calls Tryd.prog 107 #[.string ⟨#[48]⟩, .int .i64 n] w fun e w' => e = .returned (.string ⟨(Lib.repeatL [48] n).toArray⟩) ∧ Below w.heap.size w w' := fun w => strings_Repeat ⟨#[48]⟩ n w (by omega) (by show 1 * n ≤ _; omega)
  have HR := Lib.hid hrep
  have HN := Lib.hid hn
  clear hn hrep
  generalize hq : (⟨(Lib.repeatL [48] n).toArray⟩ : ByteArray) = q at hz HR
  have HQ := Lib.hid hq
  clear hq
  go_enter Tryd.func101, Tryd.ntmps101
  go_wp2_with (go_at_call 107; refine (HR.out _).mono ?_; rintro e w1 ⟨rfl, hB⟩)
  go_ret
  refine ⟨?_, hB⟩
  rw [← HQ.out, rep_eq]
  exact congrArg (fun s => Ending.returned (.string s)) (sv_append [49] (List.replicate n 48))

set_option maxRecDepth 100000 in
theorem better_any (a b : List UInt8) (w : World) :
    Calls Tryd.prog 96 #[sv a, sv b] w fun e w' => e = .returned (.bool (betterB a b)) ∧ w = w' := by
  have e1 := sv_size a
  have e2 := sv_size b
  go_enter Tryd.func96, Tryd.ntmps96
  go_wp2
  all_goals
    go_ret
    refine ⟨ret_bool ?_, rfl⟩
  · have h : a.length = b.length := by omega
    rw [betterB, decide_eq_true h]; simp
  · have h : ¬ a.length = b.length := by omega
    rw [betterB, decide_eq_false h]; simp
  · have h : a.length < b.length := by omega
    rw [betterB, decide_eq_true h]; rfl
end Go.Proofs.YtcmnjmhedmneiaaDoor
