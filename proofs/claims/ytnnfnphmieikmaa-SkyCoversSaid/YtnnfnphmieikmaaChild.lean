/-
  Contracts: Children of the program and of the reference.
-/
import Derived.Test.YtnnfnphmieikmaaSane
namespace Go.Proofs.Ytnnfnphmieikmaa
open Go Go.RowKit Go.Shelf

def chOk (n p : Int) : Bool := okP n p && decide (n ≠ 4)
def chL (n p : Int) : List Int := if chOk n p then [4 * p, 4 * p + 1, 4 * p + 2, 4 * p + 3] else []
def chE (n p : Int) : Int := if okP n p then (if n = 4 then 5 else 0) else 2
/-- What is asked of a function value that is told a cell and hands a list back. -/
def TellL (g : Nat) (n p : Int) (zs : List Int) (w : World) : Prop :=
  ∀ W : World, Below w.heap.size w W → Calls Try.prog g #[.agg #[.int .i64 n, .int .i64 p]] W fun e w' => ∃ A c, e = .returned (.slice A zs.length c) ∧ Out w' A c zs ∧ Below W.heap.size W w'
set_option maxRecDepth 100000 in
theorem toldList_no (n p : Int) (hp : okP n p = false) (g : Value) (w : World) :
    Calls Try.prog 89 #[.int .i64 n, .int .i64 p, g] w fun e w' => e = .returned (.tuple #[.slice none 0 0, .int .i64 2]) ∧ Below w.heap.size w w' := by
  have HP := Lib.hid hp
  clear hp
  go_enter Try.func89, Try.ntmps89
  go_wp2_with (go_at_call 102; refine (validCell_any n p _).mono ?_; rintro e w1 ⟨he, hB1⟩; rw [HP.out] at he; subst he; have hW1 : Below w.heap.size w w1 := (Below.trans (by repeat (first | with_reducible exact Below.refl _ _ | with_reducible assumption | refine below_drewN ?_ _ | with_reducible refine Below.drew ?_ | (refine Below.setCell ?_ (by first | (simp; done) | (simp; omega) | omega) _) | (refine Below.alloc ?_ (by first | (simp; done) | (simp; omega) | omega) _))) (hB1.mono (by first | (simp; done) | (simp; omega) | omega))); clear hB1)
  go_ret2
  exact ⟨rfl, hW1⟩
set_option maxRecDepth 100000 in
theorem toldList_yes (n p : Int) (hp : okP n p = true) (g : Nat) (eg : ∀ args w, (callFunc g args).run Try.prog w = .ok (.enter g args) w) (zs : List Int) (w : World) (hT : TellL g n p zs w) :
    Calls Try.prog 89 #[.int .i64 n, .int .i64 p, .func (.func g) #[] #[]] w fun e w' => ∃ A c, e = .returned (.tuple #[.slice A zs.length c, .int .i64 0]) ∧ Out w' A c zs ∧ Below w.heap.size w w' := by
  have HP := Lib.hid hp
  have HT := Lib.hid hT
  clear hp hT
  go_enter Try.func89, Try.ntmps89
  go_wp2_with (first | (go_at_call 102; refine (validCell_any n p _).mono ?_; rintro e w1 ⟨he, hB1⟩; rw [HP.out] at he; subst he; have hW1 : Below w.heap.size w w1 := (Below.trans (by repeat (first | with_reducible exact Below.refl _ _ | with_reducible assumption | refine below_drewN ?_ _ | with_reducible refine Below.drew ?_ | (refine Below.setCell ?_ (by first | (simp; done) | (simp; omega) | omega) _) | (refine Below.alloc ?_ (by first | (simp; done) | (simp; omega) | omega) _))) (hB1.mono (by first | (simp; done) | (simp; omega) | omega))); have c0 := (hB1.cell (p := ⟨w.heap.size, 0, none⟩) (by simp)).trans (cell_of_row _ _ 0 _ _ _ (heap_alloc_new w _)); have c1 := (hB1.cell (p := ⟨w.heap.size, 1, none⟩) (by simp)).trans (cell_of_row _ _ 1 _ _ _ (heap_alloc_new w _)); simp at c0 c1; have HB1 := Lib.hid hB1; clear hB1) | (go_at_fn g; refine (HT.out _ hW1).mono ?_; rintro e w2 ⟨A2, c2, rfl, hO2, hB2⟩; have hW2 : Below w.heap.size w w2 := below_step hW1 hB2; have HB2 := Lib.hid hB2; clear hB2))
  go_ret2
  exact ⟨A2, c2, rfl, hO2, hW2⟩
theorem four_out (w : World) (a b c d : Int) (g : Nat) (hg : g = w.heap.size) : Out (w.alloc (.cells #[.int .i64 a, .int .i64 b, .int .i64 c, .int .i64 d] 3)) (some ⟨g, 0, none⟩) 4 [a, b, c, d] := by
  subst hg
  exact ⟨⟨rfl, fun _ => ⟨_, rfl, by simp, cells_new w [.int .i64 a, .int .i64 b, .int .i64 c, .int .i64 d] 3⟩⟩, Nat.le_refl _, by unfold maxLen; simp⟩
set_option maxRecDepth 100000 in
theorem childLit_any (k p : Nat) (hp : p < 3072) (w : World) :
    Calls Try.prog 90 #[.agg #[.int .i64 (k : Int), .int .i64 (p : Int)]] w fun e w' => ∃ A c, e = .returned (.slice A 4 c) ∧ Out w' A c [4 * (p : Int), 4 * (p : Int) + 1, 4 * (p : Int) + 2, 4 * (p : Int) + 3] ∧ Below w.heap.size w w' := by
  go_enter Try.func90, Try.ntmps90
  go_wp2
  go_ret
  exact ⟨_, _, rfl, four_out _ _ _ _ _ _ (by simp), (by repeat (first | with_reducible exact Below.refl _ _ | with_reducible assumption | refine below_drewN ?_ _ | with_reducible refine Below.drew ?_ | (refine Below.setCell ?_ (by first | (simp; done) | (simp; omega) | omega) _) | (refine Below.alloc ?_ (by first | (simp; done) | (simp; omega) | omega) _)))⟩
set_option maxRecDepth 100000 in
theorem skyChildren_any (n p : Int) (w : World) :
    Calls Try.prog 38 #[.int .i64 n, .int .i64 p] w fun e w' => ∃ A c, e = .returned (.tuple #[.slice A (chL n p).length c, .int .i64 (chE n p)]) ∧ Out w' A c (chL n p) ∧ Below w.heap.size w w' := by
  cases hp : okP n p with
  | false =>
    have e1 : chL n p = [] := by simp [chL, chOk, hp]
    have e2 : chE n p = 2 := by simp [chE, hp]
    rw [e1, e2]
    have HP := Lib.hid hp
    clear hp e1 e2
    go_enter Try.func38, Try.ntmps38
    go_wp2_with (go_at_call 89; refine (toldList_no n p HP.out _ _).mono ?_; rintro e w1 ⟨rfl, hB1⟩)
    go_ret2
    exact ⟨none, 0, rfl, Out.nil_, hB1⟩
  | true =>
    obtain ⟨k, q, rfl, rfl, hk, hq⟩ := okP_of hp
    have hl := (pxN_le hk).1
    have eg : ∀ args w, (callFunc 90 args).run Try.prog w = .ok (.enter 90 args) w := enters_of Try.func90 (by kernel_rfl) rfl
    have C := Lib.hid (toldList_yes (k : Int) (q : Int) hp _ eg [4 * (q : Int), 4 * (q : Int) + 1, 4 * (q : Int) + 2, 4 * (q : Int) + 3] w (fun W _ => childLit_any k q (by omega) W))
    by_cases h4 : k = 4
    · have e1 : chL k q = [] := by simp [chL, chOk, h4]
      have e2 : chE k q = 5 := by rw [chE, if_pos hp, if_pos (by omega)]
      rw [e1, e2]
      have t : ((k : Int) == 4) = true := by simp; omega
      clear hp e1 e2 eg h4
      go_enter Try.func38, Try.ntmps38
      go_wp2_with (go_at_call 89; refine (C.out).mono ?_; rintro e w1 ⟨A1, c1, rfl, hO1, hB1⟩)
      go_ret2
      exact ⟨none, 0, rfl, Out.nil_, hB1⟩
    · have e1 : chL k q = [4 * (q : Int), 4 * (q : Int) + 1, 4 * (q : Int) + 2, 4 * (q : Int) + 3] := by simp [chL, chOk, hp]; omega
      have e2 : chE k q = 0 := by simp [chE, hp]; omega
      rw [e1, e2]
      have t : ((k : Int) == 4) = false := by simp; omega
      clear hp e1 e2 eg h4
      go_enter Try.func38, Try.ntmps38
      go_wp2_with (go_at_call 89; refine (C.out).mono ?_; rintro e w1 ⟨A1, c1, rfl, hO1, hB1⟩)
      go_ret2
      exact ⟨A1, c1, rfl, hO1, hB1⟩
set_option maxRecDepth 100000 in
theorem refChildren_any (n p : Int) (w : World) :
    Calls Try.prog 39 #[.int .i64 n, .int .i64 p] w fun e w' => ∃ A c, e = .returned (.tuple #[.slice A (chL n p).length c, .int .i64 (chE n p)]) ∧ Out w' A c (chL n p) ∧ Below w.heap.size w w' := by
  cases hp : okP n p with
  | false =>
    have e1 : chL n p = [] := by simp [chL, chOk, hp]
    have e2 : chE n p = 2 := by simp [chE, hp]
    rw [e1, e2]
    have HP := Lib.hid hp
    clear hp e1 e2
    go_enter Try.func39, Try.ntmps39
    go_wp2_with (go_at_call 71; refine (isPixel_any _ _ _).mono ?_; rintro e w1 ⟨he, rfl⟩; rw [HP.out] at he; subst he)
    go_ret2
    exact ⟨none, 0, rfl, Out.nil_, Below.refl _ _⟩
  | true =>
    obtain ⟨k, q, rfl, rfl, hk, hq⟩ := okP_of hp
    have hl := (pxN_le hk).1
    have HP := Lib.hid hp
    by_cases h4 : k = 4
    · have e1 : chL k q = [] := by simp [chL, chOk, h4]
      have e2 : chE k q = 5 := by rw [chE, if_pos hp, if_pos (by omega)]
      rw [e1, e2]
      have t : ((k : Int) == 4) = true := by simp; omega
      clear hp e1 e2 h4
      go_enter Try.func39, Try.ntmps39
      go_wp2_with (go_at_call 71; refine (isPixel_any _ _ _).mono ?_; rintro e w1 ⟨he, rfl⟩; rw [HP.out] at he; subst he)
      go_ret2
      exact ⟨none, 0, rfl, Out.nil_, Below.refl _ _⟩
    · have e1 : chL k q = [4 * (q : Int), 4 * (q : Int) + 1, 4 * (q : Int) + 2, 4 * (q : Int) + 3] := by simp [chL, chOk, hp]; omega
      have e2 : chE k q = 0 := by simp [chE, hp]; omega
      rw [e1, e2]
      have t : ((k : Int) == 4) = false := by simp; omega
      clear hp e1 e2 h4
      go_enter Try.func39, Try.ntmps39
      go_wp2_with (go_at_call 71; refine (isPixel_any _ _ _).mono ?_; rintro e w1 ⟨he, rfl⟩; rw [HP.out] at he; subst he)
      go_ret2
      exact ⟨_, _, rfl, four_out _ _ _ _ _ _ rfl, (by repeat (first | with_reducible exact Below.refl _ _ | with_reducible assumption | refine below_drewN ?_ _ | with_reducible refine Below.drew ?_ | (refine Below.setCell ?_ (by first | (simp; done) | (simp; omega) | omega) _) | (refine Below.alloc ?_ (by first | (simp; done) | (simp; omega) | omega) _)))⟩
theorem ch_len (n p : Int) : (chL n p).length ≤ maxLen := by
  unfold chL; split <;> simp [maxLen]
end Go.Proofs.Ytnnfnphmieikmaa
