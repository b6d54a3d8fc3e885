/-
  Contracts: Len64, Len (math/bits) at small numbers; pdqsortCmpFunc, SortFunc; cmp.Less, insertionSortOrdered, pdqsortOrdered, Sort (slices) at at most 10 ints.
-/
import Derived.Test.YtolpbbabmcpdkaaSort
set_option linter.unusedVariables false
set_option linter.unusedSimpArgs false
namespace Go.Proofs.Ytolpbbabmcpdkaa
open Go.RowKit Go.Shelf

set_option maxRecDepth 100000 in
set_option maxHeartbeats 2000000 in
theorem len64_small (n : Nat) (hn : n ≤ 10) (w : World) :
    Calls Try.prog 125 #[.int .u64 n] w fun e w' => (∃ r : Int, e = .returned (.int .i64 r)) ∧ w = w' := by
  have hc : n = 0 ∨ n = 1 ∨ n = 2 ∨ n = 3 ∨ n = 4 ∨ n = 5 ∨ n = 6 ∨ n = 7 ∨ n = 8 ∨ n = 9 ∨ n = 10 := by omega
  rcases hc with rfl | rfl | rfl | rfl | rfl | rfl | rfl | rfl | rfl | rfl | rfl <;> (
    go_enter Try.func125, Try.ntmps125
    go_wp2
    go_ret
    exact ⟨⟨_, rfl⟩, rfl⟩)
set_option maxRecDepth 100000 in
theorem len_small (n : Nat) (hn : n ≤ 10) (w : World) :
    Calls Try.prog 106 #[.int .u64 n] w fun e w' => (∃ r : Int, e = .returned (.int .i64 r)) ∧ w = w' := by
  go_enter Try.func106, Try.ntmps106
  go_wp2_with (go_at_call 125; refine (len64_small n hn _).mono ?_; rintro e w1 ⟨⟨r, rfl⟩, rfl⟩)
  go_ret
  exact ⟨⟨r, rfl⟩, rfl⟩

theorem srt_mono {f : Int → Int} {ys : List Int} {i n : Nat} (h : Srt f ys i) (hn : n ≤ i) : Srt f ys n := fun p q hpq hq => h p q hpq (by omega)

set_option maxRecDepth 100000 in
set_option maxHeartbeats 1000000 in
theorem sortFunc_any (ns ss : List Int) (A B : Option Addr) (c d : Nat) (ho : Od ns ss) (xs : List Int) (n gb cap : Nat) (w0 w : World) (hn1 : 1 ≤ n) (hn : n ≤ 10) (hl : xs.length = n) (hx : ∀ x ∈ xs, 0 ≤ x ∧ x < ns.length)
    (hown : w.ownsRow w0.heap.size 3 1 (.slice (some ⟨gb, 0, none⟩) n cap) n (xs.map (Value.int .i64))) (hB : Below w0.heap.size w0 w) (hA : Ints w0 A ns) (hBB : Ints w0 B ss) :
    Calls Try.prog 102 #[.slice (some ⟨gb, 0, none⟩) n cap, .func (.func 103) #[.agg #[.slice A ns.length c, .slice B ss.length d, .int .i64 ns.sum, .int .i64 ss.sum]] #[]] w fun e w' => e = .returned (.tuple #[]) ∧ ∃ ys : List Int, w'.ownsRow w0.heap.size 3 1 (.slice (some ⟨gb, 0, none⟩) n cap) n (ys.map (Value.int .i64)) ∧ Below w0.heap.size w0 w' ∧ Hid (ys.Perm xs ∧ Srt (rkI ns ss) ys n) := by
  have HI := Lib.hid (insertion_any ns ss A B c d ho xs n gb cap w0 w hn1 hn hl hx hown hB hA hBB)
  clear hx hown hB hA hBB
  have HP : Hid (∀ r : Int, Calls Try.prog 113 #[.slice (some ⟨gb, 0, none⟩) n cap, .int .i64 0, .int .i64 n, .int .i64 r, .func (.func 103) #[.agg #[.slice A ns.length c, .slice B ss.length d, .int .i64 ns.sum, .int .i64 ss.sum]] #[]] w fun e w' => e = .returned (.tuple #[]) ∧ ∃ ys : List Int, w'.ownsRow w0.heap.size 3 1 (.slice (some ⟨gb, 0, none⟩) n cap) n (ys.map (Value.int .i64)) ∧ Below w0.heap.size w0 w' ∧ Hid (ys.Perm xs ∧ Srt (rkI ns ss) ys n)) := Lib.hid (by
    intro r
    have t1 : decide ((n : Int) ≤ 12) = true := decide_eq_true (by omega)
    go_enter Try.func113, Try.ntmps113
    go_wp2
    refine wp_loop_rounds 1 ?_
    rw [rounds_succ]
    go_wp2_with (go_at_call 127; refine HI.out.mono ?_; rintro e w1 ⟨rfl, ys, hown, hB, hP⟩)
    exact bodyPost_ret (v := .tuple #[]) (by simp [results, Try.results113, go_sem]) rfl ⟨rfl, ys, hown, hB, hP.out⟩)
  have u1 : IntKind.u64.wrap (n : Int) = n := IntWalk.u64_in _ (by omega)
  go_enter Try.func102, Try.ntmps102
  go_wp2_with (first
    | (go_at_call 106; refine (len_small n hn _).mono ?_; rintro e w1 ⟨⟨r, rfl⟩, rfl⟩)
    | (go_at_call 113; refine (HP.out r).mono ?_; rintro e w2 ⟨rfl, ys, hown, hB, hP⟩))
  go_end0
  exact ⟨rfl, ys, hown, hB, hP.out⟩

set_option maxRecDepth 100000 in
theorem isNaN_any (x : Int) (w : World) :
    Calls Try.prog 126 #[.int .i64 x] w fun e w' => e = .returned (.bool false) ∧ w = w' := by
  go_enter Try.func126, Try.ntmps126
  go_wp2
  go_ret
  exact ⟨by simp, rfl⟩
set_option maxRecDepth 100000 in
theorem less_any (x y : Int) (w : World) :
    Calls Try.prog 121 #[.int .i64 x, .int .i64 y] w fun e w' => e = .returned (.bool (decide (x < y))) ∧ w = w' := by
  go_enter Try.func121, Try.ntmps121
  go_wp2_with (go_at_call 126; refine (isNaN_any _ _).mono ?_; rintro e w' ⟨rfl, rfl⟩)
  all_goals
    go_ret
    exact ⟨rfl, rfl⟩
def idI (x : Int) : Int := x

set_option maxRecDepth 100000 in
set_option maxHeartbeats 1600000 in
theorem insertionO_any (xs : List Int) (n gb cap : Nat) (w0 w : World) (hn : n ≤ 10) (hl : xs.length = n)
    (hown : w.ownsRow w0.heap.size 3 1 (.slice (some ⟨gb, 0, none⟩) n cap) n (xs.map (Value.int .i64))) (hB : Below w0.heap.size w0 w) :
    Calls Try.prog 115 #[.slice (some ⟨gb, 0, none⟩) n cap, .int .i64 0, .int .i64 n] w fun e w' => e = .returned (.tuple #[]) ∧ ∃ ys : List Int, w'.ownsRow w0.heap.size 3 1 (.slice (some ⟨gb, 0, none⟩) n cap) n (ys.map (Value.int .i64)) ∧ Below w0.heap.size w0 w' ∧ Hid (ys.Perm xs ∧ Srt idI ys n) := by
  have HO := Lib.hid hown
  have HB := Lib.hid hB
  clear hown hB
  go_enter Try.func115, Try.ntmps115
  go_wp2
  go_loopw [6] (fun s wr => ∃ i : Nat, 1 ≤ i ∧ (i ≤ n ∨ i = 1) ∧ s = .int .i64 i ∧ ∃ ys : List Int, wr.ownsRow w0.heap.size 3 1 (.slice (some ⟨gb, 0, none⟩) n cap) n (ys.map (Value.int .i64)) ∧ Below w0.heap.size w0 wr ∧ Hid (ys.Perm xs ∧ Srt idI ys i)) (fun s _ => n - (intOf s).toNat)
  case atStart => exact ⟨1, Nat.le_refl _, .inr rfl, rfl, xs, HO.out, HB.out, List.Perm.refl _, srt_one _ _⟩
  case round =>
    obtain ⟨i, hi1, hin, rfl, ys, hown, hB, hP⟩ := hrel
    by_cases hlt : i < n
    · obtain ⟨wo, rfl⟩ : ∃ wo : World, wo = wr := ⟨_, rfl⟩
      go_wp2
      go_loopw [7] (fun s wr => ∃ j : Nat, j ≤ i ∧ s = .int .i64 j ∧ ∃ ys : List Int, wr.ownsRow w0.heap.size 3 1 (.slice (some ⟨gb, 0, none⟩) n cap) n (ys.map (Value.int .i64)) ∧ Below w0.heap.size w0 wr ∧ Hid (ys.Perm xs ∧ But idI ys i j)) (fun s _ => (intOf s).toNat)
      case atStart => exact ⟨i, Nat.le_refl _, rfl, ys, hown, hB, hP.out.1, but_start hP.out.2⟩
      case round =>
        clear hown hB hP
        clear ys
        obtain ⟨j, hj, rfl, ys, hown, hB, hP⟩ := hrel
        cases j with
        | zero =>
          go_wp2
          go_quiet (fail)
          go_wp2
          go_roundw
          case rel => exact ⟨i + 1, by omega, .inl (by omega), by go_num, ys, hown, below_drewN hB _, hP.out.1, but_end0 hP.out.2⟩
          case measure => simp [intOf]; omega
        | succ m =>
          have hyl : ys.length = n := hP.out.1.length_eq.trans hl
          have c1 := hown.cellAt (m + 1) (by omega)
          have c0 := hown.cellAt m (by omega)
          rw [List.getElem?_map, getD_some (by omega), Option.map_some] at c1 c0
          have hf1 := hown.frozenAt (m + 1)
          have hf0 := hown.frozenAt m
          have HSW := Lib.hid (swapL_perm (ys := ys) (m := m) (by omega))
          have HP2 := Lib.hid hP.out
          have HLEN := Lib.hid hyl
          have HE : Hid (swapL ys m = (ys.set (m + 1) (ys.getD m 0)).set m (ys.getD (m + 1) 0)) := rfl
          clear hyl hP
          generalize ha : ys.getD m 0 = a at c0 HE
          generalize hb : ys.getD (m + 1) 0 = b at c1 HE
          have HAB := Lib.hid (And.intro ha hb)
          clear ha hb
          have s1 : IntKind.i64.wrap ((m : Int) + 1 - 1) = m := by rw [Int.add_sub_cancel]; exact IntWalk.i64_in _ (by omega)
          have z1 : (m : Int) + 1 < n := by omega
          by_cases hlt2 : b < a
          · have HCV : Hid (decide (b < a) = true) := Lib.hid (decide_eq_true hlt2)
            have HLT := Lib.hid hlt2
            clear hlt2
            go_wp2
            go_quiet ((go_at_call 121; exact Calls.quiet_of_same ((less_any b a _).mono fun e w' h => ⟨h.1.trans (by rw [HCV.out]), h.2.symm⟩)))
            go_wp2
            go_region
            have hge : w0.heap.size ≤ gb := (hown.lt gb rfl).1
            go_wp2
            go_roundw
            case rel => exact ⟨m, by omega, by go_num, swapL ys m, by rw [HE.out, List.map_set, List.map_set]; exact (World.ownsRow.stored (World.ownsRow.stored (own_drewN' hown _) (m + 1) _).1 m _).1, ((below_drewN hB _).setCell hge _).setCell hge _, HSW.out.trans HP2.out.1, but_swap HP2.out.2 (by rw [HLEN.out]; exact hlt) hj (by rw [HAB.out.1, HAB.out.2]; exact HLT.out)⟩
            case measure => simp [intOf]
          · have HCV : Hid (decide (b < a) = false) := Lib.hid (decide_eq_false hlt2)
            have HLT := Lib.hid hlt2
            clear hlt2
            go_wp2
            go_quiet ((go_at_call 121; exact Calls.quiet_of_same ((less_any b a _).mono fun e w' h => ⟨h.1.trans (by rw [HCV.out]), h.2.symm⟩)))
            go_wp2
            go_roundw
            case rel => exact ⟨i + 1, by omega, .inl (by omega), by go_num, ys, hown, below_drewN hB _, HP2.out.1, but_end HP2.out.2 (by rw [HAB.out.1, HAB.out.2]; have := HLT.out; show ¬ b < a; omega)⟩
            case measure => simp [intOf]; omega
    · have HPP : Hid (ys.Perm xs ∧ Srt idI ys n) := Lib.hid ⟨hP.out.1, srt_mono hP.out.2 (by omega)⟩
      go_wp2
      go_end0
      exact ⟨rfl, ys, hown, hB, HPP.out⟩

set_option maxRecDepth 100000 in
set_option maxHeartbeats 1000000 in
theorem sort_any (xs : List Int) (n gb cap : Nat) (w0 w : World) (hn : n ≤ 10) (hl : xs.length = n)
    (hown : w.ownsRow w0.heap.size 3 1 (.slice (some ⟨gb, 0, none⟩) n cap) n (xs.map (Value.int .i64))) (hB : Below w0.heap.size w0 w) :
    Calls Try.prog 75 #[.slice (some ⟨gb, 0, none⟩) n cap] w fun e w' => e = .returned (.tuple #[]) ∧ ∃ ys : List Int, w'.ownsRow w0.heap.size 3 1 (.slice (some ⟨gb, 0, none⟩) n cap) n (ys.map (Value.int .i64)) ∧ Below w0.heap.size w0 w' ∧ Hid (ys.Perm xs ∧ Srt idI ys n) := by
  have HI := Lib.hid (insertionO_any xs n gb cap w0 w hn hl hown hB)
  clear hown hB
  have HP : Hid (∀ r : Int, Calls Try.prog 105 #[.slice (some ⟨gb, 0, none⟩) n cap, .int .i64 0, .int .i64 n, .int .i64 r] w fun e w' => e = .returned (.tuple #[]) ∧ ∃ ys : List Int, w'.ownsRow w0.heap.size 3 1 (.slice (some ⟨gb, 0, none⟩) n cap) n (ys.map (Value.int .i64)) ∧ Below w0.heap.size w0 w' ∧ Hid (ys.Perm xs ∧ Srt idI ys n)) := Lib.hid (by
    intro r
    have t1 : decide ((n : Int) ≤ 12) = true := decide_eq_true (by omega)
    go_enter Try.func105, Try.ntmps105
    go_wp2
    refine wp_loop_rounds 1 ?_
    rw [rounds_succ]
    go_wp2_with (go_at_call 115; refine HI.out.mono ?_; rintro e w1 ⟨rfl, ys, hown, hB, hP⟩)
    exact bodyPost_ret (v := .tuple #[]) (by simp [results, Try.results105, go_sem]) rfl ⟨rfl, ys, hown, hB, hP.out⟩)
  have u1 : IntKind.u64.wrap (n : Int) = n := IntWalk.u64_in _ (by omega)
  go_enter Try.func75, Try.ntmps75
  go_wp2_with (first
    | (go_at_call 106; refine (len_small n hn _).mono ?_; rintro e w1 ⟨⟨r, rfl⟩, rfl⟩)
    | (go_at_call 105; refine (HP.out r).mono ?_; rintro e w2 ⟨rfl, ys, hown, hB, hP⟩))
  go_end0
  exact ⟨rfl, ys, hown, hB, hP.out⟩
end Go.Proofs.Ytolpbbabmcpdkaa
