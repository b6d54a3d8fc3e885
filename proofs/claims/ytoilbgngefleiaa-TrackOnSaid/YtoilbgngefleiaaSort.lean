/-
  Contracts: Len64, Len (math/bits) at small numbers, insertionSortCmpFunc, pdqsortCmpFunc, SortFunc (slices) at at most 12 ints.
-/
import Derived.Test.YtoilbgngefleiaaBoxes
import Derived.Test.YtoilbgngefleiaaSortM
import Derived.RegionTactic
import Derived.ChangeAlike
namespace Go.Proofs.Ytoilbgngefleiaa
open Go.RowKit Go.Shelf

theorem own_drewN' {w : World} {base : Nat} {e : TypeId} {size n : Nat} {v : Value} {xs : List Value} (h : w.ownsRow base e size v n xs) (m : Nat) : (w.drewN m).ownsRow base e size v n xs := h
/-- What is asked of a comparison of numbers of a list by a key. -/
def CmpAt (g : Nat) (lb : Array Value) (f : Int → Int) (S : List Int) (base : Nat) (w : World) : Prop :=
  ∀ (W : World) (x y : Int), x ∈ S → y ∈ S → Below base w W → Calls Try.prog g (#[.int .i64 x, .int .i64 y] ++ lb) W fun e w' => e = .returned (.int .i64 (cmpV (f x) (f y))) ∧ ∃ n, w' = W.drewN n

set_option maxRecDepth 100000 in
set_option maxHeartbeats 1600000 in
theorem insertion_any (g : Nat) (lb : Array Value) (f : Int → Int) (eg : ∀ args w, (callFunc g args).run Try.prog w = .ok (.enter g args) w) (xs : List Int) (n gb cap base : Nat) (w0 w : World) (hn1 : 1 ≤ n) (hn : n ≤ 20) (hl : xs.length = n)
    (hown : w.ownsRow base 3 1 (.slice (some ⟨gb, 0, none⟩) n cap) n (xs.map (Value.int .i64))) (hB : Below base w0 w) (hC : CmpAt g lb f xs base w0) :
    Calls Try.prog 130 #[.slice (some ⟨gb, 0, none⟩) n cap, .int .i64 0, .int .i64 n, .func (.func g) #[] lb] w fun e w' => e = .returned (.tuple #[]) ∧ ∃ ys : List Int, w'.ownsRow base 3 1 (.slice (some ⟨gb, 0, none⟩) n cap) n (ys.map (Value.int .i64)) ∧ Below base w0 w' ∧ Hid (ys.Perm xs ∧ Srt f ys n) := by
  have HC := Lib.hid hC
  have HO := Lib.hid hown
  have HB := Lib.hid hB
  clear hC hown hB
  go_enter Try.func130, Try.ntmps130
  go_wp2
  go_loopw [8] (fun s wr => ∃ i : Nat, 1 ≤ i ∧ i ≤ n ∧ s = .int .i64 i ∧ ∃ ys : List Int, wr.ownsRow base 3 1 (.slice (some ⟨gb, 0, none⟩) n cap) n (ys.map (Value.int .i64)) ∧ Below base w0 wr ∧ Hid (ys.Perm xs ∧ Srt f ys i)) (fun s _ => n - (intOf s).toNat)
  case atStart => exact ⟨1, Nat.le_refl _, hn1, rfl, xs, HO.out, HB.out, List.Perm.refl _, srt_one _ _⟩
  case round =>
    obtain ⟨i, hi1, hin, rfl, ys, hown, hB, hP⟩ := hrel
    by_cases hlt : i < n
    · obtain ⟨wo, rfl⟩ : ∃ wo : World, wo = wr := ⟨_, rfl⟩
      go_wp2
      go_loopw [9] (fun s wr => ∃ j : Nat, j ≤ i ∧ s = .int .i64 j ∧ ∃ ys : List Int, wr.ownsRow base 3 1 (.slice (some ⟨gb, 0, none⟩) n cap) n (ys.map (Value.int .i64)) ∧ Below base w0 wr ∧ Hid (ys.Perm xs ∧ But f ys i j)) (fun s _ => (intOf s).toNat)
      case atStart => exact ⟨i, Nat.le_refl _, rfl, ys, hown, hB, hP.out.1, but_start hP.out.2⟩
      case round =>
        clear hown hB hP
        clear ys
        obtain ⟨j, hj, rfl, ys, hown, hB, hP⟩ := hrel
        cases j with
        | zero =>
          go_wp2
          go_quiet (fail)
          go_wp2
          go_roundw
          case rel => exact ⟨i + 1, by omega, by omega, by go_num, ys, hown, below_drewN hB _, hP.out.1, but_end0 hP.out.2⟩
          case measure => simp [intOf]; omega
        | succ m =>
          have hyl : ys.length = n := hP.out.1.length_eq.trans hl
          have c1 := hown.cellAt (m + 1) (by omega)
          have c0 := hown.cellAt m (by omega)
          rw [List.getElem?_map, getD_some (by omega), Option.map_some] at c1 c0
          have hf1 := hown.frozenAt (m + 1)
          have hf0 := hown.frozenAt m
          have m0 : ys.getD m 0 ∈ xs := hP.out.1.mem_iff.1 (getD_mem (by omega))
          have m1 : ys.getD (m + 1) 0 ∈ xs := hP.out.1.mem_iff.1 (getD_mem (by omega))
          have HSW := Lib.hid (swapL_perm (ys := ys) (m := m) (by omega))
          have hcall := fun k => HC.out (wr.drewN k) (ys.getD (m + 1) 0) (ys.getD m 0) m1 m0 (below_drewN hB k)
          have HP2 := Lib.hid hP.out
          have HLEN := Lib.hid hyl
          have HE : Hid (swapL ys m = (ys.set (m + 1) (ys.getD m 0)).set m (ys.getD (m + 1) 0)) := rfl
          clear m0 m1 hyl hP
          generalize ha : ys.getD m 0 = a at c0 hcall HE
          generalize hb : ys.getD (m + 1) 0 = b at c1 hcall HE
          have HAB := Lib.hid (And.intro ha hb)
          clear ha hb
          have s1 : IntKind.i64.wrap ((m : Int) + 1 - 1) = m := by rw [Int.add_sub_cancel]; exact IntWalk.i64_in _ (by omega)
          have z1 : (m : Int) + 1 < n := by omega
          have HCL := Lib.hid hcall
          clear hcall
          by_cases hlt2 : f b < f a
          · have HCV := Lib.hid (cmpV_lt hlt2)
            have HLT := Lib.hid hlt2
            clear hlt2
            go_wp2
            go_quiet ((go_at_fn g; exact Calls.quiet_of (v := .int .i64 (-1)) ((HCL.out _).mono fun e w' ⟨he, hw⟩ => ⟨by rw [he, HCV.out], hw⟩)))
            go_wp2
            go_region
            have hge : base ≤ gb := (hown.lt gb rfl).1
            go_wp2
            go_roundw
            case rel => exact ⟨m, by omega, by go_num, swapL ys m, by rw [HE.out, List.map_set, List.map_set]; exact (World.ownsRow.stored (World.ownsRow.stored (own_drewN' hown _) (m + 1) _).1 m _).1, ((below_drewN hB _).setCell hge _).setCell hge _, HSW.out.trans HP2.out.1, but_swap HP2.out.2 (by rw [HLEN.out]; exact hlt) hj (by rw [HAB.out.1, HAB.out.2]; exact HLT.out)⟩
            case measure => simp [intOf]
          · have HGE := Lib.hid (cmpV_ge hlt2)
            obtain ⟨r, hr⟩ : ∃ r, cmpV (f b) (f a) = r := ⟨_, rfl⟩
            have HR := Lib.hid hr
            have tr : decide (r < 0) = false := by have := HGE.out; rw [hr] at this; exact decide_eq_false (by omega)
            have HLT := Lib.hid hlt2
            clear hlt2 hr
            go_wp2
            go_quiet ((go_at_fn g; exact Calls.quiet_of (v := .int .i64 r) ((HCL.out _).mono fun e w' ⟨he, hw⟩ => ⟨by rw [he, HR.out], hw⟩)))
            go_wp2
            go_roundw
            case rel => exact ⟨i + 1, by omega, by omega, by go_num, ys, hown, below_drewN hB _, HP2.out.1, but_end HP2.out.2 (by rw [HAB.out.1, HAB.out.2]; have := HLT.out; omega)⟩
            case measure => simp [intOf]; omega
    · obtain rfl : i = n := by omega
      go_wp2
      go_end0
      exact ⟨rfl, ys, hown, hB, hP.out⟩

set_option maxRecDepth 100000 in
set_option maxHeartbeats 2000000 in
theorem len64_small (n : Nat) (hn : n ≤ 12) (w : World) :
    Calls Try.prog 129 #[.int .u64 n] w fun e w' => (∃ r : Int, e = .returned (.int .i64 r)) ∧ w = w' := by
  have hc : n = 0 ∨ n = 1 ∨ n = 2 ∨ n = 3 ∨ n = 4 ∨ n = 5 ∨ n = 6 ∨ n = 7 ∨ n = 8 ∨ n = 9 ∨ n = 10 ∨ n = 11 ∨ n = 12 := by omega
  rcases hc with rfl | rfl | rfl | rfl | rfl | rfl | rfl | rfl | rfl | rfl | rfl | rfl | rfl <;> (
    go_enter Try.func129, Try.ntmps129
    go_wp2
    go_ret
    exact ⟨⟨_, rfl⟩, rfl⟩)
set_option maxRecDepth 100000 in
theorem len_small (n : Nat) (hn : n ≤ 12) (w : World) :
    Calls Try.prog 109 #[.int .u64 n] w fun e w' => (∃ r : Int, e = .returned (.int .i64 r)) ∧ w = w' := by
  go_enter Try.func109, Try.ntmps109
  go_wp2_with (go_at_call 129; refine (len64_small n hn _).mono ?_; rintro e w1 ⟨⟨r, rfl⟩, rfl⟩)
  go_ret
  exact ⟨⟨r, rfl⟩, rfl⟩
set_option maxRecDepth 100000 in
set_option maxHeartbeats 1000000 in
theorem sortFunc_any (g : Nat) (lb : Array Value) (f : Int → Int) (eg : ∀ args w, (callFunc g args).run Try.prog w = .ok (.enter g args) w) (xs : List Int) (n gb cap base : Nat) (w0 w : World) (hn1 : 1 ≤ n) (hn : n ≤ 12) (hl : xs.length = n)
    (hown : w.ownsRow base 3 1 (.slice (some ⟨gb, 0, none⟩) n cap) n (xs.map (Value.int .i64))) (hB : Below base w0 w) (hC : CmpAt g lb f xs base w0) :
    Calls Try.prog 101 #[.slice (some ⟨gb, 0, none⟩) n cap, .func (.func g) #[] lb] w fun e w' => e = .returned (.tuple #[]) ∧ ∃ ys : List Int, w'.ownsRow base 3 1 (.slice (some ⟨gb, 0, none⟩) n cap) n (ys.map (Value.int .i64)) ∧ Below base w0 w' ∧ Hid (ys.Perm xs ∧ Srt f ys n) := by
  have HI := Lib.hid (insertion_any g lb f eg xs n gb cap base w0 w hn1 (by omega) hl hown hB hC)
  clear hown hB hC
  have HP : Hid (∀ r : Int, Calls Try.prog 119 #[.slice (some ⟨gb, 0, none⟩) n cap, .int .i64 0, .int .i64 n, .int .i64 r, .func (.func g) #[] lb] w fun e w' => e = .returned (.tuple #[]) ∧ ∃ ys : List Int, w'.ownsRow base 3 1 (.slice (some ⟨gb, 0, none⟩) n cap) n (ys.map (Value.int .i64)) ∧ Below base w0 w' ∧ Hid (ys.Perm xs ∧ Srt f ys n)) := Lib.hid (by
    intro r
    have t1 : decide ((n : Int) ≤ 12) = true := decide_eq_true (by omega)
    go_enter Try.func119, Try.ntmps119
    go_wp2
    refine wp_loop_rounds 1 ?_
    rw [rounds_succ]
    go_wp2_with (go_at_call 130; refine HI.out.mono ?_; rintro e w1 ⟨rfl, ys, hown, hB, hP⟩)
    exact bodyPost_ret (v := .tuple #[]) (by simp [results, Try.results119, go_sem]) rfl ⟨rfl, ys, hown, hB, hP.out⟩)
  have u1 : IntKind.u64.wrap (n : Int) = n := IntWalk.u64_in _ (by omega)
  clear HI eg
  go_enter Try.func101, Try.ntmps101
  go_wp2_with (first
    | (go_at_call 109; refine (len_small n hn _).mono ?_; rintro e w1 ⟨⟨r, rfl⟩, rfl⟩)
    | (go_at_call 119; refine (HP.out r).mono ?_; rintro e w2 ⟨rfl, ys, hown, hB, hP⟩))
  go_end0
  exact ⟨rfl, ys, hown, hB, hP.out⟩
end Go.Proofs.Ytoilbgngefleiaa
