/-
  Contracts: insertionSortCmpFunc, pdqsortCmpFunc, SortFunc (slices) by the order of the row, at at most 10 ints.
-/
import Derived.Test.YtolpbbabmcpdkaaJoined
import Derived.RegionTactic
import Derived.Shelf.Abstract
set_option linter.unusedVariables false
set_option linter.unusedSimpArgs false
namespace Go.Proofs.Ytolpbbabmcpdkaa
open Go.RowKit Go.Shelf

theorem own_below {w w3 : World} {base : Nat} {e : TypeId} {size n : Nat} {v : Value} {xs : List Value} (h : w.ownsRow base e size v n xs) (hB : Below w.heap.size w w3) : w3.ownsRow base e size v n xs :=
  h.kept (World.grownBy.mk hB.os hB.tape hB.output hB.size (fun i hi _ => hB.block i hi) : World.grownBy _ w3 none) (by cases hh : Value.ownBlock v with | none => exact .inl rfl | some g => exact .inr (by simp))
theorem own_drewN' {w : World} {base : Nat} {e : TypeId} {size n : Nat} {v : Value} {xs : List Value} (h : w.ownsRow base e size v n xs) (m : Nat) : (w.drewN m).ownsRow base e size v n xs := h
theorem own_drew' {w : World} {base : Nat} {e : TypeId} {size n : Nat} {v : Value} {xs : List Value} (h : w.ownsRow base e size v n xs) : w.drew.ownsRow base e size v n xs := h
def rkI (ns ss : List Int) (x : Int) : Int := rankN ns ss x.toNat

set_option maxRecDepth 100000 in
set_option maxHeartbeats 4000000 in
theorem insertion_any (ns ss : List Int) (A B : Option Addr) (c d : Nat) (ho : Od ns ss) (xs : List Int) (n gb cap : Nat) (w0 w : World) (hn1 : 1 ≤ n) (hn : n ≤ 10) (hl : xs.length = n) (hx : ∀ x ∈ xs, 0 ≤ x ∧ x < ns.length)
    (hown : w.ownsRow w0.heap.size 3 1 (.slice (some ⟨gb, 0, none⟩) n cap) n (xs.map (Value.int .i64))) (hB : Below w0.heap.size w0 w) (hA : Ints w0 A ns) (hBB : Ints w0 B ss) :
    Calls Try.prog 127 #[.slice (some ⟨gb, 0, none⟩) n cap, .int .i64 0, .int .i64 n, .func (.func 103) #[.agg #[.slice A ns.length c, .slice B ss.length d, .int .i64 ns.sum, .int .i64 ss.sum]] #[]] w fun e w' => e = .returned (.tuple #[]) ∧ ∃ ys : List Int, w'.ownsRow w0.heap.size 3 1 (.slice (some ⟨gb, 0, none⟩) n cap) n (ys.map (Value.int .i64)) ∧ Below w0.heap.size w0 w' ∧ Hid (ys.Perm xs ∧ Srt (rkI ns ss) ys n) := by
  have eg : Hid (∀ args w, (callFunc 103 args).run Try.prog w = .ok (.enter 103 args) w) := enters_of Try.func103 (by kernel_rfl) rfl
  have EG := eg.out
  have HO := Lib.hid hown
  have HB := Lib.hid hB
  have HX := Lib.hid hx
  have HA := Lib.hid hA
  have HBB := Lib.hid hBB
  clear hown hB hx hA hBB
  go_enter Try.func127, Try.ntmps127
  go_wp2
  go_loopw [8] (fun s wr => ∃ i : Nat, 1 ≤ i ∧ i ≤ n ∧ s = .int .i64 i ∧ ∃ ys : List Int, wr.ownsRow w0.heap.size 3 1 (.slice (some ⟨gb, 0, none⟩) n cap) n (ys.map (Value.int .i64)) ∧ Below w0.heap.size w0 wr ∧ Hid (ys.Perm xs ∧ Srt (rkI ns ss) ys i)) (fun s _ => n - (intOf s).toNat)
  case atStart => exact ⟨1, Nat.le_refl _, hn1, rfl, xs, HO.out, HB.out, List.Perm.refl _, srt_one _ _⟩
  case round =>
    obtain ⟨i, hi1, hin, rfl, ys, hown, hB, hP⟩ := hrel
    by_cases hlt : i < n
    · obtain ⟨wo, rfl⟩ : ∃ wo : World, wo = wr := ⟨_, rfl⟩
      go_wp2
      go_loopw [9] (fun s wr => ∃ j : Nat, j ≤ i ∧ s = .int .i64 j ∧ ∃ ys : List Int, wr.ownsRow w0.heap.size 3 1 (.slice (some ⟨gb, 0, none⟩) n cap) n (ys.map (Value.int .i64)) ∧ Below w0.heap.size w0 wr ∧ Hid (ys.Perm xs ∧ But (rkI ns ss) ys i j)) (fun s _ => (intOf s).toNat)
      case atStart => exact ⟨i, Nat.le_refl _, rfl, ys, hown, hB, hP.out.1, but_start hP.out.2⟩
      case round =>
        clear hown hB hP
        clear ys
        obtain ⟨j, hj, rfl, ys, hown, hB, hP⟩ := hrel
        cases j with
        | zero =>
          go_wp2
          go_quiet (fail)
          go_wp2
          go_roundw
          case rel => exact ⟨i + 1, by omega, by omega, by go_num, ys, hown, below_drewN hB _, hP.out.1, but_end0 hP.out.2⟩
          case measure => simp [intOf]; omega
        | succ m =>
          have hyl : ys.length = n := hP.out.1.length_eq.trans hl
          have c1 := hown.cellAt (m + 1) (by omega)
          have c0 := hown.cellAt m (by omega)
          rw [List.getElem?_map, getD_some (by omega), Option.map_some] at c1 c0
          have hf1 := hown.frozenAt (m + 1)
          have hf0 := hown.frozenAt m
          have m0 := HX.out _ (hP.out.1.mem_iff.1 (getD_mem (show m < ys.length by omega)))
          have m1 := HX.out _ (hP.out.1.mem_iff.1 (getD_mem (show m + 1 < ys.length by omega)))
          have HSW := Lib.hid (swapL_perm (ys := ys) (m := m) (by omega))
          have HP2 := Lib.hid hP.out
          have HLEN := Lib.hid hyl
          have HE : Hid (swapL ys m = (ys.set (m + 1) (ys.getD m 0)).set m (ys.getD (m + 1) 0)) := rfl
          clear hyl hP
          generalize ha : ys.getD m 0 = a at c0 HE m0
          generalize hb : ys.getD (m + 1) 0 = b at c1 HE m1
          have HAB := Lib.hid (And.intro ha hb)
          clear ha hb
          obtain ⟨a, rfl⟩ := Int.eq_ofNat_of_zero_le m0.1
          obtain ⟨b, rfl⟩ := Int.eq_ofNat_of_zero_le m1.1
          have ra : a < ns.length := by omega
          have rb : b < ns.length := by omega
          have hgb : gb < wr.heap.size := (hown.lt gb rfl).2
          have hge : w0.heap.size ≤ gb := (hown.lt gb rfl).1
          have HO2 := Lib.hid hown
          have HB2 := Lib.hid hB
          clear hown hB m0 m1
          have hw0 : w0.heap.size ≤ wr.heap.size := HB2.out.size
          have HFA : Hid (rkI ns ss (a : Int) = (rankN ns ss a : Int)) := rfl
          have HFB : Hid (rkI ns ss (b : Int) = (rankN ns ss b : Int)) := rfl
          have s1 : IntKind.i64.wrap ((m : Int) + 1 - 1) = m := by rw [Int.add_sub_cancel]; exact IntWalk.i64_in _ (by omega)
          have s2 : IntKind.i64.wrap (m : Int) = m := IntWalk.i64_in _ (by omega)
          have z1 : (m : Int) + 1 < n := by omega
          have z2 : (0 : Int) ≤ (m : Int) + 1 := by omega
          have z3 : (m : Int) < n := by omega
          have z4 : (0 : Int) ≤ (m : Int) := by omega
          have z5 : ((m : Int) + 1).toNat = m + 1 := by omega
          have z6 : decide ((0 : Int) < (m : Int) + 1) = true := decide_eq_true (by omega)
          by_cases hlt2 : rankN ns ss b < rankN ns ss a
          · have HCV := Lib.hid (cmpV_lt (show (rankN ns ss b : Int) < rankN ns ss a by omega))
            have HLT := Lib.hid hlt2
            clear hlt2
            go_wp2
            go_region_held3 (fun W => W.cell? ⟨gb, m, none⟩ = some (.int .i64 (a : Int)) ∧ W.cell? ⟨gb, m + 1, none⟩ = some (.int .i64 (b : Int)))
              ((first | with_reducible exact ⟨c0, c1⟩ | exact ⟨c0, c1⟩))
              ((go_at_call 103; refine (order_any ns ss A B c d ho b a rb ra _ (HA.out.below (by first | exact HB2.out | exact Below.drew HB2.out | exact below_drewN HB2.out _)) (HBB.out.below (by first | exact HB2.out | exact Below.drew HB2.out | exact below_drewN HB2.out _))).mono ?_; rintro e w3 ⟨rfl, hB3⟩; rw [HCV.out]; have c0 := (hB3.cell (p := ⟨gb, m, none⟩) hgb).trans c0; have c1 := (hB3.cell (p := ⟨gb, m + 1, none⟩) hgb).trans c1; have hf1 := (hB3.frozen (p := ⟨gb, m + 1, none⟩) hgb).trans hf1; have hf0 := (hB3.frozen (p := ⟨gb, m, none⟩) hgb).trans hf0; have HO3 := Lib.hid (own_below (by first | exact HO2.out | exact own_drew' HO2.out | exact own_drewN' HO2.out _) hB3); have HB3 := Lib.hid (below_step (by first | exact HB2.out | exact Below.drew HB2.out | exact below_drewN HB2.out _) hB3); clear hB3))
            all_goals
              go_wp2
              go_region
              all_goals
                go_wp2
                go_roundw
                case rel => exact ⟨m, by omega, by go_num, swapL ys m, by rw [HE.out, List.map_set, List.map_set]; exact (World.ownsRow.stored (World.ownsRow.stored (own_drewN' HO3.out _) (m + 1) _).1 m _).1, ((below_drewN HB3.out _).setCell hge _).setCell hge _, HSW.out.trans HP2.out.1, but_swap HP2.out.2 (by rw [HLEN.out]; exact hlt) hj (by rw [HAB.out.1, HAB.out.2, HFA.out, HFB.out]; have := HLT.out; omega)⟩
                case measure => simp [intOf]
          · have HGE := Lib.hid (cmpV_ge (show ¬ (rankN ns ss b : Int) < rankN ns ss a by omega))
            obtain ⟨r, hr⟩ : ∃ r, cmpV (rankN ns ss b) (rankN ns ss a) = r := ⟨_, rfl⟩
            have HR := Lib.hid hr
            have tr : decide (r < 0) = false := by have := HGE.out; rw [hr] at this; exact decide_eq_false (by omega)
            have HLT := Lib.hid hlt2
            clear hlt2 hr
            go_wp2
            go_region_held3 (fun W => W.cell? ⟨gb, m, none⟩ = some (.int .i64 (a : Int)) ∧ W.cell? ⟨gb, m + 1, none⟩ = some (.int .i64 (b : Int)))
              ((first | with_reducible exact ⟨c0, c1⟩ | exact ⟨c0, c1⟩))
              ((go_at_call 103; refine (order_any ns ss A B c d ho b a rb ra _ (HA.out.below (by first | exact HB2.out | exact Below.drew HB2.out | exact below_drewN HB2.out _)) (HBB.out.below (by first | exact HB2.out | exact Below.drew HB2.out | exact below_drewN HB2.out _))).mono ?_; rintro e w3 ⟨rfl, hB3⟩; rw [HR.out]; have c0 := (hB3.cell (p := ⟨gb, m, none⟩) hgb).trans c0; have c1 := (hB3.cell (p := ⟨gb, m + 1, none⟩) hgb).trans c1; have HO3 := Lib.hid (own_below (by first | exact HO2.out | exact own_drew' HO2.out | exact own_drewN' HO2.out _) hB3); have HB3 := Lib.hid (below_step (by first | exact HB2.out | exact Below.drew HB2.out | exact below_drewN HB2.out _) hB3); clear hB3))
            all_goals
              go_wp2
              go_roundw
              case rel => exact ⟨i + 1, by omega, by omega, by go_num, ys, (by first | exact HO3.out | exact own_drew' HO3.out | exact own_drewN' HO3.out _), (by first | exact HB3.out | exact Below.drew HB3.out | exact below_drewN HB3.out _), HP2.out.1, but_end HP2.out.2 (by rw [HAB.out.1, HAB.out.2, HFA.out, HFB.out]; have := HLT.out; omega)⟩
              case measure => simp [intOf]; omega
    · obtain rfl : i = n := by omega
      go_wp2
      go_end0
      exact ⟨rfl, ys, hown, hB, hP.out⟩
end Go.Proofs.Ytolpbbabmcpdkaa
