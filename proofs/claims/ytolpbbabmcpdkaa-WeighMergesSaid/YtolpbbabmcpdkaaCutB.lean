/-
  Contracts: count, validCut (weigh), IsCut (firnref07).
-/
import Derived.Test.YtolpbbabmcpdkaaValid
set_option linter.unusedVariables false
set_option linter.unusedSimpArgs false
namespace Go.Proofs.Ytolpbbabmcpdkaa
open Go.RowKit

theorem blk_frozen {w : World} {g : Nat} {t : TypeId} {cs : Array Value} (h : w.heap[g]? = some (.cells cs t (0, 0))) (i : Nat) : w.frozen? ⟨g, i, none⟩ = false := by
  simp [World.frozen?, h]
theorem drop_at {cs : List Int} {k : Nat} {a : Int} (h : cs[k]? = some a) : cs.drop k = a :: cs.drop (k + 1) := by
  have hk : k < cs.length := by
    rcases Nat.lt_or_ge k cs.length with q | q
    · exact q
    · rw [List.getElem?_eq_none q] at h; cases h
  rw [List.drop_eq_getElem_cons hk]
  rw [List.getElem?_eq_getElem hk] at h
  injection h with h; rw [h]
theorem cutF_no {n l a : Int} {t : List Int} (h : a ≤ l ∨ n ≤ a) : cutF n l (a :: t) = false := by
  unfold cutF
  rcases h with h | h
  · rw [decide_eq_false (by omega : ¬ l < a)]; rfl
  · rw [decide_eq_false (by omega : ¬ a < n)]; simp
theorem cutF_go {n l a : Int} {t : List Int} (h : l < a) (h2 : a < n) : cutF n l (a :: t) = cutF n a t := by
  rw [cutF, decide_eq_true h, decide_eq_true h2]; rfl
/-- The last one of the first k, -1 in front of them all. -/
def lastV (cs : List Int) (k : Nat) : Int := if k = 0 then -1 else cs.getD (k - 1) 0
theorem last_succ {cs : List Int} {k : Nat} {a : Int} (h : cs[k]? = some a) : lastV cs (k + 1) = a := by
  unfold lastV; rw [if_neg (by omega)]; exact getD_of h

set_option maxRecDepth 100000 in
theorem count_any (ns ss : List Int) (A B : Option Addr) (c d : Nat) (N S : Int) (w : World) :
    Calls Try.prog 77 #[.agg #[.slice A ns.length c, .slice B ss.length d, .int .i64 N, .int .i64 S]] w fun e w' => e = .returned (.int .i64 ns.length) ∧ Below w.heap.size w w' := by
  go_enter Try.func77, Try.ntmps77
  go_wp2
  go_ret
  exact ⟨rfl, (by repeat (first | with_reducible exact Below.refl _ _ | with_reducible assumption | refine below_drewN ?_ _ | with_reducible refine Below.drew ?_ | (refine Below.setCell ?_ (by first | (simp; done) | (simp; omega) | omega) _) | (refine Below.alloc ?_ (by first | (simp; done) | (simp; omega) | omega) _)))⟩

set_option maxRecDepth 100000 in
theorem validCut_any (ns ss cs : List Int) (A B C : Option Addr) (c d e1 : Nat) (N S : Int) (w : World) (hC : Ints w C cs) (hl : cs.length ≤ 1000) :
    Calls Try.prog 83 #[.agg #[.slice A ns.length c, .slice B ss.length d, .int .i64 N, .int .i64 S], .slice C cs.length e1] w fun e w' => e = .returned (.bool (cutB ns.length cs)) ∧ Below w.heap.size w w' := by
  obtain ⟨W0, hW0⟩ : ∃ W0, W0 = w.alloc (.cells #[.slice A ns.length c, .slice B ss.length d, .int .i64 N, .int .i64 S] 67) := ⟨_, rfl⟩
  have hs0 : W0.heap.size = w.heap.size + 1 := by rw [hW0]; simp
  have hBW : Hid (Below w.heap.size w W0) := Lib.hid (by rw [hW0]; exact (Below.refl _ _).alloc (Nat.le_refl _) _)
  have hK0 : Hid (W0.heap[w.heap.size]? = some (.cells #[.slice A ns.length c, .slice B ss.length d, .int .i64 N, .int .i64 S] 67 (0, 0))) := Lib.hid (by rw [hW0]; exact heap_alloc_new w _)
  have HC : Hid (Ints W0 C cs) := Lib.hid (hC.below hBW.out)
  clear hC
  go_enter Try.func83, Try.ntmps83
  go_wp2
  rw [← hW0]
  have HW0 := Lib.hid hW0
  clear hW0
  have HS0 := Lib.hid hs0
  clear hs0
  go_loopw [5, 10] (fun v i wr => ∃ k : Nat, k ≤ cs.length ∧ v = .int .i64 (lastV cs k) ∧ i = .int .i64 k ∧ Below W0.heap.size W0 wr ∧ Hid (cutF ns.length (-1) cs = cutF ns.length (lastV cs k) (cs.drop k))) (fun _ i _ => cs.length - (intOf i).toNat)
  case atStart => exact ⟨0, Nat.zero_le _, rfl, rfl, Below.refl _ _, rfl⟩
  case round =>
    obtain ⟨k, hk, rfl, rfl, hB, hF⟩ := hrel
    obtain ⟨l, hl'⟩ : ∃ l, l = lastV cs k := ⟨_, rfl⟩
    rw [← hl'] at hF
    simp only [← hl']
    clear hl'
    have HB := Lib.hid hB
    clear hB
    by_cases hlt : k < cs.length
    · obtain ⟨ad, a, rfl, hbk, ha, hc⟩ := (HC.out.below HB.out).get hlt
      have k2 := (HB.out.block w.heap.size (by rw [HS0.out]; omega)).trans hK0.out
      have d0 := cell_of_row wr _ 0 _ _ _ k2
      have d1 := cell_of_row wr _ 1 _ _ _ k2
      have d2 := cell_of_row wr _ 2 _ _ _ k2
      have d3 := cell_of_row wr _ 3 _ _ _ k2
      clear k2
      have HD := Lib.hid (drop_at ha.out)
      by_cases h1 : a ≤ l
      · have t1 : decide (a ≤ l) = true := decide_eq_true h1
        have HR : Hid (cutB ns.length cs = false) := Lib.hid (by unfold cutB; rw [hF.out, HD.out]; exact cutF_no (.inl h1))
        go_wp2
        go_ret
        exact ⟨ret_bool HR.out.symm, hBW.out.trans (HB.out.mono (by rw [HS0.out]; omega))⟩
      · have t1 : decide (a ≤ l) = false := decide_eq_false h1
        by_cases h2 : (ns.length : Int) ≤ a
        · have t2 : decide ((ns.length : Int) ≤ a) = true := decide_eq_true h2
          have HR : Hid (cutB ns.length cs = false) := Lib.hid (by unfold cutB; rw [hF.out, HD.out]; exact cutF_no (.inr h2))
          go_wp2_with (go_at_call 77; refine (count_any ns ss _ _ _ _ _ _ _).mono ?_; rintro e w1 ⟨rfl, hB1⟩)
          go_ret
          exact ⟨ret_bool HR.out.symm, hBW.out.trans ((HB.out.mono (by rw [HS0.out]; omega)).trans (hB1.mono (by have := HB.out.size; rw [HS0.out] at this; omega)))⟩
        · have t2 : decide ((ns.length : Int) ≤ a) = false := decide_eq_false h2
          have HG : Hid (cutF ns.length (-1) cs = cutF ns.length a (cs.drop (k + 1))) := Lib.hid (by rw [hF.out, HD.out]; exact cutF_go (by omega) (by omega))
          go_wp2_with (go_at_call 77; refine (count_any ns ss _ _ _ _ _ _ _).mono ?_; rintro e w1 ⟨rfl, hB1⟩)
          go_roundw
          case rel => exact ⟨k + 1, by omega, by rw [last_succ ha.out], by go_num, HB.out.trans (hB1.mono HB.out.size), by show _ = _; rw [last_succ ha.out]; exact HG.out⟩
          case measure => simp [intOf]; omega
    · obtain rfl : k = cs.length := by omega
      have HR : Hid (cutB ns.length cs = true) := Lib.hid (by unfold cutB; rw [hF.out, List.drop_length]; rfl)
      go_wp2
      go_ret
      exact ⟨ret_bool HR.out.symm, hBW.out.trans (HB.out.mono (by rw [HS0.out]; omega))⟩

set_option maxRecDepth 100000 in
theorem isCut_any (ns ss cs : List Int) (A B C : Option Addr) (c d e1 : Nat) (w : World) (hC : Ints w C cs) (hl : cs.length ≤ 1000) :
    Calls Try.prog 55 #[.agg #[.slice A ns.length c, .slice B ss.length d], .slice C cs.length e1] w fun e w' => e = .returned (.bool (cutB ns.length cs)) ∧ Below w.heap.size w w' := by
  obtain ⟨W0, hW0⟩ : ∃ W0, W0 = w.alloc (.cells #[.slice A ns.length c, .slice B ss.length d] 24) := ⟨_, rfl⟩
  have hBW : Hid (Below w.heap.size w W0) := Lib.hid (by rw [hW0]; exact (Below.refl _ _).alloc (Nat.le_refl _) _)
  have k2 : W0.heap[w.heap.size]? = some (.cells #[.slice A ns.length c, .slice B ss.length d] 24 (0, 0)) := by rw [hW0]; exact heap_alloc_new w _
  have d0 := cell_of_row W0 _ 0 _ _ _ k2
  have HC : Hid (Ints W0 C cs) := Lib.hid (hC.below hBW.out)
  clear hC k2
  go_enter Try.func55, Try.ntmps55
  go_wp2
  rw [← hW0]
  clear hW0
  go_loopw [9] (fun i wr => ∃ k : Nat, k ≤ cs.length ∧ i = .int .i64 k ∧ wr = W0 ∧ Hid (cutF ns.length (-1) cs = cutF ns.length (lastV cs k) (cs.drop k))) (fun i _ => cs.length - (intOf i).toNat)
  case atStart => exact ⟨0, Nat.zero_le _, rfl, rfl, rfl⟩
  case round =>
    obtain ⟨k, hk, rfl, rfl, hF⟩ := hrel
    by_cases hlt : k < cs.length
    · obtain ⟨ad, a, rfl, hbk, ha, hc⟩ := HC.out.get hlt
      have HD := Lib.hid (drop_at ha.out)
      by_cases h1 : a < 0
      · have t1 : decide (a < 0) = true := decide_eq_true h1
        have HR : Hid (cutB ns.length cs = false) := Lib.hid (by
          unfold cutB
          cases hq : cutF ns.length (-1) cs
          · rfl
          · have := cutF_mem hq a (List.mem_of_getElem? ha.out); omega)
        go_wp2
        go_ret
        exact ⟨ret_bool HR.out.symm, hBW.out⟩
      · have t1 : decide (a < 0) = false := decide_eq_false h1
        by_cases h2 : (ns.length : Int) ≤ a
        · have t2 : decide ((ns.length : Int) ≤ a) = true := decide_eq_true h2
          have HR : Hid (cutB ns.length cs = false) := Lib.hid (by unfold cutB; rw [hF.out, HD.out]; exact cutF_no (.inr h2))
          go_wp2
          go_ret
          exact ⟨ret_bool HR.out.symm, hBW.out⟩
        · have t2 : decide ((ns.length : Int) ≤ a) = false := decide_eq_false h2
          by_cases hk0 : k = 0
          · subst hk0
            have HG : Hid (cutF ns.length (-1) cs = cutF ns.length a (cs.drop (0 + 1))) := Lib.hid (by rw [hF.out, HD.out]; exact cutF_go (by unfold lastV; rw [if_pos rfl]; omega) (by omega))
            have hc0 : wr.cell? ad = some (.int .i64 a) := by simpa [Addr.add] using hc
            clear hc
            go_wp2
            go_roundw
            case rel => exact ⟨0 + 1, by omega, by go_num, (by first | trivial | rfl), by show _ = _; rw [last_succ ha.out]; exact HG.out⟩
            case measure => simp [intOf]; omega
          · obtain ⟨m, hm⟩ : ∃ m, k = m + 1 := ⟨k - 1, by omega⟩
            obtain ⟨ad', b, he, hbk', hb, hc'⟩ := HC.out.get (show m < cs.length by omega)
            obtain rfl := Option.some.inj he
            have hLV : lastV cs k = b := by rw [hm]; exact last_succ hb.out
            rw [hLV] at hF
            have z1 : decide ((0 : Int) < (k : Int)) = true := decide_eq_true (by omega)
            have s1 : IntKind.i64.wrap ((k : Int) - 1) = m := by rw [IntWalk.i64_in _ (by omega)]; omega
            have hml : m < cs.length := by omega
            have HM := Lib.hid hm
            clear hLV he hm
            by_cases h3 : a ≤ b
            · have t3 : decide (a ≤ b) = true := decide_eq_true h3
              have HR : Hid (cutB ns.length cs = false) := Lib.hid (by unfold cutB; rw [hF.out, HD.out]; exact cutF_no (.inl h3))
              go_wp2
              go_ret
              exact ⟨ret_bool HR.out.symm, hBW.out⟩
            · have t3 : decide (a ≤ b) = false := decide_eq_false h3
              have HG : Hid (cutF ns.length (-1) cs = cutF ns.length a (cs.drop (k + 1))) := Lib.hid (by rw [hF.out, HD.out]; exact cutF_go (by omega) (by omega))
              go_wp2
              go_roundw
              case rel => exact ⟨k + 1, by omega, by go_num, (by first | trivial | rfl), by show _ = _; rw [last_succ ha.out]; exact HG.out⟩
              case measure => simp [intOf]; omega
    · obtain rfl : k = cs.length := by omega
      have HR : Hid (cutB ns.length cs = true) := Lib.hid (by unfold cutB; rw [hF.out, List.drop_length]; rfl)
      go_wp2
      go_ret
      exact ⟨ret_bool HR.out.symm, hBW.out⟩
end Go.Proofs.Ytolpbbabmcpdkaa
