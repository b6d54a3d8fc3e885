/-
  Contracts: sum, kept, validWeights (weigh), Total, kept, areWeights (firnref07).
-/
import Derived.Test.YtolpbbabmcpdkaaOwn
import Derived.Test.YtolpbbabmcpdkaaOddsM
set_option linter.unusedVariables false
set_option linter.unusedSimpArgs false
namespace Go.Proofs.Ytolpbbabmcpdkaa
open Go.RowKit

set_option maxRecDepth 100000 in
theorem sum_any (zs : List Int) (A : Option Addr) (c : Nat) (w : World) (h : Ints w A zs) (hl : zs.length ≤ 1000) (hb : ∀ z ∈ zs, 0 ≤ z ∧ z ≤ 1000000000) :
    Calls Try.prog 101 #[.slice A zs.length c] w fun e w' => e = .returned (.int .i64 zs.sum) ∧ w = w' := by
  have H := Lib.hid h
  have HB := Lib.hid hb
  clear h hb
  go_enter Try.func101, Try.ntmps101
  go_wp2
  go_loopw [3, 8] (fun v i wr => ∃ k : Nat, k ≤ zs.length ∧ v = .int .i64 (zs.take k).sum ∧ i = .int .i64 k ∧ wr = w) (fun _ i _ => zs.length - (intOf i).toNat)
  case atStart => exact ⟨0, Nat.zero_le _, rfl, rfl, rfl⟩
  case round =>
    obtain ⟨k, hk, rfl, rfl, rfl⟩ := hrel
    by_cases hlt : k < zs.length
    · obtain ⟨ad, z, rfl, hbk, hz, hc⟩ := H.out.get hlt
      have hzb := HB.out z (List.mem_of_getElem? hz.out)
      have hsb := sum_bd (zs := zs.take k) (fun x hx => HB.out x (List.mem_of_mem_take hx))
      have htl : (zs.take k).length ≤ 1000 := by rw [List.length_take]; omega
      obtain ⟨s, hs⟩ : ∃ s, s = (zs.take k).sum := ⟨_, rfl⟩
      rw [← hs] at hsb
      simp only [← hs]
      have HS := Lib.hid hs
      have hs0 : 0 ≤ s := hsb.1
      have hs1 : s ≤ 1000000000000 := by omega
      clear hs hsb htl
      go_wp2
      go_roundw
      case rel => exact ⟨k + 1, by omega, by rw [sum_snoc hz.out, HS.out], by go_num, (by first | trivial | rfl)⟩
      case measure => simp [intOf]; omega
    · obtain rfl : k = zs.length := by omega
      rw [List.take_length]
      go_wp2
      go_ret
      exact ⟨rfl, rfl⟩
set_option maxRecDepth 100000 in
theorem total_any (zs : List Int) (A : Option Addr) (c : Nat) (w : World) (h : Ints w A zs) (hl : zs.length ≤ 1000) (hb : ∀ z ∈ zs, 0 ≤ z ∧ z ≤ 1000000000) :
    Calls Try.prog 58 #[.slice A zs.length c] w fun e w' => e = .returned (.int .i64 zs.sum) ∧ w = w' := by
  have H := Lib.hid h
  have HB := Lib.hid hb
  clear h hb
  go_enter Try.func58, Try.ntmps58
  go_wp2
  go_loopw [3, 8] (fun v i wr => ∃ k : Nat, k ≤ zs.length ∧ v = .int .i64 (zs.take k).sum ∧ i = .int .i64 k ∧ wr = w) (fun _ i _ => zs.length - (intOf i).toNat)
  case atStart => exact ⟨0, Nat.zero_le _, rfl, rfl, rfl⟩
  case round =>
    obtain ⟨k, hk, rfl, rfl, rfl⟩ := hrel
    by_cases hlt : k < zs.length
    · obtain ⟨ad, z, rfl, hbk, hz, hc⟩ := H.out.get hlt
      have hzb := HB.out z (List.mem_of_getElem? hz.out)
      have hsb := sum_bd (zs := zs.take k) (fun x hx => HB.out x (List.mem_of_mem_take hx))
      have htl : (zs.take k).length ≤ 1000 := by rw [List.length_take]; omega
      obtain ⟨s, hs⟩ : ∃ s, s = (zs.take k).sum := ⟨_, rfl⟩
      rw [← hs] at hsb
      simp only [← hs]
      have HS := Lib.hid hs
      have hs0 : 0 ≤ s := hsb.1
      have hs1 : s ≤ 1000000000000 := by omega
      clear hs hsb htl
      go_wp2
      go_roundw
      case rel => exact ⟨k + 1, by omega, by rw [sum_snoc hz.out, HS.out], by go_num, (by first | trivial | rfl)⟩
      case measure => simp [intOf]; omega
    · obtain rfl : k = zs.length := by omega
      rw [List.take_length]
      go_wp2
      go_ret
      exact ⟨rfl, rfl⟩
set_option maxRecDepth 100000 in
theorem kept_any (zs cs : List Int) (A B : Option Addr) (c d : Nat) (w : World) (h : Ints w A zs) (h2 : Ints w B cs) (hl : cs.length ≤ 1000) (hb : ∀ z ∈ zs, 0 ≤ z ∧ z ≤ 1000000000) (hc : ∀ a ∈ cs, 0 ≤ a ∧ a < zs.length) :
    Calls Try.prog 67 #[.slice A zs.length c, .slice B cs.length d] w fun e w' => e = .returned (.int .i64 (keptL zs cs)) ∧ w = w' := by
  have H := Lib.hid h
  have H2 := Lib.hid h2
  have HB := Lib.hid hb
  have HC := Lib.hid hc
  clear h h2 hb hc
  go_enter Try.func67, Try.ntmps67
  go_wp2
  go_loopw [5, 10] (fun v i wr => ∃ k : Nat, k ≤ cs.length ∧ v = .int .i64 (keptL zs (cs.take k)) ∧ i = .int .i64 k ∧ wr = w) (fun _ i _ => cs.length - (intOf i).toNat)
  case atStart => exact ⟨0, Nat.zero_le _, rfl, rfl, rfl⟩
  case round =>
    obtain ⟨k, hk, rfl, rfl, rfl⟩ := hrel
    by_cases hlt : k < cs.length
    · obtain ⟨bd, x, rfl, hbk, hx, hc⟩ := H2.out.get hlt
      have hxb := HC.out x (List.mem_of_getElem? hx.out)
      have hlt2 : x.toNat < zs.length := by omega
      obtain ⟨ad, z, rfl, hbk2, hz, hc2⟩ := H.out.get hlt2
      have hzb := HB.out z (List.mem_of_getElem? hz.out)
      have hsb := kept_bd (zs := zs) (by omega) HB.out (cs.take k)
      have htl : (cs.take k).length ≤ 1000 := by rw [List.length_take]; omega
      obtain ⟨s, hs⟩ : ∃ s, s = keptL zs (cs.take k) := ⟨_, rfl⟩
      rw [← hs] at hsb
      simp only [← hs]
      have HS := Lib.hid hs
      have hs0 : 0 ≤ s := hsb.1
      have hs1 : s ≤ 1000000000000 := by omega
      clear hs hsb htl
      go_wp2
      go_roundw
      case rel => exact ⟨k + 1, by omega, by rw [kept_snoc hx.out, HS.out, getD_of hz.out], by go_num, (by first | trivial | rfl)⟩
      case measure => simp [intOf]; omega
    · obtain rfl : k = cs.length := by omega
      rw [List.take_length]
      go_wp2
      go_ret
      exact ⟨rfl, rfl⟩
set_option maxRecDepth 100000 in
theorem refkept_any (zs cs : List Int) (A B : Option Addr) (c d : Nat) (w : World) (h : Ints w A zs) (h2 : Ints w B cs) (hl : cs.length ≤ 1000) (hb : ∀ z ∈ zs, 0 ≤ z ∧ z ≤ 1000000000) (hc : ∀ a ∈ cs, 0 ≤ a ∧ a < zs.length) :
    Calls Try.prog 69 #[.slice A zs.length c, .slice B cs.length d] w fun e w' => e = .returned (.int .i64 (keptL zs cs)) ∧ w = w' := by
  have H := Lib.hid h
  have H2 := Lib.hid h2
  have HB := Lib.hid hb
  have HC := Lib.hid hc
  clear h h2 hb hc
  go_enter Try.func69, Try.ntmps69
  go_wp2
  go_loopw [5, 10] (fun v i wr => ∃ k : Nat, k ≤ cs.length ∧ v = .int .i64 (keptL zs (cs.take k)) ∧ i = .int .i64 k ∧ wr = w) (fun _ i _ => cs.length - (intOf i).toNat)
  case atStart => exact ⟨0, Nat.zero_le _, rfl, rfl, rfl⟩
  case round =>
    obtain ⟨k, hk, rfl, rfl, rfl⟩ := hrel
    by_cases hlt : k < cs.length
    · obtain ⟨bd, x, rfl, hbk, hx, hc⟩ := H2.out.get hlt
      have hxb := HC.out x (List.mem_of_getElem? hx.out)
      have hlt2 : x.toNat < zs.length := by omega
      obtain ⟨ad, z, rfl, hbk2, hz, hc2⟩ := H.out.get hlt2
      have hzb := HB.out z (List.mem_of_getElem? hz.out)
      have hsb := kept_bd (zs := zs) (by omega) HB.out (cs.take k)
      have htl : (cs.take k).length ≤ 1000 := by rw [List.length_take]; omega
      obtain ⟨s, hs⟩ : ∃ s, s = keptL zs (cs.take k) := ⟨_, rfl⟩
      rw [← hs] at hsb
      simp only [← hs]
      have HS := Lib.hid hs
      have hs0 : 0 ≤ s := hsb.1
      have hs1 : s ≤ 1000000000000 := by omega
      clear hs hsb htl
      go_wp2
      go_roundw
      case rel => exact ⟨k + 1, by omega, by rw [kept_snoc hx.out, HS.out, getD_of hz.out], by go_num, (by first | trivial | rfl)⟩
      case measure => simp [intOf]; omega
    · obtain rfl : k = cs.length := by omega
      rw [List.take_length]
      go_wp2
      go_ret
      exact ⟨rfl, rfl⟩
set_option maxRecDepth 100000 in
theorem validWeights_any (zs : List Int) (A : Option Addr) (c : Nat) (w : World) (h : Ints w A zs) (hl : zs.length ≤ 1000) :
    Calls Try.prog 70 #[.slice A zs.length c] w fun e w' => e = .returned (.bool (wsB zs)) ∧ w = w' := by
  have H := Lib.hid h
  clear h
  go_enter Try.func70, Try.ntmps70
  go_wp2
  go_loopw [7] (fun i wr => ∃ k : Nat, k ≤ zs.length ∧ i = .int .i64 k ∧ wr = w ∧ Hid ((zs.take k).all wtB = true)) (fun i _ => zs.length - (intOf i).toNat)
  case atStart => exact ⟨0, Nat.zero_le _, rfl, rfl, rfl⟩
  case round =>
    obtain ⟨k, hk, rfl, rfl, ha⟩ := hrel
    by_cases hlt : k < zs.length
    · obtain ⟨ad, z, rfl, hbk, hz, hc⟩ := H.out.get hlt
      by_cases h1 : z < 0
      · have t1 : decide (z < 0) = true := decide_eq_true h1
        have HF := Lib.hid (all_not hz.out (p := wtB) (by unfold wtB; rw [decide_eq_false (by omega : ¬ 0 ≤ z)]; rfl))
        have HR : Hid ((wsB zs) = false) := Lib.hid (by unfold wsB; rw [HF.out]; rfl)
        go_wp2
        go_ret
        exact ⟨ret_bool HR.out.symm, rfl⟩
      · have t1 : decide (z < 0) = false := decide_eq_false h1
        by_cases h2 : 1000 < z
        · have t2 : decide (1000 < z) = true := decide_eq_true h2
          have HF := Lib.hid (all_not hz.out (p := wtB) (by unfold wtB; rw [decide_eq_false (by omega : ¬ z ≤ 1000)]; simp))
          have HR : Hid ((wsB zs) = false) := Lib.hid (by unfold wsB; rw [HF.out]; rfl)
          go_wp2
          go_ret
          exact ⟨ret_bool HR.out.symm, rfl⟩
        · have t2 : decide (1000 < z) = false := decide_eq_false h2
          have HT : Hid (wtB z = true) := Lib.hid (by unfold wtB; rw [decide_eq_true (by omega : 0 ≤ z), decide_eq_true (by omega : z ≤ 1000)]; rfl)
          go_wp2
          go_roundw
          case rel => exact ⟨k + 1, by omega, by go_num, (by first | trivial | rfl), by show _ = _; rw [all_snoc hz.out, ha.out, HT.out]; rfl⟩
          case measure => simp [intOf]; omega
    · obtain rfl : k = zs.length := by omega
      rw [List.take_length] at ha
      have HB : Hid (∀ z ∈ zs, 0 ≤ z ∧ z ≤ 1000000000) := Lib.hid (by
        intro z hz
        have := List.all_eq_true.1 ha.out z hz
        unfold wtB at this
        rw [Bool.and_eq_true, decide_eq_true_iff, decide_eq_true_iff] at this
        omega)
      go_wp2_with (go_at_call 101; refine (sum_any zs _ _ _ H.out hl HB.out).mono ?_; rintro e w1 ⟨rfl, rfl⟩)
      go_ret
      exact ⟨ret_bool (by unfold wsB; rw [ha.out]; rfl), rfl⟩
set_option maxRecDepth 100000 in
theorem areWeights_any (zs : List Int) (A : Option Addr) (c : Nat) (w : World) (h : Ints w A zs) (hl : zs.length ≤ 1000) :
    Calls Try.prog 71 #[.slice A zs.length c] w fun e w' => e = .returned (.bool (decide (zs.length ≤ 10) && wsB zs)) ∧ w = w' := by
  have H := Lib.hid h
  clear h
  go_enter Try.func71, Try.ntmps71
  go_wp2
  go_loopw [7] (fun i wr => ∃ k : Nat, k ≤ zs.length ∧ i = .int .i64 k ∧ wr = w ∧ Hid ((zs.take k).all wtB = true)) (fun i _ => zs.length - (intOf i).toNat)
  case atStart => exact ⟨0, Nat.zero_le _, rfl, rfl, rfl⟩
  case round =>
    obtain ⟨k, hk, rfl, rfl, ha⟩ := hrel
    by_cases hlt : k < zs.length
    · obtain ⟨ad, z, rfl, hbk, hz, hc⟩ := H.out.get hlt
      by_cases h1 : z < 0
      · have t1 : decide (z < 0) = true := decide_eq_true h1
        have HF := Lib.hid (all_not hz.out (p := wtB) (by unfold wtB; rw [decide_eq_false (by omega : ¬ 0 ≤ z)]; rfl))
        have HR : Hid ((decide (zs.length ≤ 10) && wsB zs) = false) := Lib.hid (by unfold wsB; rw [HF.out]; simp)
        go_wp2
        go_ret
        exact ⟨ret_bool HR.out.symm, rfl⟩
      · have t1 : decide (z < 0) = false := decide_eq_false h1
        by_cases h2 : 1000 < z
        · have t2 : decide (1000 < z) = true := decide_eq_true h2
          have HF := Lib.hid (all_not hz.out (p := wtB) (by unfold wtB; rw [decide_eq_false (by omega : ¬ z ≤ 1000)]; simp))
          have HR : Hid ((decide (zs.length ≤ 10) && wsB zs) = false) := Lib.hid (by unfold wsB; rw [HF.out]; simp)
          go_wp2
          go_ret
          exact ⟨ret_bool HR.out.symm, rfl⟩
        · have t2 : decide (1000 < z) = false := decide_eq_false h2
          have HT : Hid (wtB z = true) := Lib.hid (by unfold wtB; rw [decide_eq_true (by omega : 0 ≤ z), decide_eq_true (by omega : z ≤ 1000)]; rfl)
          go_wp2
          go_roundw
          case rel => exact ⟨k + 1, by omega, by go_num, (by first | trivial | rfl), by show _ = _; rw [all_snoc hz.out, ha.out, HT.out]; rfl⟩
          case measure => simp [intOf]; omega
    · obtain rfl : k = zs.length := by omega
      rw [List.take_length] at ha
      have HB : Hid (∀ z ∈ zs, 0 ≤ z ∧ z ≤ 1000000000) := Lib.hid (by
        intro z hz
        have := List.all_eq_true.1 ha.out z hz
        unfold wtB at this
        rw [Bool.and_eq_true, decide_eq_true_iff, decide_eq_true_iff] at this
        omega)
      have HN : Hid (zs.length = 0 → zs.sum = 0) := Lib.hid (fun h0 => by rw [List.eq_nil_of_length_eq_zero h0]; rfl)
      by_cases h1 : 1 ≤ zs.length
      · have t1 : decide ((1 : Int) ≤ (zs.length : Int)) = true := decide_eq_true (by omega)
        by_cases h2 : zs.length ≤ 10
        · have t2 : decide ((zs.length : Int) ≤ 10) = true := decide_eq_true (by omega)
          have HR : Hid ((decide (zs.length ≤ 10) && wsB zs) = decide (0 < zs.sum)) := Lib.hid (by rw [decide_eq_true h2]; unfold wsB; rw [ha.out]; rfl)
          go_wp2_with (go_at_call 58; refine (total_any zs _ _ _ H.out hl HB.out).mono ?_; rintro e w1 ⟨rfl, rfl⟩)
          go_ret
          exact ⟨ret_bool HR.out.symm, rfl⟩
        · have t2 : decide ((zs.length : Int) ≤ 10) = false := decide_eq_false (by omega)
          have HR : Hid ((decide (zs.length ≤ 10) && wsB zs) = false) := Lib.hid (by rw [decide_eq_false h2]; rfl)
          go_wp2
          go_ret
          exact ⟨ret_bool HR.out.symm, rfl⟩
      · have t1 : decide ((1 : Int) ≤ (zs.length : Int)) = false := decide_eq_false (by omega)
        have HR : Hid ((decide (zs.length ≤ 10) && wsB zs) = false) := Lib.hid (by unfold wsB; rw [HN.out (by omega)]; simp)
        go_wp2
        go_ret
        exact ⟨ret_bool HR.out.symm, rfl⟩
end Go.Proofs.Ytolpbbabmcpdkaa
