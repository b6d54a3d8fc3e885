/-
  Contracts: cut, Row and Cut of the reference.
-/
import Derived.Test.YtolpbbabmcpdkaaRefArea
import Derived.Test.YtolpbbabmcpdkaaRefGain
set_option linter.unusedVariables false
set_option linter.unusedSimpArgs false
namespace Go.Proofs.Ytolpbbabmcpdkaa
open Go.RowKit Go.Shelf

def sO (l : List Nat) : Nat := l.foldl (fun s a => s ||| 2 ^ a) 0
theorem so_snoc {l : List Nat} {j a : Nat} (h : l[j]? = some a) : sO (l.take (j + 1)) = sO (l.take j) ||| 2 ^ a := by rw [take_snoc h, sO, List.foldl_append]; rfl
theorem so_lt {l : List Nat} (h : ∀ a ∈ l, a < 10) : ∀ j, sO (l.take j) < 2 ^ 10
  | 0 => by simp [sO]
  | j + 1 => by
    by_cases hj : j < l.length
    · rw [so_snoc (List.getElem?_eq_getElem hj)]
      exact Nat.or_lt_two_pow (so_lt h j) (Nat.pow_lt_pow_right (by omega) (h _ (List.getElem_mem hj)))
    · rw [List.take_of_length_le (by omega), ← List.take_of_length_le (show l.length ≤ j by omega)]; exact so_lt h j
theorem so_bit (l : List Nat) (i : Nat) : ∀ j, (sO (l.take j)).testBit i = decide (i ∈ l.take j)
  | 0 => by simp [sO]
  | j + 1 => by
    by_cases hj : j < l.length
    · have hx := List.getElem?_eq_getElem hj
      rw [so_snoc hx, Nat.testBit_or, so_bit l i j, take_snoc hx, Nat.testBit_two_pow]
      rw [Bool.eq_iff_iff]
      simp only [Bool.or_eq_true, decide_eq_true_eq, List.mem_append, List.mem_singleton]
      exact or_congr Iff.rfl ⟨Eq.symm, Eq.symm⟩
    · have e : l.take (j + 1) = l.take j := by rw [List.take_of_length_le (by omega), List.take_of_length_le (by omega)]
      rw [e]; exact so_bit l i j
theorem ct_of {ns ss : List Int} (k : Nat) : ofS ns.length (sO ((rowN ns ss).take k)) = ctL ns ss k := by
  refine asc_ext (ofM_asc _ _) (cutF_asc (ct_cut (ns := ns) (ss := ss) k)) fun a => ?_
  rw [(ct_perm ns ss k).mem_iff]
  unfold ofS
  rw [ofM_mem, rowL, ← List.map_take, List.mem_map]
  constructor
  · rintro ⟨i, hi, hb, rfl⟩
    rw [so_bit, decide_eq_true_eq] at hb
    exact ⟨i, hb, rfl⟩
  · rintro ⟨i, hi, rfl⟩
    exact ⟨i, row_mem.1 (List.mem_of_mem_take hi), by rw [so_bit]; exact decide_eq_true hi, rfl⟩

set_option maxRecDepth 100000 in
set_option maxHeartbeats 2000000 in
theorem refCut_own (ns ss : List Int) (A B : Option Addr) (c d : Nat) (ho : Od ns ss) (k : Nat) (hk : k ≤ ns.length) (w : World) (hA : Ints w A ns) (hB : Ints w B ss) :
    Calls Try.prog 76 #[.agg #[.slice A ns.length c, .slice B ss.length d], .int .i64 k] w fun e w' => ∃ A' c', e = .returned (.slice A' (ctL ns ss k).length c') ∧ Out w' A' c' (ctL ns ss k) ∧ Below w.heap.size w w' := by
  have HO := Lib.hid ho
  have hn10 := ho.le
  have HA := Lib.hid hA
  have HB := Lib.hid hB
  have HL : Hid (∀ a ∈ rowN ns ss, a < 10) := Lib.hid (fun a ha => by have := row_mem.1 ha; omega)
  obtain ⟨W0, hW0, HW, H0, z0⟩ := one_new w #[.slice A ns.length c, .slice B ss.length d] 24
  have HK : Hid (∀ W, Below W0.heap.size W0 W → W.cell? ⟨w.heap.size, 0, none⟩ = some (.slice A ns.length c) ∧ W.cell? ⟨w.heap.size, 1, none⟩ = some (.slice B ss.length d)) := Lib.hid fun W hW =>
    have q0 := (hW.block _ z0).trans H0.out
    ⟨blk_cell q0 0 rfl, blk_cell q0 1 rfl⟩
  clear ho hA hB
  obtain ⟨b0, b1⟩ := HK.out W0 (Below.refl _ _)
  go_enter Try.func76, Try.ntmps76
  go_wp2_with (go_at_call 74; with_reducible refine (refRow_own ns ss A B c d HO.out _ (HA.out.below (by repeat (first | with_reducible exact Below.refl _ _ | with_reducible assumption | refine below_drewN ?_ _ | with_reducible refine Below.drew ?_ | (refine Below.setCell ?_ (by first | (simp; done) | (simp; omega) | omega) _) | (refine Below.alloc ?_ (by first | (simp; done) | (simp; omega) | omega) _)))) (HB.out.below (by repeat (first | with_reducible exact Below.refl _ _ | with_reducible assumption | refine below_drewN ?_ _ | with_reducible refine Below.drew ?_ | (refine Below.setCell ?_ (by first | (simp; done) | (simp; omega) | omega) _) | (refine Below.alloc ?_ (by first | (simp; done) | (simp; omega) | omega) _))))).mono ?_; rintro e w2 ⟨gb, rfl, hR, hB2⟩; rw [← hW0] at hB2; have HV2 := Lib.hid hB2; have HR := Lib.hid hR; clear hR hB2)
  clear b0 b1
  go_loopw [5, 13] (fun s i wr => ∃ j : Nat, j ≤ k ∧ i = .int .i64 j ∧ s = .int .i64 (sO ((rowN ns ss).take j) : Nat) ∧ Hid (Below w2.heap.size w2 wr)) (fun _ i _ => k - (intOf i).toNat)
  case atStart => exact ⟨0, Nat.zero_le _, rfl, by simp [sO], Lib.hid (Below.refl _ _)⟩
  case round =>
    obtain ⟨j, hj, rfl, rfl, hBi⟩ := hrel
    rename World => wr
    by_cases hlt : j < k
    · obtain ⟨a, ha⟩ := getElem?_of_lt (zs := rowN ns ss) (k := j) (by rw [row_len]; omega)
      have ha10 := HL.out a (List.mem_of_getElem? ha)
      have hra : (rowL ns ss)[j]? = some (a : Int) := by rw [rowL, List.getElem?_map, ha]; rfl
      have hR2 := own_keep HR.out hBi.out
      have r0 := (hR2.cellAt j (by omega)).trans (by rw [List.getElem?_map, hra]; rfl : ((rowL ns ss).map (Value.int .i64))[j]? = some (.int .i64 (a : Int)))
      have HN := Lib.hid (so_snoc ha)
      have hsl := so_lt HL.out j
      obtain ⟨S, hS⟩ : ∃ S, sO ((rowN ns ss).take j) = S := ⟨_, rfl⟩
      rw [hS] at HN hsl ⊢
      have p1 : IntKind.i64.wrap (1 * 2 ^ a) = ((2 ^ a : Nat) : Int) := pow_i64 a (by omega)
      have p2 : IntKind.i64.wrap (2 ^ a) = ((2 ^ a : Nat) : Int) := by rw [← p1, Int.one_mul]
      have hp : 2 ^ a < 2 ^ 63 := Nat.pow_lt_pow_right (by omega) (by omega)
      have p3 := or_i64 S (2 ^ a) (by omega) hp
      have HP4 : Hid (bits .or .i64 (S : Int) ((2 : Int) ^ a) = ((S ||| 2 ^ a : Nat) : Int)) := Lib.hid (by
        rw [← p3, Int.natCast_pow]; rfl)
      clear hR2 ha hra hS p3
      go_wp2
      go_roundw
      case rel => exact ⟨j + 1, by omega, by go_num, by rw [HN.out, HP4.out], hBi⟩
      case measure => simp [intOf]; omega
    · obtain rfl : j = k := by omega
      have hV := below_step HV2.out hBi.out
      obtain ⟨b0, b1⟩ := HK.out wr hV
      have hsl := so_lt HL.out j
      have HOF := Lib.hid (of_any ns ss A B c d (sO ((rowN ns ss).take j)) wr (by omega) (by omega))
      rw [ct_of] at HOF
      generalize sO ((rowN ns ss).take j) = S at HOF ⊢
      go_wp2_with (go_at_call 80; refine HOF.out.mono ?_; rintro e w3 ⟨A', c', ys, rfl, hO, hB3, rfl⟩)
      go_ret
      exact ⟨A', c', rfl, hO, below_step (below_step HW.out hV) hB3⟩
end Go.Proofs.Ytolpbbabmcpdkaa
