/-
  Contract: spent.
-/
import Derived.Test.YthanmiifcpajhaaPlan
set_option linter.unusedVariables false
set_option linter.unusedSimpArgs false
namespace Go.Proofs.Ythanmiifcpajhaa
open Go Go.RowKit

theorem counts_size : (Try.prog.info? 78).map (·.size) = some 12 := by kernel_rfl
theorem int_size : (Try.prog.info? 3).map (·.size) = some 1 := by kernel_rfl
theorem index_plan {p : Nat → Int} {k : Nat} {v : Int} (h : k < 100) (hv : p k = v) (W : World) : (Instr.index 58 (.agg (vC p 100)) (.int .i64 k)).run Try.prog W = .ok (.int .i64 v) W := by
  subst hv
  have hg := vC_get (p := p) h
  have hk : ((k : Int) < 100) := by omega
  cases hq : Try.prog.info? 3 with
  | none => have := int_size; rw [hq] at this; cases this
  | some i =>
    have hs : i.size = 1 := by have := int_size; rw [hq] at this; simpa using this
    have hagg : (isAgg 3).run Try.prog W = .ok false W := by
      unfold isAgg
      rw [Sem.run_bind, run_underlying Try.underlying3 W]
      rfl
    unfold Instr.index part
    simp [Sem.run_bind, asIntOf, run_underlying Try.underlying58 W, Result.andThen, hk, sizeOf, typeInfo, hq, hs, hagg, hg]
    intro h2; omega
theorem cn_in {p : Nat → Int} {k j : Nat} (h : p k = (j : Int)) (i : Nat) : cn p i (k + 1) = if i = j then cn p j k + 1 else cn p i k := by
  show cn p i k + (if p k = (i : Int) then 1 else 0) = _
  by_cases e : i = j
  · subst e; rw [if_pos h, if_pos rfl]
  · rw [if_neg (by rw [h]; omega), if_neg e]; omega
theorem cn_out {p : Nat → Int} {k : Nat} (h : p k = -1) (i : Nat) : cn p i (k + 1) = cn p i k := by
  show cn p i k + (if p k = (i : Int) then 1 else 0) = _
  rw [if_neg (by rw [h]; omega)]; omega

set_option maxRecDepth 100000 in
set_option maxHeartbeats 1000000 in
theorem spent_any (p : Nat → Int) (w : World) (hp : ∀ m, m < 100 → -1 ≤ p m ∧ p m < 12) :
    Calls Try.prog 82 #[.agg (vC p 100)] w fun e w' => e = .returned (.agg (vC (fun i => cn p i 100) 12)) ∧ Below w.heap.size w w' := by
  have HP := Lib.hid hp
  clear hp
  go_enter Try.func82, Try.ntmps82
  go_wp2_with (first
    | (refine wpList_load_row rfl 58 (.tmp 1) rfl w.heap.size rfl 58 (vC p 100) (0, 0) _ (Arr.alloc (Arr.alloc (Arr.new w 58 p 100) _) _) Try.underlying58 (by rfl) (by rw [vC_size]; exact plan_size) ?_)
    | fail)
  rw [zero12]
  have hA1 : Arr (((w.alloc (.cells (vC p 100) 58)).alloc (.cells (vC (fun _ => 0) 12) 78)).alloc (.cells (vC (fun _ => 0) 12) 78)) (w.heap.size + 1) 78 (fun _ => 0) 12 := (show Arr _ _ _ _ _ by have := Arr.new (w.alloc (.cells (vC p 100) 58)) 78 (fun _ => 0) 12; simpa using this).alloc _
  have hA2 : Arr (((w.alloc (.cells (vC p 100) 58)).alloc (.cells (vC (fun _ => 0) 12) 78)).alloc (.cells (vC (fun _ => 0) 12) 78)) (w.heap.size + 1 + 1) 78 (fun _ => 0) 12 := by have := Arr.new ((w.alloc (.cells (vC p 100) 58)).alloc (.cells (vC (fun _ => 0) 12) 78)) 78 (fun _ => 0) 12; simpa using this
  have hB0 : Below w.heap.size w (((w.alloc (.cells (vC p 100) 58)).alloc (.cells (vC (fun _ => 0) 12) 78)).alloc (.cells (vC (fun _ => 0) 12) 78)) := (by repeat (first | with_reducible exact Below.refl _ _ | with_reducible assumption | refine below_drewN ?_ _ | with_reducible refine Below.drew ?_ | (refine Below.setCell ?_ (by first | (simp; done) | (simp; omega) | omega) _) | (refine Below.alloc ?_ (by first | (simp; done) | (simp; omega) | omega) _)))
  have HA1 := Lib.hid hA1
  have HA2 := Lib.hid hA2
  clear hA1 hA2
  go_loopw [7] (fun i wr => ∃ k : Nat, k ≤ 100 ∧ i = .int .i64 k ∧ Hid (Arr wr (w.heap.size + 1) 78 (fun _ => 0) 12) ∧ Hid (Arr wr (w.heap.size + 1 + 1) 78 (fun i => cn p i k) 12) ∧ Below w.heap.size w wr) (fun i _ => 100 - (intOf i).toNat)
  case atStart => exact ⟨0, Nat.zero_le _, rfl, HA1, HA2, hB0⟩
  case round =>
    clear HA1 HA2 hB0
    obtain ⟨k, hk, rfl, hA1, hA2, hB⟩ := hrel
    by_cases hlt : k < 100
    · have hbd := HP.out k hlt
      obtain ⟨v, hv⟩ : ∃ v, p k = v := ⟨_, rfl⟩
      rw [hv] at hbd
      have hix := index_plan hlt hv
      have HV := Lib.hid hv
      clear hv
      by_cases hneg : v = -1
      · subst hneg
        clear hbd
        go_wp2
        go_roundw
        case rel => exact ⟨k + 1, by omega, by go_num, hA1, Lib.hid (hA2.out.congr (fun i _ => by rw [cn_out HV.out])), hB⟩
        case measure => simp [intOf]; omega
      · obtain ⟨j, rfl⟩ : ∃ j : Nat, v = j := ⟨v.toNat, by omega⟩
        have hj12 : j < 12 := by omega
        have hcn := cn_nn p j k
        have c2 := hA2.out.cell hj12
        have fr2 := blk_frozen hA2.out j
        obtain ⟨u, hu⟩ : ∃ u, cn p j k = u := ⟨_, rfl⟩
        rw [hu] at hcn c2
        obtain ⟨u1, u2⟩ := hcn
        have HU := Lib.hid hu
        have t1 : ((j : Int) != -1) = true := by simp
        clear hbd hneg hu
        go_wp2
        go_roundw
        case rel => exact ⟨k + 1, by omega, by go_num, Lib.hid (hA1.out.other (by simp)), Lib.hid (hA2.out.put hj12 (fun i => by rw [cn_in HV.out, HU.out])), Below.setCell hB (by simp; omega) _⟩
        case measure => simp [intOf]; omega
    · obtain rfl : k = 100 := by omega
      go_wp2_with (first
        | (refine wpList_load_row rfl 78 (.tmp 3) rfl (w.heap.size + 1 + 1) rfl 78 (vC (fun i => cn p i 100) 12) (0, 0) _ hA2.out Try.underlying78 (by rfl) (by rw [vC_size]; exact counts_size) ?_; refine wpList_store_row rfl 78 (.tmp 2) (.tmp 18) rfl (w.heap.size + 1) (vC (fun i => cn p i 100) 12) rfl rfl 78 (vC (fun _ => 0) 12) hA1.out (by rw [vC_size]; exact counts_size) (by simp only [vC_size]) (vC_one _ _) ?_)
        | fail)
      exact bodyPost_ret (results_cell_row rfl _ _ (w.heap.size + 1) 78 (vC (fun i => cn p i 100) 12) (0, 0) _ rfl (setRow_heap _ _ _ _ _ _ hA1.out) Try.underlying78 (by rfl) (by rw [vC_size]; exact counts_size)) rfl ⟨rfl, below_setRow hB (by omega) _⟩
end Go.Proofs.Ythanmiifcpajhaa
