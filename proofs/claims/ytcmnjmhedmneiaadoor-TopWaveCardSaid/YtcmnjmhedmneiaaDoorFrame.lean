/-
  From an argument's reading to what the walks are told of it.
-/
import Derived.Test.YtcmnjmhedmneiaaDoorSamples
import Derived.LaidHandle
import Derived.Lib.LaidTab
import Derived.Test.YtcmnjmhedmneiaaDoorRows
import Derived.ProofKit
import Derived.OpenShut
import Derived.ShutString
import Derived.ChangeOld
import Derived.Below
namespace Go.Proofs.YtcmnjmhedmneiaaDoor
open Go.ChangeShapes Go.WideShapes Go.ChangeAt Go.RowKit

section
variable {H : Type} {enc : TypeId × Value → H} {W : World}
theorem arg_ints {a : Option Addr} {len cap : Nat} {d : DataW H} {p : List MemPlace}
    (h : DataW.Trod enc Tryd.prog W 0 (fun _ => true) true 22 (.slice a len cap) d p) :
    ∃ zs : List Int, zs.length = len ∧ Ints W a zs ∧ len ≤ cap ∧ cap ≤ maxLen ∧ I64s zs := by
  obtain ⟨fuel, hf⟩ := h
  rcases open_ints Tryd.underlying22 Tryd.underlying3 (by kernel_rfl) hf with ⟨hcs, _⟩ | ⟨x, l, c, zs, hcs, _, hl, hm, hz, _, hcell, hwz⟩
  · simp [Value.cells] at hcs
    obtain ⟨rfl, rfl, rfl⟩ := hcs
    exact ⟨[], rfl, Ints.nil_, by omega, by simp [maxLen], fun d hd => by cases hd⟩
  · simp [Value.cells] at hcs
    obtain ⟨rfl, rfl, rfl⟩ := hcs
    have hzl : zs.length = cap := by simpa using hz
    have htl : (zs.take len).length = len := by simp; omega
    refine ⟨zs.take len, htl, ⟨by simp, fun hn => ?_⟩, hl, hm, fun d hd => bounds_i64 (hwz d (List.mem_of_mem_take hd))⟩
    have h0 := hcell 0 (by rw [htl] at hn; omega)
    refine ⟨x, rfl, ?_, fun j u hj => ?_⟩
    · have := World.block_lt_of_cell? W _ h0
      rwa [block_of_add] at this
    · rw [List.getElem?_map] at hj
      have hjl : j < len := by
        rcases Nat.lt_or_ge j len with h | h
        · exact h
        · rw [List.getElem?_eq_none (by rw [htl]; omega)] at hj; cases hj
      rw [List.getElem?_take_of_lt hjl, List.getElem?_eq_getElem (by omega)] at hj
      simp only [Option.map_some, Option.some.injEq] at hj
      rw [hcell j (by omega), ← hj, List.getD_eq_getElem?_getD, List.getElem?_eq_getElem (by omega)]; rfl
end
theorem wids_named : Tryd.prog.globalNamed "firn/wave.allWidths" = some 0 := by kernel_rfl
theorem wids_type : (Tryd.prog.globals[0]?).map (·.type) = some 72 := by kernel_rfl
theorem laid_plain {W : World} (h : laidMetH Tryd.prog [("firn/wave.allWidths", Rows.laid_firn_wave_allWidths)] W) : laidMet Tryd.prog [("firn/wave.allWidths", Lib.tabData .i64 [1, 2, 3, 6, 11])] W := h
/-- What the condition gives a walk: the table's cells. -/
theorem wids_of_laid {W : World} (h : laidMetH Tryd.prog [("firn/wave.allWidths", Rows.laid_firn_wave_allWidths)] W) : Wids W := by
  have hT := Lib.tabIs_of_head wids_named wids_type Tryd.underlying72 Tryd.underlying3 (by kernel_rfl) (by kernel_rfl) (laid_plain h)
  have hc := fun i hi => hT.cell wids_named i hi
  refine ⟨World.block_lt_of_cell? W _ (hc 0 (by decide)), fun k hk => ?_⟩
  rw [hc k hk]
  rcases (show k = 0 ∨ k = 1 ∨ k = 2 ∨ k = 3 ∨ k = 4 by omega) with rfl | rfl | rfl | rfl | rfl <;> rfl
/-- A world that meets the condition. -/
noncomputable def laidWorld (os : Os) : World :=
  { World.holding Tryd.prog os ⟨#[], #[], []⟩ with heap := (World.holding Tryd.prog os ⟨#[], #[], []⟩).heap.modify 0 fun
      | .cells _ t frozen => .cells #[.int .i64 1, .int .i64 2, .int .i64 3, .int .i64 6, .int .i64 11] t frozen
      | o => o }
theorem laidWorld_met (os : Os) (args : Array Value) : laidMetH Tryd.prog [("firn/wave.allWidths", Rows.laid_firn_wave_allWidths)] ((laidWorld os).forCall (fun _ _ => 0) ⟨#[], args, []⟩).memory :=
  laidMetH_of_parts (laidMet_of_run' 8 (by kernel_rfl) (by kernel_rfl)) (by kernel_rfl)
end Go.Proofs.YtcmnjmhedmneiaaDoor
