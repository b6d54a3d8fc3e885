/-
  The table of widths; contracts: inWord, canHave, sign, better.
-/
import Derived.Test.YtcmnjmhedmneiaaDoorWrite
namespace Go.Proofs.YtcmnjmhedmneiaaDoor
open Go.RowKit Go.Shelf

/-- The table of widths, as it lies. -/
def Wids (w : World) : Prop := 0 < w.heap.size ∧ ∀ k, k < 5 → w.cell? ⟨0, k, none⟩ = some (.int .i64 (wdN k))
theorem Wids.below {w w' : World} (h : Wids w) (hb : Below w.heap.size w w') : Wids w' :=
  ⟨Nat.lt_of_lt_of_le h.1 hb.size, fun k hk => (hb.cell (p := ⟨0, k, none⟩) h.1).trans (h.2 k hk)⟩
/-- A width and half of its numbers. -/
def WH (w h : Int) : Prop := (w = 1 ∧ h = 1) ∨ (w = 2 ∧ h = 2) ∨ (w = 3 ∧ h = 4) ∨ (w = 6 ∧ h = 32) ∨ (w = 11 ∧ h = 1024)
theorem wh_at (k : Nat) : WH (wdN k) (halfN (wdN k)) := by
  rcases k with _ | _ | _ | _ | k <;> simp [WH, wdN, halfN]
theorem sv_append (l m : List UInt8) : (⟨l.toArray⟩ : ByteArray) ++ ⟨m.toArray⟩ = ⟨(l ++ m).toArray⟩ := by
  apply ByteArray.ext
  simp
theorem sv_size (l : List UInt8) : (⟨l.toArray⟩ : ByteArray).size = l.length := by simp [ByteArray.size]

set_option maxRecDepth 100000 in
theorem inWord_any {wi h : Int} (hw : WH wi h) (n : Int) (w : World) :
    Calls Tryd.prog 65 #[.int .i64 wi, .int .i64 n] w fun e w' => e = .returned (.bool (decide (-h ≤ n ∧ n < h))) ∧ w = w' := by
  rcases hw with ⟨rfl, rfl⟩ | ⟨rfl, rfl⟩ | ⟨rfl, rfl⟩ | ⟨rfl, rfl⟩ | ⟨rfl, rfl⟩
  all_goals
    go_enter Tryd.func65, Tryd.ntmps65
    go_wp2
  all_goals
    go_ret
    exact ⟨ret_bool (by simp; omega), rfl⟩
end Go.Proofs.YtcmnjmhedmneiaaDoor
