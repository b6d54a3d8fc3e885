/-
  A region that draws its order, whose operations only read and whose callees leave all old cells as they are: one walk in the order of the text.
-/
import Derived.Test.YtoilbgngefleiaaBase
namespace Go.Proofs.Ytoilbgngefleiaa
open Go Go.RowKit

/-- A world in which all that is old in w is as it was. -/
structure Gw (w : World) where
  v : World
  h : Below w.heap.size w v
instance gwNonempty (w : World) : Nonempty (Gw w) := ⟨⟨w, Below.refl _ _⟩⟩
theorem Gw.cell {w : World} (g : Gw w) {b o : Nat} (hb : b < w.heap.size) : g.v.cell? ⟨b, o, none⟩ = w.cell? ⟨b, o, none⟩ := g.h.cell (p := ⟨b, o, none⟩) hb
theorem wp_region_grow {P : Program} {id : Nat} {Q : Exit → Act → World → Prop} {a : Act} {w : World} {L : List Oper} (hm : P.follows .mixedOrders = true) (hB : Region.lexB .any L.toArray = true)
    (h : wpQuiet P L.toArray (fun w' => ∃ g : Gw w, w' = g.v) (fun a' => ∀ w', (∃ g : Gw w, w' = g.v) → Q .normal a' w') L a) : (Code.region id L.toArray true).wp P Q a w :=
  wp_region_quiet (C := fun w' => ∃ g : Gw w, w' = g.v) hm hB ⟨⟨_, below_drewN (Below.refl _ _) 1⟩, rfl⟩ (by simpa using h)
/-- A callee's contract within such a region. -/
theorem Calls.grow_of {P : Program} {f : FuncId} {args : Array Value} {w : World} {g : Gw w} {v : Value}
    (h : Calls P f args g.v fun e w' => e = .returned v ∧ Below g.v.heap.size g.v w') : Calls P f args g.v fun e w'' => e = .returned v ∧ ∃ g' : Gw w, w'' = g'.v :=
  h.mono fun _ w' ⟨he, hb⟩ => ⟨he, ⟨w', g.h.trans (hb.mono g.h.size)⟩, rfl⟩
theorem Calls.grow_same {P : Program} {f : FuncId} {args : Array Value} {w : World} {g : Gw w} {v : Value}
    (h : Calls P f args g.v fun e w' => e = .returned v ∧ g.v = w') : Calls P f args g.v fun e w'' => e = .returned v ∧ ∃ g' : Gw w, w'' = g'.v :=
  h.mono fun _ _ ⟨he, hb⟩ => ⟨he, g, hb.symm⟩
end Go.Proofs.Ytoilbgngefleiaa
