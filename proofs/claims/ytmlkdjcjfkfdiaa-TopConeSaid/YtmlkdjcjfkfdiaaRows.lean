/-
  No cell of these rows narrows 'for every input' (looked for: loops, veiled, ifaces, maps, wideKeys, modest, calm, conditions, laid).
  DERIVED. THE GIVEN ROWS OF THIS SEAT. 12 by the template 'for every input the law returns true; each argument reads behind the call as it read before'; 0 by the template 'total and deterministic' (their statements: YtmlkdjcjfkfdiaaTotals.lean).
  GIVEN WITH THE SEED: the statements are not yours to turn. If you find one false, say at which input.
  Laid BY PROGRAM, IN A SANDBOX (cutbox-rows.mjs): the forced cells as the released guide's own fill.sh prints them over the translation 5fd2293c3e873c3c… (all of the seat's roots in one cut). By AI agents, Wed Nov 11 2026. No macro, syntax, notation, axiom, sorry.
-/
import Derived.Test.YtmlkdjcjfkfdiaaChecked
import GoSem.Claim
import GoSem.ClaimJoined
import GoSem.ClaimMapViews
import Derived.JoinedTies
import Derived.KernelRfl
namespace Go.Proofs.Ytmlkdjcjfkfdiaa
/- THE CELL 'sum', in the pinned program and in every row, IS THE sha256 OF THE DUMP (.gsa) THAT YtmlkdjcjfkfdiaaProg.lean LOADS. Nothing in Lean hashes anything: it is a label: what it is worth is what the hold of that sum in a sandbox is worth. -/
noncomputable def Try.pinned : Pinned := { name := "ytmlkdjcjfkfdiaa", sum := "5fd2293c3e873c3c4784fd17a174854c86ec5d447740c85b7013512cb9126268", checked := Try.checked }
namespace Rows
def none {H : Type} : Left H := { results := [], args := [] }

/-- 'firnlaw02.ConeBefores': WHATEVER THE INPUT: true; the input reads as it did. -/
def coneBeforesSpec : ChangeSpec := { name := "coneBefores", fn := fun _ => fun
  | [d1, d2, d3] => { results := [.lit (.bool true)], args := [d1, d2, d3] }
  | _ => none }
def coneBeforesRow : OpenClaim := { program := "ytmlkdjcjfkfdiaa", sum := "5fd2293c3e873c3c4784fd17a174854c86ec5d447740c85b7013512cb9126268", func := "firn/firnlaw02.ConeBefores", spec := "coneBefores", unfollowed := true, recurses := true, plainKeys := false, apart := false }
def ConeBeforesSaid : Prop := coneBeforesRow.holds Try.pinned (OpenSpec.ofChange coneBeforesSpec)

/-- ITS FALSE NEIGHBOUR: 'it returns false'. Refute it at one input. -/
def coneBeforesWrong : ChangeSpec := { name := "coneBefores", fn := fun _ => fun
  | [d1, d2, d3] => { results := [.lit (.bool false)], args := [d1, d2, d3] }
  | _ => none }
def ConeBeforesWrongFalsely : Prop := coneBeforesRow.holds Try.pinned (OpenSpec.ofChange coneBeforesWrong)

/-- 'firnlaw02.ConeChains': WHATEVER THE INPUT: true; the input reads as it did. -/
def coneChainsSpec : ChangeSpec := { name := "coneChains", fn := fun _ => fun
  | [d1, d2] => { results := [.lit (.bool true)], args := [d1, d2] }
  | _ => none }
def coneChainsRow : OpenClaim := { program := "ytmlkdjcjfkfdiaa", sum := "5fd2293c3e873c3c4784fd17a174854c86ec5d447740c85b7013512cb9126268", func := "firn/firnlaw02.ConeChains", spec := "coneChains", unfollowed := true, recurses := true, plainKeys := false, apart := false }
def ConeChainsSaid : Prop := coneChainsRow.holds Try.pinned (OpenSpec.ofChange coneChainsSpec)

/-- ITS FALSE NEIGHBOUR: 'it returns false'. Refute it at one input. -/
def coneChainsWrong : ChangeSpec := { name := "coneChains", fn := fun _ => fun
  | [d1, d2] => { results := [.lit (.bool false)], args := [d1, d2] }
  | _ => none }
def ConeChainsWrongFalsely : Prop := coneChainsRow.holds Try.pinned (OpenSpec.ofChange coneChainsWrong)

/-- 'firnlaw02.ConeLayers': WHATEVER THE INPUT: true; the input reads as it did. -/
def coneLayersSpec : ChangeSpec := { name := "coneLayers", fn := fun _ => fun
  | [d1, d2] => { results := [.lit (.bool true)], args := [d1, d2] }
  | _ => none }
def coneLayersRow : OpenClaim := { program := "ytmlkdjcjfkfdiaa", sum := "5fd2293c3e873c3c4784fd17a174854c86ec5d447740c85b7013512cb9126268", func := "firn/firnlaw02.ConeLayers", spec := "coneLayers", unfollowed := true, recurses := true, plainKeys := false, apart := false }
def ConeLayersSaid : Prop := coneLayersRow.holds Try.pinned (OpenSpec.ofChange coneLayersSpec)

/-- ITS FALSE NEIGHBOUR: 'it returns false'. Refute it at one input. -/
def coneLayersWrong : ChangeSpec := { name := "coneLayers", fn := fun _ => fun
  | [d1, d2] => { results := [.lit (.bool false)], args := [d1, d2] }
  | _ => none }
def ConeLayersWrongFalsely : Prop := coneLayersRow.holds Try.pinned (OpenSpec.ofChange coneLayersWrong)

/-- 'firnlaw02.ConeLayer': WHATEVER THE INPUT: true; the input reads as it did. -/
def coneLayerSpec : ChangeSpec := { name := "coneLayer", fn := fun _ => fun
  | [d1, d2] => { results := [.lit (.bool true)], args := [d1, d2] }
  | _ => none }
def coneLayerRow : OpenClaim := { program := "ytmlkdjcjfkfdiaa", sum := "5fd2293c3e873c3c4784fd17a174854c86ec5d447740c85b7013512cb9126268", func := "firn/firnlaw02.ConeLayer", spec := "coneLayer", unfollowed := true, recurses := true, plainKeys := false, apart := false }
def ConeLayerSaid : Prop := coneLayerRow.holds Try.pinned (OpenSpec.ofChange coneLayerSpec)

/-- ITS FALSE NEIGHBOUR: 'it returns false'. Refute it at one input. -/
def coneLayerWrong : ChangeSpec := { name := "coneLayer", fn := fun _ => fun
  | [d1, d2] => { results := [.lit (.bool false)], args := [d1, d2] }
  | _ => none }
def ConeLayerWrongFalsely : Prop := coneLayerRow.holds Try.pinned (OpenSpec.ofChange coneLayerWrong)

/-- 'firnlaw02.ConeThreads': WHATEVER THE INPUT: true; the input reads as it did. -/
def coneThreadsSpec : ChangeSpec := { name := "coneThreads", fn := fun _ => fun
  | [d1, d2] => { results := [.lit (.bool true)], args := [d1, d2] }
  | _ => none }
def coneThreadsRow : OpenClaim := { program := "ytmlkdjcjfkfdiaa", sum := "5fd2293c3e873c3c4784fd17a174854c86ec5d447740c85b7013512cb9126268", func := "firn/firnlaw02.ConeThreads", spec := "coneThreads", unfollowed := true, recurses := true, plainKeys := false, apart := false }
def ConeThreadsSaid : Prop := coneThreadsRow.holds Try.pinned (OpenSpec.ofChange coneThreadsSpec)

/-- ITS FALSE NEIGHBOUR: 'it returns false'. Refute it at one input. -/
def coneThreadsWrong : ChangeSpec := { name := "coneThreads", fn := fun _ => fun
  | [d1, d2] => { results := [.lit (.bool false)], args := [d1, d2] }
  | _ => none }
def ConeThreadsWrongFalsely : Prop := coneThreadsRow.holds Try.pinned (OpenSpec.ofChange coneThreadsWrong)

/-- 'firnlaw02.ConeTriggers': WHATEVER THE INPUT: true; the input reads as it did. -/
def coneTriggersSpec : ChangeSpec := { name := "coneTriggers", fn := fun _ => fun
  | [d1, d2, d3] => { results := [.lit (.bool true)], args := [d1, d2, d3] }
  | _ => none }
def coneTriggersRow : OpenClaim := { program := "ytmlkdjcjfkfdiaa", sum := "5fd2293c3e873c3c4784fd17a174854c86ec5d447740c85b7013512cb9126268", func := "firn/firnlaw02.ConeTriggers", spec := "coneTriggers", unfollowed := true, recurses := true, plainKeys := false, apart := false }
def ConeTriggersSaid : Prop := coneTriggersRow.holds Try.pinned (OpenSpec.ofChange coneTriggersSpec)

/-- ITS FALSE NEIGHBOUR: 'it returns false'. Refute it at one input. -/
def coneTriggersWrong : ChangeSpec := { name := "coneTriggers", fn := fun _ => fun
  | [d1, d2, d3] => { results := [.lit (.bool false)], args := [d1, d2, d3] }
  | _ => none }
def ConeTriggersWrongFalsely : Prop := coneTriggersRow.holds Try.pinned (OpenSpec.ofChange coneTriggersWrong)

/-- 'firnlaw02.ConeMoves': WHATEVER THE INPUT: true; the input reads as it did. -/
def coneMovesSpec : ChangeSpec := { name := "coneMoves", fn := fun _ => fun
  | [d1, d2, d3] => { results := [.lit (.bool true)], args := [d1, d2, d3] }
  | _ => none }
def coneMovesRow : OpenClaim := { program := "ytmlkdjcjfkfdiaa", sum := "5fd2293c3e873c3c4784fd17a174854c86ec5d447740c85b7013512cb9126268", func := "firn/firnlaw02.ConeMoves", spec := "coneMoves", unfollowed := true, recurses := true, plainKeys := false, apart := false }
def ConeMovesSaid : Prop := coneMovesRow.holds Try.pinned (OpenSpec.ofChange coneMovesSpec)

/-- ITS FALSE NEIGHBOUR: 'it returns false'. Refute it at one input. -/
def coneMovesWrong : ChangeSpec := { name := "coneMoves", fn := fun _ => fun
  | [d1, d2, d3] => { results := [.lit (.bool false)], args := [d1, d2, d3] }
  | _ => none }
def ConeMovesWrongFalsely : Prop := coneMovesRow.holds Try.pinned (OpenSpec.ofChange coneMovesWrong)

/-- 'firnlaw02.ConeBoth': WHATEVER THE INPUT: true; the input reads as it did. -/
def coneBothSpec : ChangeSpec := { name := "coneBoth", fn := fun _ => fun
  | [d1, d2, d3] => { results := [.lit (.bool true)], args := [d1, d2, d3] }
  | _ => none }
def coneBothRow : OpenClaim := { program := "ytmlkdjcjfkfdiaa", sum := "5fd2293c3e873c3c4784fd17a174854c86ec5d447740c85b7013512cb9126268", func := "firn/firnlaw02.ConeBoth", spec := "coneBoth", unfollowed := true, recurses := true, plainKeys := false, apart := false }
def ConeBothSaid : Prop := coneBothRow.holds Try.pinned (OpenSpec.ofChange coneBothSpec)

/-- ITS FALSE NEIGHBOUR: 'it returns false'. Refute it at one input. -/
def coneBothWrong : ChangeSpec := { name := "coneBoth", fn := fun _ => fun
  | [d1, d2, d3] => { results := [.lit (.bool false)], args := [d1, d2, d3] }
  | _ => none }
def ConeBothWrongFalsely : Prop := coneBothRow.holds Try.pinned (OpenSpec.ofChange coneBothWrong)

/-- 'firnlaw02.ConeOrders': WHATEVER THE INPUT: true; the input reads as it did. -/
def coneOrdersSpec : ChangeSpec := { name := "coneOrders", fn := fun _ => fun
  | [d1, d2] => { results := [.lit (.bool true)], args := [d1, d2] }
  | _ => none }
def coneOrdersRow : OpenClaim := { program := "ytmlkdjcjfkfdiaa", sum := "5fd2293c3e873c3c4784fd17a174854c86ec5d447740c85b7013512cb9126268", func := "firn/firnlaw02.ConeOrders", spec := "coneOrders", unfollowed := true, recurses := true, plainKeys := false, apart := false }
def ConeOrdersSaid : Prop := coneOrdersRow.holds Try.pinned (OpenSpec.ofChange coneOrdersSpec)

/-- ITS FALSE NEIGHBOUR: 'it returns false'. Refute it at one input. -/
def coneOrdersWrong : ChangeSpec := { name := "coneOrders", fn := fun _ => fun
  | [d1, d2] => { results := [.lit (.bool false)], args := [d1, d2] }
  | _ => none }
def ConeOrdersWrongFalsely : Prop := coneOrdersRow.holds Try.pinned (OpenSpec.ofChange coneOrdersWrong)

/-- 'firnlaw02.ConeTurns': WHATEVER THE INPUT: true; the input reads as it did. -/
def coneTurnsSpec : ChangeSpec := { name := "coneTurns", fn := fun _ => fun
  | [d1, d2, d3] => { results := [.lit (.bool true)], args := [d1, d2, d3] }
  | _ => none }
def coneTurnsRow : OpenClaim := { program := "ytmlkdjcjfkfdiaa", sum := "5fd2293c3e873c3c4784fd17a174854c86ec5d447740c85b7013512cb9126268", func := "firn/firnlaw02.ConeTurns", spec := "coneTurns", unfollowed := true, recurses := true, plainKeys := false, apart := false }
def ConeTurnsSaid : Prop := coneTurnsRow.holds Try.pinned (OpenSpec.ofChange coneTurnsSpec)

/-- ITS FALSE NEIGHBOUR: 'it returns false'. Refute it at one input. -/
def coneTurnsWrong : ChangeSpec := { name := "coneTurns", fn := fun _ => fun
  | [d1, d2, d3] => { results := [.lit (.bool false)], args := [d1, d2, d3] }
  | _ => none }
def ConeTurnsWrongFalsely : Prop := coneTurnsRow.holds Try.pinned (OpenSpec.ofChange coneTurnsWrong)

/-- 'firnlaw02.ConeTimes': WHATEVER THE INPUT: true; the input reads as it did. -/
def coneTimesSpec : ChangeSpec := { name := "coneTimes", fn := fun _ => fun
  | [d1, d2, d3] => { results := [.lit (.bool true)], args := [d1, d2, d3] }
  | _ => none }
def coneTimesRow : OpenClaim := { program := "ytmlkdjcjfkfdiaa", sum := "5fd2293c3e873c3c4784fd17a174854c86ec5d447740c85b7013512cb9126268", func := "firn/firnlaw02.ConeTimes", spec := "coneTimes", unfollowed := true, recurses := true, plainKeys := false, apart := false }
def ConeTimesSaid : Prop := coneTimesRow.holds Try.pinned (OpenSpec.ofChange coneTimesSpec)

/-- ITS FALSE NEIGHBOUR: 'it returns false'. Refute it at one input. -/
def coneTimesWrong : ChangeSpec := { name := "coneTimes", fn := fun _ => fun
  | [d1, d2, d3] => { results := [.lit (.bool false)], args := [d1, d2, d3] }
  | _ => none }
def ConeTimesWrongFalsely : Prop := coneTimesRow.holds Try.pinned (OpenSpec.ofChange coneTimesWrong)

/-- 'firntop.TopCone': WHATEVER THE INPUT: true; the input reads as it did. -/
def topConeSpec : ChangeSpec := { name := "topCone", fn := fun _ => fun
  | [d1, d2, d3] => { results := [.lit (.bool true)], args := [d1, d2, d3] }
  | _ => none }
def topConeRow : OpenClaim := { program := "ytmlkdjcjfkfdiaa", sum := "5fd2293c3e873c3c4784fd17a174854c86ec5d447740c85b7013512cb9126268", func := "firn/firntop.TopCone", spec := "topCone", unfollowed := true, recurses := true, plainKeys := false, apart := false }
def TopConeSaid : Prop := topConeRow.holds Try.pinned (OpenSpec.ofChange topConeSpec)

/-- ITS FALSE NEIGHBOUR: 'it returns false'. Refute it at one input. -/
def topConeWrong : ChangeSpec := { name := "topCone", fn := fun _ => fun
  | [d1, d2, d3] => { results := [.lit (.bool false)], args := [d1, d2, d3] }
  | _ => none }
def TopConeWrongFalsely : Prop := topConeRow.holds Try.pinned (OpenSpec.ofChange topConeWrong)

/- THE SECOND FORM. 'bulk': how many values and letters a reading holds, each counted each time it is reached (what is shared counts as often as it is met; a slice's spare places count too). A statement '..UptoSaid' is the law's where the arguments, and the package variables that the reading takes, are together of bulk at most 1048576: NARROWER than '..Said'. Prove '..Said' where nothing that the law and all that it calls make is longer than what came in: it says more and counts as full. Else prove '..UptoSaid'. A law counts once. -/
mutual
def uptoBulk {H : Type} : DataW H → Nat
  | .lit (.string bytes) => bytes.length + 1
  | .lit _ => 1
  | .nil => 1
  | .ptr d => uptoBulk d + 1
  | .slice elems spare => uptoBulkAll elems + uptoBulkAll spare + 1
  | .agg parts => uptoBulkAll parts + 1
  | .iface _ d => uptoBulk d + 1
  | .map entries => uptoBulkEntries entries + 1
  | .held _ => 1
def uptoBulkAll {H : Type} : List (DataW H) → Nat
  | [] => 0
  | d :: r => uptoBulk d + uptoBulkAll r
def uptoBulkEntries {H : Type} : List (Lit × DataW H) → Nat
  | [] => 0
  | x :: r => uptoBulkEntry x + uptoBulkEntries r
def uptoBulkEntry {H : Type} : Lit × DataW H → Nat
  | (.string bytes, d) => bytes.length + uptoBulk d + 1
  | (_, d) => uptoBulk d + 1
 end
def uptoSmall : (H : Type) → List (DataW H) → Bool := fun _ ds => decide (uptoBulkAll ds ≤ 1048576)
def OpenSpec.upto (s : _root_.Go.ChangeSpec) : _root_.Go.OpenSpec := { _root_.Go.OpenSpec.ofChange s with cond := some uptoSmall }

/-- 'firnlaw02.ConeBefores', WHERE WHAT IT READS IS OF BULK AT MOST 1048576: true; the input reads as it did. -/
def coneBeforesUptoRow : OpenClaim := { program := "ytmlkdjcjfkfdiaa", sum := "5fd2293c3e873c3c4784fd17a174854c86ec5d447740c85b7013512cb9126268", func := "firn/firnlaw02.ConeBefores", spec := "coneBefores", unfollowed := true, recurses := true, plainKeys := false, apart := false, narrowed := true }
def ConeBeforesUptoSaid : Prop := coneBeforesUptoRow.holds Try.pinned (OpenSpec.upto coneBeforesSpec)

/-- 'firnlaw02.ConeChains', WHERE WHAT IT READS IS OF BULK AT MOST 1048576: true; the input reads as it did. -/
def coneChainsUptoRow : OpenClaim := { program := "ytmlkdjcjfkfdiaa", sum := "5fd2293c3e873c3c4784fd17a174854c86ec5d447740c85b7013512cb9126268", func := "firn/firnlaw02.ConeChains", spec := "coneChains", unfollowed := true, recurses := true, plainKeys := false, apart := false, narrowed := true }
def ConeChainsUptoSaid : Prop := coneChainsUptoRow.holds Try.pinned (OpenSpec.upto coneChainsSpec)

/-- 'firnlaw02.ConeLayers', WHERE WHAT IT READS IS OF BULK AT MOST 1048576: true; the input reads as it did. -/
def coneLayersUptoRow : OpenClaim := { program := "ytmlkdjcjfkfdiaa", sum := "5fd2293c3e873c3c4784fd17a174854c86ec5d447740c85b7013512cb9126268", func := "firn/firnlaw02.ConeLayers", spec := "coneLayers", unfollowed := true, recurses := true, plainKeys := false, apart := false, narrowed := true }
def ConeLayersUptoSaid : Prop := coneLayersUptoRow.holds Try.pinned (OpenSpec.upto coneLayersSpec)

/-- 'firnlaw02.ConeLayer', WHERE WHAT IT READS IS OF BULK AT MOST 1048576: true; the input reads as it did. -/
def coneLayerUptoRow : OpenClaim := { program := "ytmlkdjcjfkfdiaa", sum := "5fd2293c3e873c3c4784fd17a174854c86ec5d447740c85b7013512cb9126268", func := "firn/firnlaw02.ConeLayer", spec := "coneLayer", unfollowed := true, recurses := true, plainKeys := false, apart := false, narrowed := true }
def ConeLayerUptoSaid : Prop := coneLayerUptoRow.holds Try.pinned (OpenSpec.upto coneLayerSpec)

/-- 'firnlaw02.ConeThreads', WHERE WHAT IT READS IS OF BULK AT MOST 1048576: true; the input reads as it did. -/
def coneThreadsUptoRow : OpenClaim := { program := "ytmlkdjcjfkfdiaa", sum := "5fd2293c3e873c3c4784fd17a174854c86ec5d447740c85b7013512cb9126268", func := "firn/firnlaw02.ConeThreads", spec := "coneThreads", unfollowed := true, recurses := true, plainKeys := false, apart := false, narrowed := true }
def ConeThreadsUptoSaid : Prop := coneThreadsUptoRow.holds Try.pinned (OpenSpec.upto coneThreadsSpec)

/-- 'firnlaw02.ConeTriggers', WHERE WHAT IT READS IS OF BULK AT MOST 1048576: true; the input reads as it did. -/
def coneTriggersUptoRow : OpenClaim := { program := "ytmlkdjcjfkfdiaa", sum := "5fd2293c3e873c3c4784fd17a174854c86ec5d447740c85b7013512cb9126268", func := "firn/firnlaw02.ConeTriggers", spec := "coneTriggers", unfollowed := true, recurses := true, plainKeys := false, apart := false, narrowed := true }
def ConeTriggersUptoSaid : Prop := coneTriggersUptoRow.holds Try.pinned (OpenSpec.upto coneTriggersSpec)

/-- 'firnlaw02.ConeMoves', WHERE WHAT IT READS IS OF BULK AT MOST 1048576: true; the input reads as it did. -/
def coneMovesUptoRow : OpenClaim := { program := "ytmlkdjcjfkfdiaa", sum := "5fd2293c3e873c3c4784fd17a174854c86ec5d447740c85b7013512cb9126268", func := "firn/firnlaw02.ConeMoves", spec := "coneMoves", unfollowed := true, recurses := true, plainKeys := false, apart := false, narrowed := true }
def ConeMovesUptoSaid : Prop := coneMovesUptoRow.holds Try.pinned (OpenSpec.upto coneMovesSpec)

/-- 'firnlaw02.ConeBoth', WHERE WHAT IT READS IS OF BULK AT MOST 1048576: true; the input reads as it did. -/
def coneBothUptoRow : OpenClaim := { program := "ytmlkdjcjfkfdiaa", sum := "5fd2293c3e873c3c4784fd17a174854c86ec5d447740c85b7013512cb9126268", func := "firn/firnlaw02.ConeBoth", spec := "coneBoth", unfollowed := true, recurses := true, plainKeys := false, apart := false, narrowed := true }
def ConeBothUptoSaid : Prop := coneBothUptoRow.holds Try.pinned (OpenSpec.upto coneBothSpec)

/-- 'firnlaw02.ConeOrders', WHERE WHAT IT READS IS OF BULK AT MOST 1048576: true; the input reads as it did. -/
def coneOrdersUptoRow : OpenClaim := { program := "ytmlkdjcjfkfdiaa", sum := "5fd2293c3e873c3c4784fd17a174854c86ec5d447740c85b7013512cb9126268", func := "firn/firnlaw02.ConeOrders", spec := "coneOrders", unfollowed := true, recurses := true, plainKeys := false, apart := false, narrowed := true }
def ConeOrdersUptoSaid : Prop := coneOrdersUptoRow.holds Try.pinned (OpenSpec.upto coneOrdersSpec)

/-- 'firnlaw02.ConeTurns', WHERE WHAT IT READS IS OF BULK AT MOST 1048576: true; the input reads as it did. -/
def coneTurnsUptoRow : OpenClaim := { program := "ytmlkdjcjfkfdiaa", sum := "5fd2293c3e873c3c4784fd17a174854c86ec5d447740c85b7013512cb9126268", func := "firn/firnlaw02.ConeTurns", spec := "coneTurns", unfollowed := true, recurses := true, plainKeys := false, apart := false, narrowed := true }
def ConeTurnsUptoSaid : Prop := coneTurnsUptoRow.holds Try.pinned (OpenSpec.upto coneTurnsSpec)

/-- 'firnlaw02.ConeTimes', WHERE WHAT IT READS IS OF BULK AT MOST 1048576: true; the input reads as it did. -/
def coneTimesUptoRow : OpenClaim := { program := "ytmlkdjcjfkfdiaa", sum := "5fd2293c3e873c3c4784fd17a174854c86ec5d447740c85b7013512cb9126268", func := "firn/firnlaw02.ConeTimes", spec := "coneTimes", unfollowed := true, recurses := true, plainKeys := false, apart := false, narrowed := true }
def ConeTimesUptoSaid : Prop := coneTimesUptoRow.holds Try.pinned (OpenSpec.upto coneTimesSpec)

/-- 'firntop.TopCone', WHERE WHAT IT READS IS OF BULK AT MOST 1048576: true; the input reads as it did. -/
def topConeUptoRow : OpenClaim := { program := "ytmlkdjcjfkfdiaa", sum := "5fd2293c3e873c3c4784fd17a174854c86ec5d447740c85b7013512cb9126268", func := "firn/firntop.TopCone", spec := "topCone", unfollowed := true, recurses := true, plainKeys := false, apart := false, narrowed := true }
def TopConeUptoSaid : Prop := topConeUptoRow.holds Try.pinned (OpenSpec.upto topConeSpec)

end Rows
end Go.Proofs.Ytmlkdjcjfkfdiaa
