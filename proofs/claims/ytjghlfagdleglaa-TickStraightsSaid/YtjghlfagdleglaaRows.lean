/-
  No cell of these rows narrows 'for every input' (looked for: loops, veiled, ifaces, maps, wideKeys, modest, calm, conditions, laid).
  DERIVED. THE GIVEN ROWS OF THIS SEAT. 11 by the template 'for every input the law returns true; each argument reads behind the call as it read before'; 0 by the template 'total and deterministic' (their statements: YtjghlfagdleglaaTotals.lean).
  GIVEN WITH THE SEED: the statements are not yours to turn. If you find one false, say at which input.
  Laid BY PROGRAM, IN A SANDBOX (cutbox-rows.mjs): the forced cells as the released guide's own fill.sh prints them over the translation 3af188804b05e7f4… (all of the seat's roots in one cut). By AI agents, Wed Nov 11 2026. No macro, syntax, notation, axiom, sorry.
-/
import Derived.Test.YtjghlfagdleglaaChecked
import GoSem.Claim
import GoSem.ClaimJoined
import GoSem.ClaimMapViews
import Derived.JoinedTies
import Derived.KernelRfl
namespace Go.Proofs.Ytjghlfagdleglaa
/- THE CELL 'sum', in the pinned program and in every row, IS THE sha256 OF THE DUMP (.gsa) THAT YtjghlfagdleglaaProg.lean LOADS. Nothing in Lean hashes anything: it is a label: what it is worth is what the hold of that sum in a sandbox is worth. -/
noncomputable def Try.pinned : Pinned := { name := "ytjghlfagdleglaa", sum := "3af188804b05e7f4962696a2711d9bf8d46a24d0473e6d5838574a1b38774832", checked := Try.checked }
namespace Rows
def none {H : Type} : Left H := { results := [], args := [] }

/-- 'firnlaw01.TickCounts': WHATEVER THE INPUT: true; the input reads as it did. -/
def tickCountsSpec : ChangeSpec := { name := "tickCounts", fn := fun _ => fun
  | [d1, d2, d3] => { results := [.lit (.bool true)], args := [d1, d2, d3] }
  | _ => none }
def tickCountsRow : OpenClaim := { program := "ytjghlfagdleglaa", sum := "3af188804b05e7f4962696a2711d9bf8d46a24d0473e6d5838574a1b38774832", func := "firn/firnlaw01.TickCounts", spec := "tickCounts", apart := false }
def TickCountsSaid : Prop := tickCountsRow.holds Try.pinned (OpenSpec.ofChange tickCountsSpec)

/-- ITS FALSE NEIGHBOUR: 'it returns false'. Refute it at one input. -/
def tickCountsWrong : ChangeSpec := { name := "tickCounts", fn := fun _ => fun
  | [d1, d2, d3] => { results := [.lit (.bool false)], args := [d1, d2, d3] }
  | _ => none }
def TickCountsWrongFalsely : Prop := tickCountsRow.holds Try.pinned (OpenSpec.ofChange tickCountsWrong)

/-- 'firnlaw01.TickTimes': WHATEVER THE INPUT: true; the input reads as it did. -/
def tickTimesSpec : ChangeSpec := { name := "tickTimes", fn := fun _ => fun
  | [d1, d2, d3] => { results := [.lit (.bool true)], args := [d1, d2, d3] }
  | _ => none }
def tickTimesRow : OpenClaim := { program := "ytjghlfagdleglaa", sum := "3af188804b05e7f4962696a2711d9bf8d46a24d0473e6d5838574a1b38774832", func := "firn/firnlaw01.TickTimes", spec := "tickTimes", unfollowed := true, recurses := true, apart := false }
def TickTimesSaid : Prop := tickTimesRow.holds Try.pinned (OpenSpec.ofChange tickTimesSpec)

/-- ITS FALSE NEIGHBOUR: 'it returns false'. Refute it at one input. -/
def tickTimesWrong : ChangeSpec := { name := "tickTimes", fn := fun _ => fun
  | [d1, d2, d3] => { results := [.lit (.bool false)], args := [d1, d2, d3] }
  | _ => none }
def TickTimesWrongFalsely : Prop := tickTimesRow.holds Try.pinned (OpenSpec.ofChange tickTimesWrong)

/-- 'firnlaw01.TickOthers': WHATEVER THE INPUT: true; the input reads as it did. -/
def tickOthersSpec : ChangeSpec := { name := "tickOthers", fn := fun _ => fun
  | [d1, d2] => { results := [.lit (.bool true)], args := [d1, d2] }
  | _ => none }
def tickOthersRow : OpenClaim := { program := "ytjghlfagdleglaa", sum := "3af188804b05e7f4962696a2711d9bf8d46a24d0473e6d5838574a1b38774832", func := "firn/firnlaw01.TickOthers", spec := "tickOthers", unfollowed := true, recurses := true, apart := false }
def TickOthersSaid : Prop := tickOthersRow.holds Try.pinned (OpenSpec.ofChange tickOthersSpec)

/-- ITS FALSE NEIGHBOUR: 'it returns false'. Refute it at one input. -/
def tickOthersWrong : ChangeSpec := { name := "tickOthers", fn := fun _ => fun
  | [d1, d2] => { results := [.lit (.bool false)], args := [d1, d2] }
  | _ => none }
def TickOthersWrongFalsely : Prop := tickOthersRow.holds Try.pinned (OpenSpec.ofChange tickOthersWrong)

/-- 'firnlaw01.TickApart': WHATEVER THE INPUT: true; the input reads as it did. -/
def tickApartSpec : ChangeSpec := { name := "tickApart", fn := fun _ => fun
  | [d1, d2, d3, d4] => { results := [.lit (.bool true)], args := [d1, d2, d3, d4] }
  | _ => none }
def tickApartRow : OpenClaim := { program := "ytjghlfagdleglaa", sum := "3af188804b05e7f4962696a2711d9bf8d46a24d0473e6d5838574a1b38774832", func := "firn/firnlaw01.TickApart", spec := "tickApart", unfollowed := true, recurses := true, apart := false }
def TickApartSaid : Prop := tickApartRow.holds Try.pinned (OpenSpec.ofChange tickApartSpec)

/-- ITS FALSE NEIGHBOUR: 'it returns false'. Refute it at one input. -/
def tickApartWrong : ChangeSpec := { name := "tickApart", fn := fun _ => fun
  | [d1, d2, d3, d4] => { results := [.lit (.bool false)], args := [d1, d2, d3, d4] }
  | _ => none }
def TickApartWrongFalsely : Prop := tickApartRow.holds Try.pinned (OpenSpec.ofChange tickApartWrong)

/-- 'firnlaw01.TickRounds': WHATEVER THE INPUT: true; the input reads as it did. -/
def tickRoundsSpec : ChangeSpec := { name := "tickRounds", fn := fun _ => fun
  | [d1, d2] => { results := [.lit (.bool true)], args := [d1, d2] }
  | _ => none }
def tickRoundsRow : OpenClaim := { program := "ytjghlfagdleglaa", sum := "3af188804b05e7f4962696a2711d9bf8d46a24d0473e6d5838574a1b38774832", func := "firn/firnlaw01.TickRounds", spec := "tickRounds", apart := false }
def TickRoundsSaid : Prop := tickRoundsRow.holds Try.pinned (OpenSpec.ofChange tickRoundsSpec)

/-- ITS FALSE NEIGHBOUR: 'it returns false'. Refute it at one input. -/
def tickRoundsWrong : ChangeSpec := { name := "tickRounds", fn := fun _ => fun
  | [d1, d2] => { results := [.lit (.bool false)], args := [d1, d2] }
  | _ => none }
def TickRoundsWrongFalsely : Prop := tickRoundsRow.holds Try.pinned (OpenSpec.ofChange tickRoundsWrong)

/-- 'firnlaw01.TickReads': WHATEVER THE INPUT: true; the input reads as it did. -/
def tickReadsSpec : ChangeSpec := { name := "tickReads", fn := fun _ => fun
  | [d1, d2] => { results := [.lit (.bool true)], args := [d1, d2] }
  | _ => none }
def tickReadsRow : OpenClaim := { program := "ytjghlfagdleglaa", sum := "3af188804b05e7f4962696a2711d9bf8d46a24d0473e6d5838574a1b38774832", func := "firn/firnlaw01.TickReads", spec := "tickReads", apart := false }
def TickReadsSaid : Prop := tickReadsRow.holds Try.pinned (OpenSpec.ofChange tickReadsSpec)

/-- ITS FALSE NEIGHBOUR: 'it returns false'. Refute it at one input. -/
def tickReadsWrong : ChangeSpec := { name := "tickReads", fn := fun _ => fun
  | [d1, d2] => { results := [.lit (.bool false)], args := [d1, d2] }
  | _ => none }
def TickReadsWrongFalsely : Prop := tickReadsRow.holds Try.pinned (OpenSpec.ofChange tickReadsWrong)

/-- 'firnlaw01.TickBacks': WHATEVER THE INPUT: true; the input reads as it did. -/
def tickBacksSpec : ChangeSpec := { name := "tickBacks", fn := fun _ => fun
  | [d1, d2] => { results := [.lit (.bool true)], args := [d1, d2] }
  | _ => none }
def tickBacksRow : OpenClaim := { program := "ytjghlfagdleglaa", sum := "3af188804b05e7f4962696a2711d9bf8d46a24d0473e6d5838574a1b38774832", func := "firn/firnlaw01.TickBacks", spec := "tickBacks", unfollowed := true, recurses := true, apart := false }
def TickBacksSaid : Prop := tickBacksRow.holds Try.pinned (OpenSpec.ofChange tickBacksSpec)

/-- ITS FALSE NEIGHBOUR: 'it returns false'. Refute it at one input. -/
def tickBacksWrong : ChangeSpec := { name := "tickBacks", fn := fun _ => fun
  | [d1, d2] => { results := [.lit (.bool false)], args := [d1, d2] }
  | _ => none }
def TickBacksWrongFalsely : Prop := tickBacksRow.holds Try.pinned (OpenSpec.ofChange tickBacksWrong)

/-- 'firnlaw01.TickGrows': WHATEVER THE INPUT: true; the input reads as it did. -/
def tickGrowsSpec : ChangeSpec := { name := "tickGrows", fn := fun _ => fun
  | [d1, d2] => { results := [.lit (.bool true)], args := [d1, d2] }
  | _ => none }
def tickGrowsRow : OpenClaim := { program := "ytjghlfagdleglaa", sum := "3af188804b05e7f4962696a2711d9bf8d46a24d0473e6d5838574a1b38774832", func := "firn/firnlaw01.TickGrows", spec := "tickGrows", unfollowed := true, recurses := true, apart := false }
def TickGrowsSaid : Prop := tickGrowsRow.holds Try.pinned (OpenSpec.ofChange tickGrowsSpec)

/-- ITS FALSE NEIGHBOUR: 'it returns false'. Refute it at one input. -/
def tickGrowsWrong : ChangeSpec := { name := "tickGrows", fn := fun _ => fun
  | [d1, d2] => { results := [.lit (.bool false)], args := [d1, d2] }
  | _ => none }
def TickGrowsWrongFalsely : Prop := tickGrowsRow.holds Try.pinned (OpenSpec.ofChange tickGrowsWrong)

/-- 'firnlaw01.TickMoves': WHATEVER THE INPUT: true; the input reads as it did. -/
def tickMovesSpec : ChangeSpec := { name := "tickMoves", fn := fun _ => fun
  | [d1, d2, d3] => { results := [.lit (.bool true)], args := [d1, d2, d3] }
  | _ => none }
def tickMovesRow : OpenClaim := { program := "ytjghlfagdleglaa", sum := "3af188804b05e7f4962696a2711d9bf8d46a24d0473e6d5838574a1b38774832", func := "firn/firnlaw01.TickMoves", spec := "tickMoves", unfollowed := true, recurses := true, apart := false }
def TickMovesSaid : Prop := tickMovesRow.holds Try.pinned (OpenSpec.ofChange tickMovesSpec)

/-- ITS FALSE NEIGHBOUR: 'it returns false'. Refute it at one input. -/
def tickMovesWrong : ChangeSpec := { name := "tickMoves", fn := fun _ => fun
  | [d1, d2, d3] => { results := [.lit (.bool false)], args := [d1, d2, d3] }
  | _ => none }
def TickMovesWrongFalsely : Prop := tickMovesRow.holds Try.pinned (OpenSpec.ofChange tickMovesWrong)

/-- 'firnlaw01.TickStraights': WHATEVER THE INPUT: true; the input reads as it did. -/
def tickStraightsSpec : ChangeSpec := { name := "tickStraights", fn := fun _ => fun
  | [d1, d2] => { results := [.lit (.bool true)], args := [d1, d2] }
  | _ => none }
def tickStraightsRow : OpenClaim := { program := "ytjghlfagdleglaa", sum := "3af188804b05e7f4962696a2711d9bf8d46a24d0473e6d5838574a1b38774832", func := "firn/firnlaw01.TickStraights", spec := "tickStraights", unfollowed := true, recurses := true, apart := false }
def TickStraightsSaid : Prop := tickStraightsRow.holds Try.pinned (OpenSpec.ofChange tickStraightsSpec)

/-- ITS FALSE NEIGHBOUR: 'it returns false'. Refute it at one input. -/
def tickStraightsWrong : ChangeSpec := { name := "tickStraights", fn := fun _ => fun
  | [d1, d2] => { results := [.lit (.bool false)], args := [d1, d2] }
  | _ => none }
def TickStraightsWrongFalsely : Prop := tickStraightsRow.holds Try.pinned (OpenSpec.ofChange tickStraightsWrong)

/-- 'firnlaw01.TickFar': WHATEVER THE INPUT: true; the input reads as it did. -/
def tickFarSpec : ChangeSpec := { name := "tickFar", fn := fun _ => fun
  | [d1, d2, d3, d4, d5] => { results := [.lit (.bool true)], args := [d1, d2, d3, d4, d5] }
  | _ => none }
def tickFarRow : OpenClaim := { program := "ytjghlfagdleglaa", sum := "3af188804b05e7f4962696a2711d9bf8d46a24d0473e6d5838574a1b38774832", func := "firn/firnlaw01.TickFar", spec := "tickFar", unfollowed := true, recurses := true, apart := false }
def TickFarSaid : Prop := tickFarRow.holds Try.pinned (OpenSpec.ofChange tickFarSpec)

/-- ITS FALSE NEIGHBOUR: 'it returns false'. Refute it at one input. -/
def tickFarWrong : ChangeSpec := { name := "tickFar", fn := fun _ => fun
  | [d1, d2, d3, d4, d5] => { results := [.lit (.bool false)], args := [d1, d2, d3, d4, d5] }
  | _ => none }
def TickFarWrongFalsely : Prop := tickFarRow.holds Try.pinned (OpenSpec.ofChange tickFarWrong)

/- THE SECOND FORM. 'bulk': how many values and letters a reading holds, each counted each time it is reached (what is shared counts as often as it is met; a slice's spare places count too). A statement '..UptoSaid' is the law's where the arguments, and the package variables that the reading takes, are together of bulk at most 1048576: NARROWER than '..Said'. Prove '..Said' where nothing that the law and all that it calls make is longer than what came in: it says more and counts as full. Else prove '..UptoSaid'. A law counts once. -/
mutual
def uptoBulk {H : Type} : DataW H → Nat
  | .lit (.string bytes) => bytes.length + 1
  | .lit _ => 1
  | .nil => 1
  | .ptr d => uptoBulk d + 1
  | .slice elems spare => uptoBulkAll elems + uptoBulkAll spare + 1
  | .agg parts => uptoBulkAll parts + 1
  | .iface _ d => uptoBulk d + 1
  | .map entries => uptoBulkEntries entries + 1
  | .held _ => 1
def uptoBulkAll {H : Type} : List (DataW H) → Nat
  | [] => 0
  | d :: r => uptoBulk d + uptoBulkAll r
def uptoBulkEntries {H : Type} : List (Lit × DataW H) → Nat
  | [] => 0
  | x :: r => uptoBulkEntry x + uptoBulkEntries r
def uptoBulkEntry {H : Type} : Lit × DataW H → Nat
  | (.string bytes, d) => bytes.length + uptoBulk d + 1
  | (_, d) => uptoBulk d + 1
 end
def uptoSmall : (H : Type) → List (DataW H) → Bool := fun _ ds => decide (uptoBulkAll ds ≤ 1048576)
def OpenSpec.upto (s : _root_.Go.ChangeSpec) : _root_.Go.OpenSpec := { _root_.Go.OpenSpec.ofChange s with cond := some uptoSmall }

/-- 'firnlaw01.TickCounts', WHERE WHAT IT READS IS OF BULK AT MOST 1048576: true; the input reads as it did. -/
def tickCountsUptoRow : OpenClaim := { program := "ytjghlfagdleglaa", sum := "3af188804b05e7f4962696a2711d9bf8d46a24d0473e6d5838574a1b38774832", func := "firn/firnlaw01.TickCounts", spec := "tickCounts", apart := false, narrowed := true }
def TickCountsUptoSaid : Prop := tickCountsUptoRow.holds Try.pinned (OpenSpec.upto tickCountsSpec)

/-- 'firnlaw01.TickTimes', WHERE WHAT IT READS IS OF BULK AT MOST 1048576: true; the input reads as it did. -/
def tickTimesUptoRow : OpenClaim := { program := "ytjghlfagdleglaa", sum := "3af188804b05e7f4962696a2711d9bf8d46a24d0473e6d5838574a1b38774832", func := "firn/firnlaw01.TickTimes", spec := "tickTimes", unfollowed := true, recurses := true, apart := false, narrowed := true }
def TickTimesUptoSaid : Prop := tickTimesUptoRow.holds Try.pinned (OpenSpec.upto tickTimesSpec)

/-- 'firnlaw01.TickOthers', WHERE WHAT IT READS IS OF BULK AT MOST 1048576: true; the input reads as it did. -/
def tickOthersUptoRow : OpenClaim := { program := "ytjghlfagdleglaa", sum := "3af188804b05e7f4962696a2711d9bf8d46a24d0473e6d5838574a1b38774832", func := "firn/firnlaw01.TickOthers", spec := "tickOthers", unfollowed := true, recurses := true, apart := false, narrowed := true }
def TickOthersUptoSaid : Prop := tickOthersUptoRow.holds Try.pinned (OpenSpec.upto tickOthersSpec)

/-- 'firnlaw01.TickApart', WHERE WHAT IT READS IS OF BULK AT MOST 1048576: true; the input reads as it did. -/
def tickApartUptoRow : OpenClaim := { program := "ytjghlfagdleglaa", sum := "3af188804b05e7f4962696a2711d9bf8d46a24d0473e6d5838574a1b38774832", func := "firn/firnlaw01.TickApart", spec := "tickApart", unfollowed := true, recurses := true, apart := false, narrowed := true }
def TickApartUptoSaid : Prop := tickApartUptoRow.holds Try.pinned (OpenSpec.upto tickApartSpec)

/-- 'firnlaw01.TickRounds', WHERE WHAT IT READS IS OF BULK AT MOST 1048576: true; the input reads as it did. -/
def tickRoundsUptoRow : OpenClaim := { program := "ytjghlfagdleglaa", sum := "3af188804b05e7f4962696a2711d9bf8d46a24d0473e6d5838574a1b38774832", func := "firn/firnlaw01.TickRounds", spec := "tickRounds", apart := false, narrowed := true }
def TickRoundsUptoSaid : Prop := tickRoundsUptoRow.holds Try.pinned (OpenSpec.upto tickRoundsSpec)

/-- 'firnlaw01.TickReads', WHERE WHAT IT READS IS OF BULK AT MOST 1048576: true; the input reads as it did. -/
def tickReadsUptoRow : OpenClaim := { program := "ytjghlfagdleglaa", sum := "3af188804b05e7f4962696a2711d9bf8d46a24d0473e6d5838574a1b38774832", func := "firn/firnlaw01.TickReads", spec := "tickReads", apart := false, narrowed := true }
def TickReadsUptoSaid : Prop := tickReadsUptoRow.holds Try.pinned (OpenSpec.upto tickReadsSpec)

/-- 'firnlaw01.TickBacks', WHERE WHAT IT READS IS OF BULK AT MOST 1048576: true; the input reads as it did. -/
def tickBacksUptoRow : OpenClaim := { program := "ytjghlfagdleglaa", sum := "3af188804b05e7f4962696a2711d9bf8d46a24d0473e6d5838574a1b38774832", func := "firn/firnlaw01.TickBacks", spec := "tickBacks", unfollowed := true, recurses := true, apart := false, narrowed := true }
def TickBacksUptoSaid : Prop := tickBacksUptoRow.holds Try.pinned (OpenSpec.upto tickBacksSpec)

/-- 'firnlaw01.TickGrows', WHERE WHAT IT READS IS OF BULK AT MOST 1048576: true; the input reads as it did. -/
def tickGrowsUptoRow : OpenClaim := { program := "ytjghlfagdleglaa", sum := "3af188804b05e7f4962696a2711d9bf8d46a24d0473e6d5838574a1b38774832", func := "firn/firnlaw01.TickGrows", spec := "tickGrows", unfollowed := true, recurses := true, apart := false, narrowed := true }
def TickGrowsUptoSaid : Prop := tickGrowsUptoRow.holds Try.pinned (OpenSpec.upto tickGrowsSpec)

/-- 'firnlaw01.TickMoves', WHERE WHAT IT READS IS OF BULK AT MOST 1048576: true; the input reads as it did. -/
def tickMovesUptoRow : OpenClaim := { program := "ytjghlfagdleglaa", sum := "3af188804b05e7f4962696a2711d9bf8d46a24d0473e6d5838574a1b38774832", func := "firn/firnlaw01.TickMoves", spec := "tickMoves", unfollowed := true, recurses := true, apart := false, narrowed := true }
def TickMovesUptoSaid : Prop := tickMovesUptoRow.holds Try.pinned (OpenSpec.upto tickMovesSpec)

/-- 'firnlaw01.TickStraights', WHERE WHAT IT READS IS OF BULK AT MOST 1048576: true; the input reads as it did. -/
def tickStraightsUptoRow : OpenClaim := { program := "ytjghlfagdleglaa", sum := "3af188804b05e7f4962696a2711d9bf8d46a24d0473e6d5838574a1b38774832", func := "firn/firnlaw01.TickStraights", spec := "tickStraights", unfollowed := true, recurses := true, apart := false, narrowed := true }
def TickStraightsUptoSaid : Prop := tickStraightsUptoRow.holds Try.pinned (OpenSpec.upto tickStraightsSpec)

/-- 'firnlaw01.TickFar', WHERE WHAT IT READS IS OF BULK AT MOST 1048576: true; the input reads as it did. -/
def tickFarUptoRow : OpenClaim := { program := "ytjghlfagdleglaa", sum := "3af188804b05e7f4962696a2711d9bf8d46a24d0473e6d5838574a1b38774832", func := "firn/firnlaw01.TickFar", spec := "tickFar", unfollowed := true, recurses := true, apart := false, narrowed := true }
def TickFarUptoSaid : Prop := tickFarUptoRow.holds Try.pinned (OpenSpec.upto tickFarSpec)

end Rows
end Go.Proofs.Ytjghlfagdleglaa
