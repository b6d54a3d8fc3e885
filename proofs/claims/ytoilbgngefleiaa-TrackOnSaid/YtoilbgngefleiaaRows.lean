/-
  No cell of these rows narrows 'for every input' (looked for: loops, veiled, ifaces, maps, wideKeys, modest, calm, conditions, laid).
  DERIVED. THE GIVEN ROWS OF THIS SEAT. 12 by the template 'for every input the law returns true; each argument reads behind the call as it read before'; 0 by the template 'total and deterministic' (their statements: YtoilbgngefleiaaTotals.lean).
  GIVEN WITH THE SEED: the statements are not yours to turn. If you find one false, say at which input.
  Laid BY PROGRAM, IN A SANDBOX (cutbox-rows.mjs): the forced cells as the released guide's own fill.sh prints them over the translation 0e5ce7cbcfb9f1ee… (all of the seat's roots in one cut). By AI agents, Wed Nov 11 2026. No macro, syntax, notation, axiom, sorry.
-/
import Derived.Test.YtoilbgngefleiaaChecked
import GoSem.Claim
import GoSem.ClaimJoined
import GoSem.ClaimMapViews
import Derived.JoinedTies
import Derived.KernelRfl
namespace Go.Proofs.Ytoilbgngefleiaa
/- THE CELL 'sum', in the pinned program and in every row, IS THE sha256 OF THE DUMP (.gsa) THAT YtoilbgngefleiaaProg.lean LOADS. Nothing in Lean hashes anything: it is a label: what it is worth is what the hold of that sum in a sandbox is worth. -/
noncomputable def Try.pinned : Pinned := { name := "ytoilbgngefleiaa", sum := "0e5ce7cbcfb9f1ee51fe562c5aef69c8022d4eb10812efd6dd00829886a820c1", checked := Try.checked }
namespace Rows
def none {H : Type} : Left H := { results := [], args := [] }

/-- 'firnlaw05.TrackRests': WHATEVER THE INPUT: true; the input reads as it did. -/
def trackRestsSpec : ChangeSpec := { name := "trackRests", fn := fun _ => fun
  | [d1, d2] => { results := [.lit (.bool true)], args := [d1, d2] }
  | _ => none }
def trackRestsRow : OpenClaim := { program := "ytoilbgngefleiaa", sum := "0e5ce7cbcfb9f1ee51fe562c5aef69c8022d4eb10812efd6dd00829886a820c1", func := "firn/firnlaw05.TrackRests", spec := "trackRests", unfollowed := true, recurses := true, apart := false }
def TrackRestsSaid : Prop := trackRestsRow.holds Try.pinned (OpenSpec.ofChange trackRestsSpec)

/-- ITS FALSE NEIGHBOUR: 'it returns false'. Refute it at one input. -/
def trackRestsWrong : ChangeSpec := { name := "trackRests", fn := fun _ => fun
  | [d1, d2] => { results := [.lit (.bool false)], args := [d1, d2] }
  | _ => none }
def TrackRestsWrongFalsely : Prop := trackRestsRow.holds Try.pinned (OpenSpec.ofChange trackRestsWrong)

/-- 'firnlaw05.TrackLeast': WHATEVER THE INPUT: true; the input reads as it did. -/
def trackLeastSpec : ChangeSpec := { name := "trackLeast", fn := fun _ => fun
  | [d] => { results := [.lit (.bool true)], args := [d] }
  | _ => none }
def trackLeastRow : OpenClaim := { program := "ytoilbgngefleiaa", sum := "0e5ce7cbcfb9f1ee51fe562c5aef69c8022d4eb10812efd6dd00829886a820c1", func := "firn/firnlaw05.TrackLeast", spec := "trackLeast", unfollowed := true, recurses := true, apart := false }
def TrackLeastSaid : Prop := trackLeastRow.holds Try.pinned (OpenSpec.ofChange trackLeastSpec)

/-- ITS FALSE NEIGHBOUR: 'it returns false'. Refute it at one input. -/
def trackLeastWrong : ChangeSpec := { name := "trackLeast", fn := fun _ => fun
  | [d] => { results := [.lit (.bool false)], args := [d] }
  | _ => none }
def TrackLeastWrongFalsely : Prop := trackLeastRow.holds Try.pinned (OpenSpec.ofChange trackLeastWrong)

/-- 'firnlaw05.TrackLines': WHATEVER THE INPUT: true; the input reads as it did. -/
def trackLinesSpec : ChangeSpec := { name := "trackLines", fn := fun _ => fun
  | [d] => { results := [.lit (.bool true)], args := [d] }
  | _ => none }
def trackLinesRow : OpenClaim := { program := "ytoilbgngefleiaa", sum := "0e5ce7cbcfb9f1ee51fe562c5aef69c8022d4eb10812efd6dd00829886a820c1", func := "firn/firnlaw05.TrackLines", spec := "trackLines", unfollowed := true, recurses := true, apart := false }
def TrackLinesSaid : Prop := trackLinesRow.holds Try.pinned (OpenSpec.ofChange trackLinesSpec)

/-- ITS FALSE NEIGHBOUR: 'it returns false'. Refute it at one input. -/
def trackLinesWrong : ChangeSpec := { name := "trackLines", fn := fun _ => fun
  | [d] => { results := [.lit (.bool false)], args := [d] }
  | _ => none }
def TrackLinesWrongFalsely : Prop := trackLinesRow.holds Try.pinned (OpenSpec.ofChange trackLinesWrong)

/-- 'firnlaw05.TrackProves': WHATEVER THE INPUT: true; the input reads as it did. -/
def trackProvesSpec : ChangeSpec := { name := "trackProves", fn := fun _ => fun
  | [d1, d2, d3, d4] => { results := [.lit (.bool true)], args := [d1, d2, d3, d4] }
  | _ => none }
def trackProvesRow : OpenClaim := { program := "ytoilbgngefleiaa", sum := "0e5ce7cbcfb9f1ee51fe562c5aef69c8022d4eb10812efd6dd00829886a820c1", func := "firn/firnlaw05.TrackProves", spec := "trackProves", unfollowed := true, recurses := true, apart := false }
def TrackProvesSaid : Prop := trackProvesRow.holds Try.pinned (OpenSpec.ofChange trackProvesSpec)

/-- ITS FALSE NEIGHBOUR: 'it returns false'. Refute it at one input. -/
def trackProvesWrong : ChangeSpec := { name := "trackProves", fn := fun _ => fun
  | [d1, d2, d3, d4] => { results := [.lit (.bool false)], args := [d1, d2, d3, d4] }
  | _ => none }
def TrackProvesWrongFalsely : Prop := trackProvesRow.holds Try.pinned (OpenSpec.ofChange trackProvesWrong)

/-- 'firnlaw05.TrackTells': WHATEVER THE INPUT: true; the input reads as it did. -/
def trackTellsSpec : ChangeSpec := { name := "trackTells", fn := fun _ => fun
  | [d1, d2] => { results := [.lit (.bool true)], args := [d1, d2] }
  | _ => none }
def trackTellsRow : OpenClaim := { program := "ytoilbgngefleiaa", sum := "0e5ce7cbcfb9f1ee51fe562c5aef69c8022d4eb10812efd6dd00829886a820c1", func := "firn/firnlaw05.TrackTells", spec := "trackTells", unfollowed := true, recurses := true, apart := false }
def TrackTellsSaid : Prop := trackTellsRow.holds Try.pinned (OpenSpec.ofChange trackTellsSpec)

/-- ITS FALSE NEIGHBOUR: 'it returns false'. Refute it at one input. -/
def trackTellsWrong : ChangeSpec := { name := "trackTells", fn := fun _ => fun
  | [d1, d2] => { results := [.lit (.bool false)], args := [d1, d2] }
  | _ => none }
def TrackTellsWrongFalsely : Prop := trackTellsRow.holds Try.pinned (OpenSpec.ofChange trackTellsWrong)

/-- 'firnlaw05.TrackSlopes': WHATEVER THE INPUT: true; the input reads as it did. -/
def trackSlopesSpec : ChangeSpec := { name := "trackSlopes", fn := fun _ => fun
  | [d1, d2, d3, d4] => { results := [.lit (.bool true)], args := [d1, d2, d3, d4] }
  | _ => none }
def trackSlopesRow : OpenClaim := { program := "ytoilbgngefleiaa", sum := "0e5ce7cbcfb9f1ee51fe562c5aef69c8022d4eb10812efd6dd00829886a820c1", func := "firn/firnlaw05.TrackSlopes", spec := "trackSlopes", unfollowed := true, recurses := true, apart := false }
def TrackSlopesSaid : Prop := trackSlopesRow.holds Try.pinned (OpenSpec.ofChange trackSlopesSpec)

/-- ITS FALSE NEIGHBOUR: 'it returns false'. Refute it at one input. -/
def trackSlopesWrong : ChangeSpec := { name := "trackSlopes", fn := fun _ => fun
  | [d1, d2, d3, d4] => { results := [.lit (.bool false)], args := [d1, d2, d3, d4] }
  | _ => none }
def TrackSlopesWrongFalsely : Prop := trackSlopesRow.holds Try.pinned (OpenSpec.ofChange trackSlopesWrong)

/-- 'firnlaw05.TrackCosts': WHATEVER THE INPUT: true; the input reads as it did. -/
def trackCostsSpec : ChangeSpec := { name := "trackCosts", fn := fun _ => fun
  | [d1, d2, d3, d4, d5] => { results := [.lit (.bool true)], args := [d1, d2, d3, d4, d5] }
  | _ => none }
def trackCostsRow : OpenClaim := { program := "ytoilbgngefleiaa", sum := "0e5ce7cbcfb9f1ee51fe562c5aef69c8022d4eb10812efd6dd00829886a820c1", func := "firn/firnlaw05.TrackCosts", spec := "trackCosts", unfollowed := true, recurses := true, apart := false }
def TrackCostsSaid : Prop := trackCostsRow.holds Try.pinned (OpenSpec.ofChange trackCostsSpec)

/-- ITS FALSE NEIGHBOUR: 'it returns false'. Refute it at one input. -/
def trackCostsWrong : ChangeSpec := { name := "trackCosts", fn := fun _ => fun
  | [d1, d2, d3, d4, d5] => { results := [.lit (.bool false)], args := [d1, d2, d3, d4, d5] }
  | _ => none }
def TrackCostsWrongFalsely : Prop := trackCostsRow.holds Try.pinned (OpenSpec.ofChange trackCostsWrong)

/-- 'firnlaw05.TrackWidths': WHATEVER THE INPUT: true; the input reads as it did. -/
def trackWidthsSpec : ChangeSpec := { name := "trackWidths", fn := fun _ => fun
  | [d1, d2, d3] => { results := [.lit (.bool true)], args := [d1, d2, d3] }
  | _ => none }
def trackWidthsRow : OpenClaim := { program := "ytoilbgngefleiaa", sum := "0e5ce7cbcfb9f1ee51fe562c5aef69c8022d4eb10812efd6dd00829886a820c1", func := "firn/firnlaw05.TrackWidths", spec := "trackWidths", unfollowed := true, recurses := true, apart := false }
def TrackWidthsSaid : Prop := trackWidthsRow.holds Try.pinned (OpenSpec.ofChange trackWidthsSpec)

/-- ITS FALSE NEIGHBOUR: 'it returns false'. Refute it at one input. -/
def trackWidthsWrong : ChangeSpec := { name := "trackWidths", fn := fun _ => fun
  | [d1, d2, d3] => { results := [.lit (.bool false)], args := [d1, d2, d3] }
  | _ => none }
def TrackWidthsWrongFalsely : Prop := trackWidthsRow.holds Try.pinned (OpenSpec.ofChange trackWidthsWrong)

/-- 'firnlaw05.TrackRaises': WHATEVER THE INPUT: true; the input reads as it did. -/
def trackRaisesSpec : ChangeSpec := { name := "trackRaises", fn := fun _ => fun
  | [d1, d2, d3] => { results := [.lit (.bool true)], args := [d1, d2, d3] }
  | _ => none }
def trackRaisesRow : OpenClaim := { program := "ytoilbgngefleiaa", sum := "0e5ce7cbcfb9f1ee51fe562c5aef69c8022d4eb10812efd6dd00829886a820c1", func := "firn/firnlaw05.TrackRaises", spec := "trackRaises", unfollowed := true, recurses := true, apart := false }
def TrackRaisesSaid : Prop := trackRaisesRow.holds Try.pinned (OpenSpec.ofChange trackRaisesSpec)

/-- ITS FALSE NEIGHBOUR: 'it returns false'. Refute it at one input. -/
def trackRaisesWrong : ChangeSpec := { name := "trackRaises", fn := fun _ => fun
  | [d1, d2, d3] => { results := [.lit (.bool false)], args := [d1, d2, d3] }
  | _ => none }
def TrackRaisesWrongFalsely : Prop := trackRaisesRow.holds Try.pinned (OpenSpec.ofChange trackRaisesWrong)

/-- 'firnlaw05.TrackOnes': WHATEVER THE INPUT: true; the input reads as it did. -/
def trackOnesSpec : ChangeSpec := { name := "trackOnes", fn := fun _ => fun
  | [d1, d2, d3] => { results := [.lit (.bool true)], args := [d1, d2, d3] }
  | _ => none }
def trackOnesRow : OpenClaim := { program := "ytoilbgngefleiaa", sum := "0e5ce7cbcfb9f1ee51fe562c5aef69c8022d4eb10812efd6dd00829886a820c1", func := "firn/firnlaw05.TrackOnes", spec := "trackOnes", unfollowed := true, recurses := true, apart := false }
def TrackOnesSaid : Prop := trackOnesRow.holds Try.pinned (OpenSpec.ofChange trackOnesSpec)

/-- ITS FALSE NEIGHBOUR: 'it returns false'. Refute it at one input. -/
def trackOnesWrong : ChangeSpec := { name := "trackOnes", fn := fun _ => fun
  | [d1, d2, d3] => { results := [.lit (.bool false)], args := [d1, d2, d3] }
  | _ => none }
def TrackOnesWrongFalsely : Prop := trackOnesRow.holds Try.pinned (OpenSpec.ofChange trackOnesWrong)

/-- 'firnlaw05.TrackOn': WHATEVER THE INPUT: true; the input reads as it did. -/
def trackOnSpec : ChangeSpec := { name := "trackOn", fn := fun _ => fun
  | [d1, d2] => { results := [.lit (.bool true)], args := [d1, d2] }
  | _ => none }
def trackOnRow : OpenClaim := { program := "ytoilbgngefleiaa", sum := "0e5ce7cbcfb9f1ee51fe562c5aef69c8022d4eb10812efd6dd00829886a820c1", func := "firn/firnlaw05.TrackOn", spec := "trackOn", unfollowed := true, recurses := true, apart := false }
def TrackOnSaid : Prop := trackOnRow.holds Try.pinned (OpenSpec.ofChange trackOnSpec)

/-- ITS FALSE NEIGHBOUR: 'it returns false'. Refute it at one input. -/
def trackOnWrong : ChangeSpec := { name := "trackOn", fn := fun _ => fun
  | [d1, d2] => { results := [.lit (.bool false)], args := [d1, d2] }
  | _ => none }
def TrackOnWrongFalsely : Prop := trackOnRow.holds Try.pinned (OpenSpec.ofChange trackOnWrong)

/-- 'firntop.TopTrack': WHATEVER THE INPUT: true; the input reads as it did. -/
def topTrackSpec : ChangeSpec := { name := "topTrack", fn := fun _ => fun
  | [d1, d2, d3, d4] => { results := [.lit (.bool true)], args := [d1, d2, d3, d4] }
  | _ => none }
def topTrackRow : OpenClaim := { program := "ytoilbgngefleiaa", sum := "0e5ce7cbcfb9f1ee51fe562c5aef69c8022d4eb10812efd6dd00829886a820c1", func := "firn/firntop.TopTrack", spec := "topTrack", unfollowed := true, recurses := true, apart := false }
def TopTrackSaid : Prop := topTrackRow.holds Try.pinned (OpenSpec.ofChange topTrackSpec)

/-- ITS FALSE NEIGHBOUR: 'it returns false'. Refute it at one input. -/
def topTrackWrong : ChangeSpec := { name := "topTrack", fn := fun _ => fun
  | [d1, d2, d3, d4] => { results := [.lit (.bool false)], args := [d1, d2, d3, d4] }
  | _ => none }
def TopTrackWrongFalsely : Prop := topTrackRow.holds Try.pinned (OpenSpec.ofChange topTrackWrong)

/- THE SECOND FORM. 'bulk': how many values and letters a reading holds, each counted each time it is reached (what is shared counts as often as it is met; a slice's spare places count too). A statement '..UptoSaid' is the law's where the arguments, and the package variables that the reading takes, are together of bulk at most 1048576: NARROWER than '..Said'. Prove '..Said' where nothing that the law and all that it calls make is longer than what came in: it says more and counts as full. Else prove '..UptoSaid'. A law counts once. -/
mutual
def uptoBulk {H : Type} : DataW H → Nat
  | .lit (.string bytes) => bytes.length + 1
  | .lit _ => 1
  | .nil => 1
  | .ptr d => uptoBulk d + 1
  | .slice elems spare => uptoBulkAll elems + uptoBulkAll spare + 1
  | .agg parts => uptoBulkAll parts + 1
  | .iface _ d => uptoBulk d + 1
  | .map entries => uptoBulkEntries entries + 1
  | .held _ => 1
def uptoBulkAll {H : Type} : List (DataW H) → Nat
  | [] => 0
  | d :: r => uptoBulk d + uptoBulkAll r
def uptoBulkEntries {H : Type} : List (Lit × DataW H) → Nat
  | [] => 0
  | x :: r => uptoBulkEntry x + uptoBulkEntries r
def uptoBulkEntry {H : Type} : Lit × DataW H → Nat
  | (.string bytes, d) => bytes.length + uptoBulk d + 1
  | (_, d) => uptoBulk d + 1
 end
def uptoSmall : (H : Type) → List (DataW H) → Bool := fun _ ds => decide (uptoBulkAll ds ≤ 1048576)
def OpenSpec.upto (s : _root_.Go.ChangeSpec) : _root_.Go.OpenSpec := { _root_.Go.OpenSpec.ofChange s with cond := some uptoSmall }

/-- 'firnlaw05.TrackRests', WHERE WHAT IT READS IS OF BULK AT MOST 1048576: true; the input reads as it did. -/
def trackRestsUptoRow : OpenClaim := { program := "ytoilbgngefleiaa", sum := "0e5ce7cbcfb9f1ee51fe562c5aef69c8022d4eb10812efd6dd00829886a820c1", func := "firn/firnlaw05.TrackRests", spec := "trackRests", unfollowed := true, recurses := true, apart := false, narrowed := true }
def TrackRestsUptoSaid : Prop := trackRestsUptoRow.holds Try.pinned (OpenSpec.upto trackRestsSpec)

/-- 'firnlaw05.TrackLeast', WHERE WHAT IT READS IS OF BULK AT MOST 1048576: true; the input reads as it did. -/
def trackLeastUptoRow : OpenClaim := { program := "ytoilbgngefleiaa", sum := "0e5ce7cbcfb9f1ee51fe562c5aef69c8022d4eb10812efd6dd00829886a820c1", func := "firn/firnlaw05.TrackLeast", spec := "trackLeast", unfollowed := true, recurses := true, apart := false, narrowed := true }
def TrackLeastUptoSaid : Prop := trackLeastUptoRow.holds Try.pinned (OpenSpec.upto trackLeastSpec)

/-- 'firnlaw05.TrackLines', WHERE WHAT IT READS IS OF BULK AT MOST 1048576: true; the input reads as it did. -/
def trackLinesUptoRow : OpenClaim := { program := "ytoilbgngefleiaa", sum := "0e5ce7cbcfb9f1ee51fe562c5aef69c8022d4eb10812efd6dd00829886a820c1", func := "firn/firnlaw05.TrackLines", spec := "trackLines", unfollowed := true, recurses := true, apart := false, narrowed := true }
def TrackLinesUptoSaid : Prop := trackLinesUptoRow.holds Try.pinned (OpenSpec.upto trackLinesSpec)

/-- 'firnlaw05.TrackProves', WHERE WHAT IT READS IS OF BULK AT MOST 1048576: true; the input reads as it did. -/
def trackProvesUptoRow : OpenClaim := { program := "ytoilbgngefleiaa", sum := "0e5ce7cbcfb9f1ee51fe562c5aef69c8022d4eb10812efd6dd00829886a820c1", func := "firn/firnlaw05.TrackProves", spec := "trackProves", unfollowed := true, recurses := true, apart := false, narrowed := true }
def TrackProvesUptoSaid : Prop := trackProvesUptoRow.holds Try.pinned (OpenSpec.upto trackProvesSpec)

/-- 'firnlaw05.TrackTells', WHERE WHAT IT READS IS OF BULK AT MOST 1048576: true; the input reads as it did. -/
def trackTellsUptoRow : OpenClaim := { program := "ytoilbgngefleiaa", sum := "0e5ce7cbcfb9f1ee51fe562c5aef69c8022d4eb10812efd6dd00829886a820c1", func := "firn/firnlaw05.TrackTells", spec := "trackTells", unfollowed := true, recurses := true, apart := false, narrowed := true }
def TrackTellsUptoSaid : Prop := trackTellsUptoRow.holds Try.pinned (OpenSpec.upto trackTellsSpec)

/-- 'firnlaw05.TrackSlopes', WHERE WHAT IT READS IS OF BULK AT MOST 1048576: true; the input reads as it did. -/
def trackSlopesUptoRow : OpenClaim := { program := "ytoilbgngefleiaa", sum := "0e5ce7cbcfb9f1ee51fe562c5aef69c8022d4eb10812efd6dd00829886a820c1", func := "firn/firnlaw05.TrackSlopes", spec := "trackSlopes", unfollowed := true, recurses := true, apart := false, narrowed := true }
def TrackSlopesUptoSaid : Prop := trackSlopesUptoRow.holds Try.pinned (OpenSpec.upto trackSlopesSpec)

/-- 'firnlaw05.TrackCosts', WHERE WHAT IT READS IS OF BULK AT MOST 1048576: true; the input reads as it did. -/
def trackCostsUptoRow : OpenClaim := { program := "ytoilbgngefleiaa", sum := "0e5ce7cbcfb9f1ee51fe562c5aef69c8022d4eb10812efd6dd00829886a820c1", func := "firn/firnlaw05.TrackCosts", spec := "trackCosts", unfollowed := true, recurses := true, apart := false, narrowed := true }
def TrackCostsUptoSaid : Prop := trackCostsUptoRow.holds Try.pinned (OpenSpec.upto trackCostsSpec)

/-- 'firnlaw05.TrackWidths', WHERE WHAT IT READS IS OF BULK AT MOST 1048576: true; the input reads as it did. -/
def trackWidthsUptoRow : OpenClaim := { program := "ytoilbgngefleiaa", sum := "0e5ce7cbcfb9f1ee51fe562c5aef69c8022d4eb10812efd6dd00829886a820c1", func := "firn/firnlaw05.TrackWidths", spec := "trackWidths", unfollowed := true, recurses := true, apart := false, narrowed := true }
def TrackWidthsUptoSaid : Prop := trackWidthsUptoRow.holds Try.pinned (OpenSpec.upto trackWidthsSpec)

/-- 'firnlaw05.TrackRaises', WHERE WHAT IT READS IS OF BULK AT MOST 1048576: true; the input reads as it did. -/
def trackRaisesUptoRow : OpenClaim := { program := "ytoilbgngefleiaa", sum := "0e5ce7cbcfb9f1ee51fe562c5aef69c8022d4eb10812efd6dd00829886a820c1", func := "firn/firnlaw05.TrackRaises", spec := "trackRaises", unfollowed := true, recurses := true, apart := false, narrowed := true }
def TrackRaisesUptoSaid : Prop := trackRaisesUptoRow.holds Try.pinned (OpenSpec.upto trackRaisesSpec)

/-- 'firnlaw05.TrackOnes', WHERE WHAT IT READS IS OF BULK AT MOST 1048576: true; the input reads as it did. -/
def trackOnesUptoRow : OpenClaim := { program := "ytoilbgngefleiaa", sum := "0e5ce7cbcfb9f1ee51fe562c5aef69c8022d4eb10812efd6dd00829886a820c1", func := "firn/firnlaw05.TrackOnes", spec := "trackOnes", unfollowed := true, recurses := true, apart := false, narrowed := true }
def TrackOnesUptoSaid : Prop := trackOnesUptoRow.holds Try.pinned (OpenSpec.upto trackOnesSpec)

/-- 'firnlaw05.TrackOn', WHERE WHAT IT READS IS OF BULK AT MOST 1048576: true; the input reads as it did. -/
def trackOnUptoRow : OpenClaim := { program := "ytoilbgngefleiaa", sum := "0e5ce7cbcfb9f1ee51fe562c5aef69c8022d4eb10812efd6dd00829886a820c1", func := "firn/firnlaw05.TrackOn", spec := "trackOn", unfollowed := true, recurses := true, apart := false, narrowed := true }
def TrackOnUptoSaid : Prop := trackOnUptoRow.holds Try.pinned (OpenSpec.upto trackOnSpec)

/-- 'firntop.TopTrack', WHERE WHAT IT READS IS OF BULK AT MOST 1048576: true; the input reads as it did. -/
def topTrackUptoRow : OpenClaim := { program := "ytoilbgngefleiaa", sum := "0e5ce7cbcfb9f1ee51fe562c5aef69c8022d4eb10812efd6dd00829886a820c1", func := "firn/firntop.TopTrack", spec := "topTrack", unfollowed := true, recurses := true, apart := false, narrowed := true }
def TopTrackUptoSaid : Prop := topTrackUptoRow.holds Try.pinned (OpenSpec.upto topTrackSpec)

end Rows
end Go.Proofs.Ytoilbgngefleiaa
