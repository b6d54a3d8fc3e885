/-
  No cell of these rows narrows 'for every input' (looked for: loops, veiled, ifaces, maps, wideKeys, modest, calm, conditions, laid).
  DERIVED. THE GIVEN ROWS OF THIS SEAT. 7 by the template 'for every input the law returns true; each argument reads behind the call as it read before'; 0 by the template 'total and deterministic' (their statements: YtdekpggfepllhaaTotals.lean).
  GIVEN WITH THE SEED: the statements are not yours to turn. If you find one false, say at which input.
  Laid BY PROGRAM, IN A SANDBOX (cutbox-rows.mjs): the forced cells as the released guide's own fill.sh prints them over the translation 1ced3e598ccc7d70… (all of the seat's roots in one cut). By AI agents, Wed Nov 11 2026. No macro, syntax, notation, axiom, sorry.
-/
import Derived.Test.YtdekpggfepllhaaChecked
import GoSem.Claim
import GoSem.ClaimJoined
import GoSem.ClaimMapViews
import Derived.JoinedTies
import Derived.KernelRfl
namespace Go.Proofs.Ytdekpggfepllhaa
/- THE CELL 'sum', in the pinned program and in every row, IS THE sha256 OF THE DUMP (.gsa) THAT YtdekpggfepllhaaProg.lean LOADS. Nothing in Lean hashes anything: it is a label: what it is worth is what the hold of that sum in a sandbox is worth. -/
noncomputable def Try.pinned : Pinned := { name := "ytdekpggfepllhaa", sum := "1ced3e598ccc7d70e3f74eb1676687078054396cbd5cb615831f006508c791c0", checked := Try.checked }
namespace Rows
def none {H : Type} : Left H := { results := [], args := [] }

/-- 'firnlaw09.ProvSums': WHATEVER THE INPUT: true; the input reads as it did. -/
def provSumsSpec : ChangeSpec := { name := "provSums", fn := fun _ => fun
  | [d1, d2] => { results := [.lit (.bool true)], args := [d1, d2] }
  | _ => none }
def provSumsRow : OpenClaim := { program := "ytdekpggfepllhaa", sum := "1ced3e598ccc7d70e3f74eb1676687078054396cbd5cb615831f006508c791c0", func := "firn/firnlaw09.ProvSums", spec := "provSums", unfollowed := true, recurses := true, apart := false }
def ProvSumsSaid : Prop := provSumsRow.holds Try.pinned (OpenSpec.ofChange provSumsSpec)

/-- ITS FALSE NEIGHBOUR: 'it returns false'. Refute it at one input. -/
def provSumsWrong : ChangeSpec := { name := "provSums", fn := fun _ => fun
  | [d1, d2] => { results := [.lit (.bool false)], args := [d1, d2] }
  | _ => none }
def ProvSumsWrongFalsely : Prop := provSumsRow.holds Try.pinned (OpenSpec.ofChange provSumsWrong)

/-- 'firnlaw09.ProvValues': WHATEVER THE INPUT: true; the input reads as it did. -/
def provValuesSpec : ChangeSpec := { name := "provValues", fn := fun _ => fun
  | [d1, d2] => { results := [.lit (.bool true)], args := [d1, d2] }
  | _ => none }
def provValuesRow : OpenClaim := { program := "ytdekpggfepllhaa", sum := "1ced3e598ccc7d70e3f74eb1676687078054396cbd5cb615831f006508c791c0", func := "firn/firnlaw09.ProvValues", spec := "provValues", unfollowed := true, recurses := true, apart := false }
def ProvValuesSaid : Prop := provValuesRow.holds Try.pinned (OpenSpec.ofChange provValuesSpec)

/-- ITS FALSE NEIGHBOUR: 'it returns false'. Refute it at one input. -/
def provValuesWrong : ChangeSpec := { name := "provValues", fn := fun _ => fun
  | [d1, d2] => { results := [.lit (.bool false)], args := [d1, d2] }
  | _ => none }
def ProvValuesWrongFalsely : Prop := provValuesRow.holds Try.pinned (OpenSpec.ofChange provValuesWrong)

/-- 'firnlaw09.ProvWhys': WHATEVER THE INPUT: true; the input reads as it did. -/
def provWhysSpec : ChangeSpec := { name := "provWhys", fn := fun _ => fun
  | [d1, d2] => { results := [.lit (.bool true)], args := [d1, d2] }
  | _ => none }
def provWhysRow : OpenClaim := { program := "ytdekpggfepllhaa", sum := "1ced3e598ccc7d70e3f74eb1676687078054396cbd5cb615831f006508c791c0", func := "firn/firnlaw09.ProvWhys", spec := "provWhys", inPlace := ["internal/bytealg.IndexByteString", "internal/bytealg.IndexString"], unfollowed := true, recurses := true, named := ["internal/bytealg.MaxLen"], apart := false }
def ProvWhysSaid : Prop := provWhysRow.holds Try.pinned (OpenSpec.ofChange provWhysSpec)

/-- ITS FALSE NEIGHBOUR: 'it returns false'. Refute it at one input. -/
def provWhysWrong : ChangeSpec := { name := "provWhys", fn := fun _ => fun
  | [d1, d2] => { results := [.lit (.bool false)], args := [d1, d2] }
  | _ => none }
def ProvWhysWrongFalsely : Prop := provWhysRow.holds Try.pinned (OpenSpec.ofChange provWhysWrong)

/-- 'firnlaw09.ProvRings': WHATEVER THE INPUT: true; the input reads as it did. -/
def provRingsSpec : ChangeSpec := { name := "provRings", fn := fun _ => fun
  | [d1, d2, d3] => { results := [.lit (.bool true)], args := [d1, d2, d3] }
  | _ => none }
def provRingsRow : OpenClaim := { program := "ytdekpggfepllhaa", sum := "1ced3e598ccc7d70e3f74eb1676687078054396cbd5cb615831f006508c791c0", func := "firn/firnlaw09.ProvRings", spec := "provRings", unfollowed := true, recurses := true, apart := false }
def ProvRingsSaid : Prop := provRingsRow.holds Try.pinned (OpenSpec.ofChange provRingsSpec)

/-- ITS FALSE NEIGHBOUR: 'it returns false'. Refute it at one input. -/
def provRingsWrong : ChangeSpec := { name := "provRings", fn := fun _ => fun
  | [d1, d2, d3] => { results := [.lit (.bool false)], args := [d1, d2, d3] }
  | _ => none }
def ProvRingsWrongFalsely : Prop := provRingsRow.holds Try.pinned (OpenSpec.ofChange provRingsWrong)

/-- 'firnlaw09.ProvNumbers': WHATEVER THE INPUT: true; the input reads as it did. -/
def provNumbersSpec : ChangeSpec := { name := "provNumbers", fn := fun _ => fun
  | [d1, d2, d3, d4] => { results := [.lit (.bool true)], args := [d1, d2, d3, d4] }
  | _ => none }
def provNumbersRow : OpenClaim := { program := "ytdekpggfepllhaa", sum := "1ced3e598ccc7d70e3f74eb1676687078054396cbd5cb615831f006508c791c0", func := "firn/firnlaw09.ProvNumbers", spec := "provNumbers", unfollowed := true, recurses := true, apart := false }
def ProvNumbersSaid : Prop := provNumbersRow.holds Try.pinned (OpenSpec.ofChange provNumbersSpec)

/-- ITS FALSE NEIGHBOUR: 'it returns false'. Refute it at one input. -/
def provNumbersWrong : ChangeSpec := { name := "provNumbers", fn := fun _ => fun
  | [d1, d2, d3, d4] => { results := [.lit (.bool false)], args := [d1, d2, d3, d4] }
  | _ => none }
def ProvNumbersWrongFalsely : Prop := provNumbersRow.holds Try.pinned (OpenSpec.ofChange provNumbersWrong)

/-- 'firnlaw09.ProvSpares': WHATEVER THE INPUT: true; the input reads as it did. -/
def provSparesSpec : ChangeSpec := { name := "provSpares", fn := fun _ => fun
  | [d1, d2, d3] => { results := [.lit (.bool true)], args := [d1, d2, d3] }
  | _ => none }
def provSparesRow : OpenClaim := { program := "ytdekpggfepllhaa", sum := "1ced3e598ccc7d70e3f74eb1676687078054396cbd5cb615831f006508c791c0", func := "firn/firnlaw09.ProvSpares", spec := "provSpares", inPlace := ["internal/bytealg.IndexByteString", "internal/bytealg.IndexString"], unfollowed := true, recurses := true, named := ["internal/bytealg.MaxLen"], apart := false }
def ProvSparesSaid : Prop := provSparesRow.holds Try.pinned (OpenSpec.ofChange provSparesSpec)

/-- ITS FALSE NEIGHBOUR: 'it returns false'. Refute it at one input. -/
def provSparesWrong : ChangeSpec := { name := "provSpares", fn := fun _ => fun
  | [d1, d2, d3] => { results := [.lit (.bool false)], args := [d1, d2, d3] }
  | _ => none }
def ProvSparesWrongFalsely : Prop := provSparesRow.holds Try.pinned (OpenSpec.ofChange provSparesWrong)

/-- 'firnlaw09.ProvSets': WHATEVER THE INPUT: true; the input reads as it did. -/
def provSetsSpec : ChangeSpec := { name := "provSets", fn := fun _ => fun
  | [d] => { results := [.lit (.bool true)], args := [d] }
  | _ => none }
def provSetsRow : OpenClaim := { program := "ytdekpggfepllhaa", sum := "1ced3e598ccc7d70e3f74eb1676687078054396cbd5cb615831f006508c791c0", func := "firn/firnlaw09.ProvSets", spec := "provSets", inPlace := ["internal/bytealg.IndexByteString"], unfollowed := true, recurses := true, apart := false }
def ProvSetsSaid : Prop := provSetsRow.holds Try.pinned (OpenSpec.ofChange provSetsSpec)

/-- ITS FALSE NEIGHBOUR: 'it returns false'. Refute it at one input. -/
def provSetsWrong : ChangeSpec := { name := "provSets", fn := fun _ => fun
  | [d] => { results := [.lit (.bool false)], args := [d] }
  | _ => none }
def ProvSetsWrongFalsely : Prop := provSetsRow.holds Try.pinned (OpenSpec.ofChange provSetsWrong)

/- THE SECOND FORM. 'bulk': how many values and letters a reading holds, each counted each time it is reached (what is shared counts as often as it is met; a slice's spare places count too). A statement '..UptoSaid' is the law's where the arguments, and the package variables that the reading takes, are together of bulk at most 1048576: NARROWER than '..Said'. Prove '..Said' where nothing that the law and all that it calls make is longer than what came in: it says more and counts as full. Else prove '..UptoSaid'. A law counts once. -/
mutual
def uptoBulk {H : Type} : DataW H → Nat
  | .lit (.string bytes) => bytes.length + 1
  | .lit _ => 1
  | .nil => 1
  | .ptr d => uptoBulk d + 1
  | .slice elems spare => uptoBulkAll elems + uptoBulkAll spare + 1
  | .agg parts => uptoBulkAll parts + 1
  | .iface _ d => uptoBulk d + 1
  | .map entries => uptoBulkEntries entries + 1
  | .held _ => 1
def uptoBulkAll {H : Type} : List (DataW H) → Nat
  | [] => 0
  | d :: r => uptoBulk d + uptoBulkAll r
def uptoBulkEntries {H : Type} : List (Lit × DataW H) → Nat
  | [] => 0
  | x :: r => uptoBulkEntry x + uptoBulkEntries r
def uptoBulkEntry {H : Type} : Lit × DataW H → Nat
  | (.string bytes, d) => bytes.length + uptoBulk d + 1
  | (_, d) => uptoBulk d + 1
 end
def uptoSmall : (H : Type) → List (DataW H) → Bool := fun _ ds => decide (uptoBulkAll ds ≤ 1048576)
def OpenSpec.upto (s : _root_.Go.ChangeSpec) : _root_.Go.OpenSpec := { _root_.Go.OpenSpec.ofChange s with cond := some uptoSmall }

/-- 'firnlaw09.ProvSums', WHERE WHAT IT READS IS OF BULK AT MOST 1048576: true; the input reads as it did. -/
def provSumsUptoRow : OpenClaim := { program := "ytdekpggfepllhaa", sum := "1ced3e598ccc7d70e3f74eb1676687078054396cbd5cb615831f006508c791c0", func := "firn/firnlaw09.ProvSums", spec := "provSums", unfollowed := true, recurses := true, apart := false, narrowed := true }
def ProvSumsUptoSaid : Prop := provSumsUptoRow.holds Try.pinned (OpenSpec.upto provSumsSpec)

/-- 'firnlaw09.ProvValues', WHERE WHAT IT READS IS OF BULK AT MOST 1048576: true; the input reads as it did. -/
def provValuesUptoRow : OpenClaim := { program := "ytdekpggfepllhaa", sum := "1ced3e598ccc7d70e3f74eb1676687078054396cbd5cb615831f006508c791c0", func := "firn/firnlaw09.ProvValues", spec := "provValues", unfollowed := true, recurses := true, apart := false, narrowed := true }
def ProvValuesUptoSaid : Prop := provValuesUptoRow.holds Try.pinned (OpenSpec.upto provValuesSpec)

/-- 'firnlaw09.ProvWhys', WHERE WHAT IT READS IS OF BULK AT MOST 1048576: true; the input reads as it did. -/
def provWhysUptoRow : OpenClaim := { program := "ytdekpggfepllhaa", sum := "1ced3e598ccc7d70e3f74eb1676687078054396cbd5cb615831f006508c791c0", func := "firn/firnlaw09.ProvWhys", spec := "provWhys", inPlace := ["internal/bytealg.IndexByteString", "internal/bytealg.IndexString"], unfollowed := true, recurses := true, named := ["internal/bytealg.MaxLen"], apart := false, narrowed := true }
def ProvWhysUptoSaid : Prop := provWhysUptoRow.holds Try.pinned (OpenSpec.upto provWhysSpec)

/-- 'firnlaw09.ProvRings', WHERE WHAT IT READS IS OF BULK AT MOST 1048576: true; the input reads as it did. -/
def provRingsUptoRow : OpenClaim := { program := "ytdekpggfepllhaa", sum := "1ced3e598ccc7d70e3f74eb1676687078054396cbd5cb615831f006508c791c0", func := "firn/firnlaw09.ProvRings", spec := "provRings", unfollowed := true, recurses := true, apart := false, narrowed := true }
def ProvRingsUptoSaid : Prop := provRingsUptoRow.holds Try.pinned (OpenSpec.upto provRingsSpec)

/-- 'firnlaw09.ProvNumbers', WHERE WHAT IT READS IS OF BULK AT MOST 1048576: true; the input reads as it did. -/
def provNumbersUptoRow : OpenClaim := { program := "ytdekpggfepllhaa", sum := "1ced3e598ccc7d70e3f74eb1676687078054396cbd5cb615831f006508c791c0", func := "firn/firnlaw09.ProvNumbers", spec := "provNumbers", unfollowed := true, recurses := true, apart := false, narrowed := true }
def ProvNumbersUptoSaid : Prop := provNumbersUptoRow.holds Try.pinned (OpenSpec.upto provNumbersSpec)

/-- 'firnlaw09.ProvSpares', WHERE WHAT IT READS IS OF BULK AT MOST 1048576: true; the input reads as it did. -/
def provSparesUptoRow : OpenClaim := { program := "ytdekpggfepllhaa", sum := "1ced3e598ccc7d70e3f74eb1676687078054396cbd5cb615831f006508c791c0", func := "firn/firnlaw09.ProvSpares", spec := "provSpares", inPlace := ["internal/bytealg.IndexByteString", "internal/bytealg.IndexString"], unfollowed := true, recurses := true, named := ["internal/bytealg.MaxLen"], apart := false, narrowed := true }
def ProvSparesUptoSaid : Prop := provSparesUptoRow.holds Try.pinned (OpenSpec.upto provSparesSpec)

/-- 'firnlaw09.ProvSets', WHERE WHAT IT READS IS OF BULK AT MOST 1048576: true; the input reads as it did. -/
def provSetsUptoRow : OpenClaim := { program := "ytdekpggfepllhaa", sum := "1ced3e598ccc7d70e3f74eb1676687078054396cbd5cb615831f006508c791c0", func := "firn/firnlaw09.ProvSets", spec := "provSets", inPlace := ["internal/bytealg.IndexByteString"], unfollowed := true, recurses := true, apart := false, narrowed := true }
def ProvSetsUptoSaid : Prop := provSetsUptoRow.holds Try.pinned (OpenSpec.upto provSetsSpec)

end Rows
end Go.Proofs.Ytdekpggfepllhaa
