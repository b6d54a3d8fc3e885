/-
  No cell of these rows narrows 'for every input' (looked for: loops, veiled, ifaces, maps, wideKeys, modest, calm, conditions, laid).
  DERIVED. THE GIVEN ROWS OF THIS SEAT. 15 by the template 'for every input the law returns true; each argument reads behind the call as it read before'; 0 by the template 'total and deterministic' (their statements: YtnnfnphmieikmaaTotals.lean).
  GIVEN WITH THE SEED: the statements are not yours to turn. If you find one false, say at which input.
  Laid BY PROGRAM, IN A SANDBOX (cutbox-rows.mjs): the forced cells as the released guide's own fill.sh prints them over the translation 1c38722ef59cf449… (all of the seat's roots in one cut). By AI agents, Wed Nov 11 2026. No macro, syntax, notation, axiom, sorry.
-/
import Derived.Test.YtnnfnphmieikmaaChecked
import GoSem.Claim
import GoSem.ClaimJoined
import GoSem.ClaimMapViews
import Derived.JoinedTies
import Derived.KernelRfl
namespace Go.Proofs.Ytnnfnphmieikmaa
/- THE CELL 'sum', in the pinned program and in every row, IS THE sha256 OF THE DUMP (.gsa) THAT YtnnfnphmieikmaaProg.lean LOADS. Nothing in Lean hashes anything: it is a label: what it is worth is what the hold of that sum in a sandbox is worth. -/
noncomputable def Try.pinned : Pinned := { name := "ytnnfnphmieikmaa", sum := "1c38722ef59cf449cb546214db8ba55ac0fad7d49a8f06aee11464d08fa1696d", checked := Try.checked }
namespace Rows
def none {H : Type} : Left H := { results := [], args := [] }

/-- 'firnlaw06.SkyNumbers': WHATEVER THE INPUT: true; the input reads as it did. -/
def skyNumbersSpec : ChangeSpec := { name := "skyNumbers", fn := fun _ => fun
  | [d1, d2] => { results := [.lit (.bool true)], args := [d1, d2] }
  | _ => none }
def skyNumbersRow : OpenClaim := { program := "ytnnfnphmieikmaa", sum := "1c38722ef59cf449cb546214db8ba55ac0fad7d49a8f06aee11464d08fa1696d", func := "firn/firnlaw06.SkyNumbers", spec := "skyNumbers", unfollowed := true, recurses := true, apart := false }
def SkyNumbersSaid : Prop := skyNumbersRow.holds Try.pinned (OpenSpec.ofChange skyNumbersSpec)

/-- ITS FALSE NEIGHBOUR: 'it returns false'. Refute it at one input. -/
def skyNumbersWrong : ChangeSpec := { name := "skyNumbers", fn := fun _ => fun
  | [d1, d2] => { results := [.lit (.bool false)], args := [d1, d2] }
  | _ => none }
def SkyNumbersWrongFalsely : Prop := skyNumbersRow.holds Try.pinned (OpenSpec.ofChange skyNumbersWrong)

/-- 'firnlaw06.SkyNested': WHATEVER THE INPUT: true; the input reads as it did. -/
def skyNestedSpec : ChangeSpec := { name := "skyNested", fn := fun _ => fun
  | [d1, d2, d3] => { results := [.lit (.bool true)], args := [d1, d2, d3] }
  | _ => none }
def skyNestedRow : OpenClaim := { program := "ytnnfnphmieikmaa", sum := "1c38722ef59cf449cb546214db8ba55ac0fad7d49a8f06aee11464d08fa1696d", func := "firn/firnlaw06.SkyNested", spec := "skyNested", unfollowed := true, recurses := true, apart := false }
def SkyNestedSaid : Prop := skyNestedRow.holds Try.pinned (OpenSpec.ofChange skyNestedSpec)

/-- ITS FALSE NEIGHBOUR: 'it returns false'. Refute it at one input. -/
def skyNestedWrong : ChangeSpec := { name := "skyNested", fn := fun _ => fun
  | [d1, d2, d3] => { results := [.lit (.bool false)], args := [d1, d2, d3] }
  | _ => none }
def SkyNestedWrongFalsely : Prop := skyNestedRow.holds Try.pinned (OpenSpec.ofChange skyNestedWrong)

/-- 'firnlaw06.SkyRings': WHATEVER THE INPUT: true; the input reads as it did. -/
def skyRingsSpec : ChangeSpec := { name := "skyRings", fn := fun _ => fun
  | [d1, d2] => { results := [.lit (.bool true)], args := [d1, d2] }
  | _ => none }
def skyRingsRow : OpenClaim := { program := "ytnnfnphmieikmaa", sum := "1c38722ef59cf449cb546214db8ba55ac0fad7d49a8f06aee11464d08fa1696d", func := "firn/firnlaw06.SkyRings", spec := "skyRings", unfollowed := true, recurses := true, apart := false }
def SkyRingsSaid : Prop := skyRingsRow.holds Try.pinned (OpenSpec.ofChange skyRingsSpec)

/-- ITS FALSE NEIGHBOUR: 'it returns false'. Refute it at one input. -/
def skyRingsWrong : ChangeSpec := { name := "skyRings", fn := fun _ => fun
  | [d1, d2] => { results := [.lit (.bool false)], args := [d1, d2] }
  | _ => none }
def SkyRingsWrongFalsely : Prop := skyRingsRow.holds Try.pinned (OpenSpec.ofChange skyRingsWrong)

/-- 'firnlaw06.SkyNests': WHATEVER THE INPUT: true; the input reads as it did. -/
def skyNestsSpec : ChangeSpec := { name := "skyNests", fn := fun _ => fun
  | [d1, d2, d3] => { results := [.lit (.bool true)], args := [d1, d2, d3] }
  | _ => none }
def skyNestsRow : OpenClaim := { program := "ytnnfnphmieikmaa", sum := "1c38722ef59cf449cb546214db8ba55ac0fad7d49a8f06aee11464d08fa1696d", func := "firn/firnlaw06.SkyNests", spec := "skyNests", unfollowed := true, recurses := true, apart := false }
def SkyNestsSaid : Prop := skyNestsRow.holds Try.pinned (OpenSpec.ofChange skyNestsSpec)

/-- ITS FALSE NEIGHBOUR: 'it returns false'. Refute it at one input. -/
def skyNestsWrong : ChangeSpec := { name := "skyNests", fn := fun _ => fun
  | [d1, d2, d3] => { results := [.lit (.bool false)], args := [d1, d2, d3] }
  | _ => none }
def SkyNestsWrongFalsely : Prop := skyNestsRow.holds Try.pinned (OpenSpec.ofChange skyNestsWrong)

/-- 'firnlaw06.SkySets': WHATEVER THE INPUT: true; the input reads as it did. -/
def skySetsSpec : ChangeSpec := { name := "skySets", fn := fun _ => fun
  | [d1, d2] => { results := [.lit (.bool true)], args := [d1, d2] }
  | _ => none }
def skySetsRow : OpenClaim := { program := "ytnnfnphmieikmaa", sum := "1c38722ef59cf449cb546214db8ba55ac0fad7d49a8f06aee11464d08fa1696d", func := "firn/firnlaw06.SkySets", spec := "skySets", unfollowed := true, recurses := true, apart := false }
def SkySetsSaid : Prop := skySetsRow.holds Try.pinned (OpenSpec.ofChange skySetsSpec)

/-- ITS FALSE NEIGHBOUR: 'it returns false'. Refute it at one input. -/
def skySetsWrong : ChangeSpec := { name := "skySets", fn := fun _ => fun
  | [d1, d2] => { results := [.lit (.bool false)], args := [d1, d2] }
  | _ => none }
def SkySetsWrongFalsely : Prop := skySetsRow.holds Try.pinned (OpenSpec.ofChange skySetsWrong)

/-- 'firnlaw06.SkyPairs': WHATEVER THE INPUT: true; the input reads as it did. -/
def skyPairsSpec : ChangeSpec := { name := "skyPairs", fn := fun _ => fun
  | [d1, d2] => { results := [.lit (.bool true)], args := [d1, d2] }
  | _ => none }
def skyPairsRow : OpenClaim := { program := "ytnnfnphmieikmaa", sum := "1c38722ef59cf449cb546214db8ba55ac0fad7d49a8f06aee11464d08fa1696d", func := "firn/firnlaw06.SkyPairs", spec := "skyPairs", unfollowed := true, recurses := true, apart := false }
def SkyPairsSaid : Prop := skyPairsRow.holds Try.pinned (OpenSpec.ofChange skyPairsSpec)

/-- ITS FALSE NEIGHBOUR: 'it returns false'. Refute it at one input. -/
def skyPairsWrong : ChangeSpec := { name := "skyPairs", fn := fun _ => fun
  | [d1, d2] => { results := [.lit (.bool false)], args := [d1, d2] }
  | _ => none }
def SkyPairsWrongFalsely : Prop := skyPairsRow.holds Try.pinned (OpenSpec.ofChange skyPairsWrong)

/-- 'firnlaw06.SkyCoarse': WHATEVER THE INPUT: true; the input reads as it did. -/
def skyCoarseSpec : ChangeSpec := { name := "skyCoarse", fn := fun _ => fun
  | [d1, d2] => { results := [.lit (.bool true)], args := [d1, d2] }
  | _ => none }
def skyCoarseRow : OpenClaim := { program := "ytnnfnphmieikmaa", sum := "1c38722ef59cf449cb546214db8ba55ac0fad7d49a8f06aee11464d08fa1696d", func := "firn/firnlaw06.SkyCoarse", spec := "skyCoarse", unfollowed := true, recurses := true, apart := false }
def SkyCoarseSaid : Prop := skyCoarseRow.holds Try.pinned (OpenSpec.ofChange skyCoarseSpec)

/-- ITS FALSE NEIGHBOUR: 'it returns false'. Refute it at one input. -/
def skyCoarseWrong : ChangeSpec := { name := "skyCoarse", fn := fun _ => fun
  | [d1, d2] => { results := [.lit (.bool false)], args := [d1, d2] }
  | _ => none }
def SkyCoarseWrongFalsely : Prop := skyCoarseRow.holds Try.pinned (OpenSpec.ofChange skyCoarseWrong)

/-- 'firnlaw06.SkyBands': WHATEVER THE INPUT: true; the input reads as it did. -/
def skyBandsSpec : ChangeSpec := { name := "skyBands", fn := fun _ => fun
  | [d1, d2] => { results := [.lit (.bool true)], args := [d1, d2] }
  | _ => none }
def skyBandsRow : OpenClaim := { program := "ytnnfnphmieikmaa", sum := "1c38722ef59cf449cb546214db8ba55ac0fad7d49a8f06aee11464d08fa1696d", func := "firn/firnlaw06.SkyBands", spec := "skyBands", unfollowed := true, recurses := true, apart := false }
def SkyBandsSaid : Prop := skyBandsRow.holds Try.pinned (OpenSpec.ofChange skyBandsSpec)

/-- ITS FALSE NEIGHBOUR: 'it returns false'. Refute it at one input. -/
def skyBandsWrong : ChangeSpec := { name := "skyBands", fn := fun _ => fun
  | [d1, d2] => { results := [.lit (.bool false)], args := [d1, d2] }
  | _ => none }
def SkyBandsWrongFalsely : Prop := skyBandsRow.holds Try.pinned (OpenSpec.ofChange skyBandsWrong)

/-- 'firnlaw06.SkyThere': WHATEVER THE INPUT: true; the input reads as it did. -/
def skyThereSpec : ChangeSpec := { name := "skyThere", fn := fun _ => fun
  | [d1, d2, d3] => { results := [.lit (.bool true)], args := [d1, d2, d3] }
  | _ => none }
def skyThereRow : OpenClaim := { program := "ytnnfnphmieikmaa", sum := "1c38722ef59cf449cb546214db8ba55ac0fad7d49a8f06aee11464d08fa1696d", func := "firn/firnlaw06.SkyThere", spec := "skyThere", unfollowed := true, recurses := true, apart := false }
def SkyThereSaid : Prop := skyThereRow.holds Try.pinned (OpenSpec.ofChange skyThereSpec)

/-- ITS FALSE NEIGHBOUR: 'it returns false'. Refute it at one input. -/
def skyThereWrong : ChangeSpec := { name := "skyThere", fn := fun _ => fun
  | [d1, d2, d3] => { results := [.lit (.bool false)], args := [d1, d2, d3] }
  | _ => none }
def SkyThereWrongFalsely : Prop := skyThereRow.holds Try.pinned (OpenSpec.ofChange skyThereWrong)

/-- 'firnlaw06.SkyDown': WHATEVER THE INPUT: true; the input reads as it did. -/
def skyDownSpec : ChangeSpec := { name := "skyDown", fn := fun _ => fun
  | [d1, d2, d3] => { results := [.lit (.bool true)], args := [d1, d2, d3] }
  | _ => none }
def skyDownRow : OpenClaim := { program := "ytnnfnphmieikmaa", sum := "1c38722ef59cf449cb546214db8ba55ac0fad7d49a8f06aee11464d08fa1696d", func := "firn/firnlaw06.SkyDown", spec := "skyDown", unfollowed := true, recurses := true, apart := false }
def SkyDownSaid : Prop := skyDownRow.holds Try.pinned (OpenSpec.ofChange skyDownSpec)

/-- ITS FALSE NEIGHBOUR: 'it returns false'. Refute it at one input. -/
def skyDownWrong : ChangeSpec := { name := "skyDown", fn := fun _ => fun
  | [d1, d2, d3] => { results := [.lit (.bool false)], args := [d1, d2, d3] }
  | _ => none }
def SkyDownWrongFalsely : Prop := skyDownRow.holds Try.pinned (OpenSpec.ofChange skyDownWrong)

/-- 'firnlaw06.SkyRules': WHATEVER THE INPUT: true; the input reads as it did. -/
def skyRulesSpec : ChangeSpec := { name := "skyRules", fn := fun _ => fun
  | [d1, d2] => { results := [.lit (.bool true)], args := [d1, d2] }
  | _ => none }
def skyRulesRow : OpenClaim := { program := "ytnnfnphmieikmaa", sum := "1c38722ef59cf449cb546214db8ba55ac0fad7d49a8f06aee11464d08fa1696d", func := "firn/firnlaw06.SkyRules", spec := "skyRules", unfollowed := true, recurses := true, apart := false }
def SkyRulesSaid : Prop := skyRulesRow.holds Try.pinned (OpenSpec.ofChange skyRulesSpec)

/-- ITS FALSE NEIGHBOUR: 'it returns false'. Refute it at one input. -/
def skyRulesWrong : ChangeSpec := { name := "skyRules", fn := fun _ => fun
  | [d1, d2] => { results := [.lit (.bool false)], args := [d1, d2] }
  | _ => none }
def SkyRulesWrongFalsely : Prop := skyRulesRow.holds Try.pinned (OpenSpec.ofChange skyRulesWrong)

/-- 'firnlaw06.SkyOvers': WHATEVER THE INPUT: true; the input reads as it did. -/
def skyOversSpec : ChangeSpec := { name := "skyOvers", fn := fun _ => fun
  | [d] => { results := [.lit (.bool true)], args := [d] }
  | _ => none }
def skyOversRow : OpenClaim := { program := "ytnnfnphmieikmaa", sum := "1c38722ef59cf449cb546214db8ba55ac0fad7d49a8f06aee11464d08fa1696d", func := "firn/firnlaw06.SkyOvers", spec := "skyOvers", unfollowed := true, recurses := true, apart := false }
def SkyOversSaid : Prop := skyOversRow.holds Try.pinned (OpenSpec.ofChange skyOversSpec)

/-- ITS FALSE NEIGHBOUR: 'it returns false'. Refute it at one input. -/
def skyOversWrong : ChangeSpec := { name := "skyOvers", fn := fun _ => fun
  | [d] => { results := [.lit (.bool false)], args := [d] }
  | _ => none }
def SkyOversWrongFalsely : Prop := skyOversRow.holds Try.pinned (OpenSpec.ofChange skyOversWrong)

/-- 'firnlaw06.SkyCovers': WHATEVER THE INPUT: true; the input reads as it did. -/
def skyCoversSpec : ChangeSpec := { name := "skyCovers", fn := fun _ => fun
  | [d1, d2, d3] => { results := [.lit (.bool true)], args := [d1, d2, d3] }
  | _ => none }
def skyCoversRow : OpenClaim := { program := "ytnnfnphmieikmaa", sum := "1c38722ef59cf449cb546214db8ba55ac0fad7d49a8f06aee11464d08fa1696d", func := "firn/firnlaw06.SkyCovers", spec := "skyCovers", unfollowed := true, recurses := true, apart := false }
def SkyCoversSaid : Prop := skyCoversRow.holds Try.pinned (OpenSpec.ofChange skyCoversSpec)

/-- ITS FALSE NEIGHBOUR: 'it returns false'. Refute it at one input. -/
def skyCoversWrong : ChangeSpec := { name := "skyCovers", fn := fun _ => fun
  | [d1, d2, d3] => { results := [.lit (.bool false)], args := [d1, d2, d3] }
  | _ => none }
def SkyCoversWrongFalsely : Prop := skyCoversRow.holds Try.pinned (OpenSpec.ofChange skyCoversWrong)

/-- 'firnlaw06.SkyAll': WHATEVER THE INPUT: true; the input reads as it did. -/
def skyAllSpec : ChangeSpec := { name := "skyAll", fn := fun _ => fun
  | [d1, d2] => { results := [.lit (.bool true)], args := [d1, d2] }
  | _ => none }
def skyAllRow : OpenClaim := { program := "ytnnfnphmieikmaa", sum := "1c38722ef59cf449cb546214db8ba55ac0fad7d49a8f06aee11464d08fa1696d", func := "firn/firnlaw06.SkyAll", spec := "skyAll", unfollowed := true, recurses := true, apart := false }
def SkyAllSaid : Prop := skyAllRow.holds Try.pinned (OpenSpec.ofChange skyAllSpec)

/-- ITS FALSE NEIGHBOUR: 'it returns false'. Refute it at one input. -/
def skyAllWrong : ChangeSpec := { name := "skyAll", fn := fun _ => fun
  | [d1, d2] => { results := [.lit (.bool false)], args := [d1, d2] }
  | _ => none }
def SkyAllWrongFalsely : Prop := skyAllRow.holds Try.pinned (OpenSpec.ofChange skyAllWrong)

/-- 'firntop.TopSky': WHATEVER THE INPUT: true; the input reads as it did. -/
def topSkySpec : ChangeSpec := { name := "topSky", fn := fun _ => fun
  | [d1, d2, d3] => { results := [.lit (.bool true)], args := [d1, d2, d3] }
  | _ => none }
def topSkyRow : OpenClaim := { program := "ytnnfnphmieikmaa", sum := "1c38722ef59cf449cb546214db8ba55ac0fad7d49a8f06aee11464d08fa1696d", func := "firn/firntop.TopSky", spec := "topSky", unfollowed := true, recurses := true, apart := false }
def TopSkySaid : Prop := topSkyRow.holds Try.pinned (OpenSpec.ofChange topSkySpec)

/-- ITS FALSE NEIGHBOUR: 'it returns false'. Refute it at one input. -/
def topSkyWrong : ChangeSpec := { name := "topSky", fn := fun _ => fun
  | [d1, d2, d3] => { results := [.lit (.bool false)], args := [d1, d2, d3] }
  | _ => none }
def TopSkyWrongFalsely : Prop := topSkyRow.holds Try.pinned (OpenSpec.ofChange topSkyWrong)

/- THE SECOND FORM. 'bulk': how many values and letters a reading holds, each counted each time it is reached (what is shared counts as often as it is met; a slice's spare places count too). A statement '..UptoSaid' is the law's where the arguments, and the package variables that the reading takes, are together of bulk at most 1048576: NARROWER than '..Said'. Prove '..Said' where nothing that the law and all that it calls make is longer than what came in: it says more and counts as full. Else prove '..UptoSaid'. A law counts once. -/
mutual
def uptoBulk {H : Type} : DataW H → Nat
  | .lit (.string bytes) => bytes.length + 1
  | .lit _ => 1
  | .nil => 1
  | .ptr d => uptoBulk d + 1
  | .slice elems spare => uptoBulkAll elems + uptoBulkAll spare + 1
  | .agg parts => uptoBulkAll parts + 1
  | .iface _ d => uptoBulk d + 1
  | .map entries => uptoBulkEntries entries + 1
  | .held _ => 1
def uptoBulkAll {H : Type} : List (DataW H) → Nat
  | [] => 0
  | d :: r => uptoBulk d + uptoBulkAll r
def uptoBulkEntries {H : Type} : List (Lit × DataW H) → Nat
  | [] => 0
  | x :: r => uptoBulkEntry x + uptoBulkEntries r
def uptoBulkEntry {H : Type} : Lit × DataW H → Nat
  | (.string bytes, d) => bytes.length + uptoBulk d + 1
  | (_, d) => uptoBulk d + 1
 end
def uptoSmall : (H : Type) → List (DataW H) → Bool := fun _ ds => decide (uptoBulkAll ds ≤ 1048576)
def OpenSpec.upto (s : _root_.Go.ChangeSpec) : _root_.Go.OpenSpec := { _root_.Go.OpenSpec.ofChange s with cond := some uptoSmall }

/-- 'firnlaw06.SkyNumbers', WHERE WHAT IT READS IS OF BULK AT MOST 1048576: true; the input reads as it did. -/
def skyNumbersUptoRow : OpenClaim := { program := "ytnnfnphmieikmaa", sum := "1c38722ef59cf449cb546214db8ba55ac0fad7d49a8f06aee11464d08fa1696d", func := "firn/firnlaw06.SkyNumbers", spec := "skyNumbers", unfollowed := true, recurses := true, apart := false, narrowed := true }
def SkyNumbersUptoSaid : Prop := skyNumbersUptoRow.holds Try.pinned (OpenSpec.upto skyNumbersSpec)

/-- 'firnlaw06.SkyNested', WHERE WHAT IT READS IS OF BULK AT MOST 1048576: true; the input reads as it did. -/
def skyNestedUptoRow : OpenClaim := { program := "ytnnfnphmieikmaa", sum := "1c38722ef59cf449cb546214db8ba55ac0fad7d49a8f06aee11464d08fa1696d", func := "firn/firnlaw06.SkyNested", spec := "skyNested", unfollowed := true, recurses := true, apart := false, narrowed := true }
def SkyNestedUptoSaid : Prop := skyNestedUptoRow.holds Try.pinned (OpenSpec.upto skyNestedSpec)

/-- 'firnlaw06.SkyRings', WHERE WHAT IT READS IS OF BULK AT MOST 1048576: true; the input reads as it did. -/
def skyRingsUptoRow : OpenClaim := { program := "ytnnfnphmieikmaa", sum := "1c38722ef59cf449cb546214db8ba55ac0fad7d49a8f06aee11464d08fa1696d", func := "firn/firnlaw06.SkyRings", spec := "skyRings", unfollowed := true, recurses := true, apart := false, narrowed := true }
def SkyRingsUptoSaid : Prop := skyRingsUptoRow.holds Try.pinned (OpenSpec.upto skyRingsSpec)

/-- 'firnlaw06.SkyNests', WHERE WHAT IT READS IS OF BULK AT MOST 1048576: true; the input reads as it did. -/
def skyNestsUptoRow : OpenClaim := { program := "ytnnfnphmieikmaa", sum := "1c38722ef59cf449cb546214db8ba55ac0fad7d49a8f06aee11464d08fa1696d", func := "firn/firnlaw06.SkyNests", spec := "skyNests", unfollowed := true, recurses := true, apart := false, narrowed := true }
def SkyNestsUptoSaid : Prop := skyNestsUptoRow.holds Try.pinned (OpenSpec.upto skyNestsSpec)

/-- 'firnlaw06.SkySets', WHERE WHAT IT READS IS OF BULK AT MOST 1048576: true; the input reads as it did. -/
def skySetsUptoRow : OpenClaim := { program := "ytnnfnphmieikmaa", sum := "1c38722ef59cf449cb546214db8ba55ac0fad7d49a8f06aee11464d08fa1696d", func := "firn/firnlaw06.SkySets", spec := "skySets", unfollowed := true, recurses := true, apart := false, narrowed := true }
def SkySetsUptoSaid : Prop := skySetsUptoRow.holds Try.pinned (OpenSpec.upto skySetsSpec)

/-- 'firnlaw06.SkyPairs', WHERE WHAT IT READS IS OF BULK AT MOST 1048576: true; the input reads as it did. -/
def skyPairsUptoRow : OpenClaim := { program := "ytnnfnphmieikmaa", sum := "1c38722ef59cf449cb546214db8ba55ac0fad7d49a8f06aee11464d08fa1696d", func := "firn/firnlaw06.SkyPairs", spec := "skyPairs", unfollowed := true, recurses := true, apart := false, narrowed := true }
def SkyPairsUptoSaid : Prop := skyPairsUptoRow.holds Try.pinned (OpenSpec.upto skyPairsSpec)

/-- 'firnlaw06.SkyCoarse', WHERE WHAT IT READS IS OF BULK AT MOST 1048576: true; the input reads as it did. -/
def skyCoarseUptoRow : OpenClaim := { program := "ytnnfnphmieikmaa", sum := "1c38722ef59cf449cb546214db8ba55ac0fad7d49a8f06aee11464d08fa1696d", func := "firn/firnlaw06.SkyCoarse", spec := "skyCoarse", unfollowed := true, recurses := true, apart := false, narrowed := true }
def SkyCoarseUptoSaid : Prop := skyCoarseUptoRow.holds Try.pinned (OpenSpec.upto skyCoarseSpec)

/-- 'firnlaw06.SkyBands', WHERE WHAT IT READS IS OF BULK AT MOST 1048576: true; the input reads as it did. -/
def skyBandsUptoRow : OpenClaim := { program := "ytnnfnphmieikmaa", sum := "1c38722ef59cf449cb546214db8ba55ac0fad7d49a8f06aee11464d08fa1696d", func := "firn/firnlaw06.SkyBands", spec := "skyBands", unfollowed := true, recurses := true, apart := false, narrowed := true }
def SkyBandsUptoSaid : Prop := skyBandsUptoRow.holds Try.pinned (OpenSpec.upto skyBandsSpec)

/-- 'firnlaw06.SkyThere', WHERE WHAT IT READS IS OF BULK AT MOST 1048576: true; the input reads as it did. -/
def skyThereUptoRow : OpenClaim := { program := "ytnnfnphmieikmaa", sum := "1c38722ef59cf449cb546214db8ba55ac0fad7d49a8f06aee11464d08fa1696d", func := "firn/firnlaw06.SkyThere", spec := "skyThere", unfollowed := true, recurses := true, apart := false, narrowed := true }
def SkyThereUptoSaid : Prop := skyThereUptoRow.holds Try.pinned (OpenSpec.upto skyThereSpec)

/-- 'firnlaw06.SkyDown', WHERE WHAT IT READS IS OF BULK AT MOST 1048576: true; the input reads as it did. -/
def skyDownUptoRow : OpenClaim := { program := "ytnnfnphmieikmaa", sum := "1c38722ef59cf449cb546214db8ba55ac0fad7d49a8f06aee11464d08fa1696d", func := "firn/firnlaw06.SkyDown", spec := "skyDown", unfollowed := true, recurses := true, apart := false, narrowed := true }
def SkyDownUptoSaid : Prop := skyDownUptoRow.holds Try.pinned (OpenSpec.upto skyDownSpec)

/-- 'firnlaw06.SkyRules', WHERE WHAT IT READS IS OF BULK AT MOST 1048576: true; the input reads as it did. -/
def skyRulesUptoRow : OpenClaim := { program := "ytnnfnphmieikmaa", sum := "1c38722ef59cf449cb546214db8ba55ac0fad7d49a8f06aee11464d08fa1696d", func := "firn/firnlaw06.SkyRules", spec := "skyRules", unfollowed := true, recurses := true, apart := false, narrowed := true }
def SkyRulesUptoSaid : Prop := skyRulesUptoRow.holds Try.pinned (OpenSpec.upto skyRulesSpec)

/-- 'firnlaw06.SkyOvers', WHERE WHAT IT READS IS OF BULK AT MOST 1048576: true; the input reads as it did. -/
def skyOversUptoRow : OpenClaim := { program := "ytnnfnphmieikmaa", sum := "1c38722ef59cf449cb546214db8ba55ac0fad7d49a8f06aee11464d08fa1696d", func := "firn/firnlaw06.SkyOvers", spec := "skyOvers", unfollowed := true, recurses := true, apart := false, narrowed := true }
def SkyOversUptoSaid : Prop := skyOversUptoRow.holds Try.pinned (OpenSpec.upto skyOversSpec)

/-- 'firnlaw06.SkyCovers', WHERE WHAT IT READS IS OF BULK AT MOST 1048576: true; the input reads as it did. -/
def skyCoversUptoRow : OpenClaim := { program := "ytnnfnphmieikmaa", sum := "1c38722ef59cf449cb546214db8ba55ac0fad7d49a8f06aee11464d08fa1696d", func := "firn/firnlaw06.SkyCovers", spec := "skyCovers", unfollowed := true, recurses := true, apart := false, narrowed := true }
def SkyCoversUptoSaid : Prop := skyCoversUptoRow.holds Try.pinned (OpenSpec.upto skyCoversSpec)

/-- 'firnlaw06.SkyAll', WHERE WHAT IT READS IS OF BULK AT MOST 1048576: true; the input reads as it did. -/
def skyAllUptoRow : OpenClaim := { program := "ytnnfnphmieikmaa", sum := "1c38722ef59cf449cb546214db8ba55ac0fad7d49a8f06aee11464d08fa1696d", func := "firn/firnlaw06.SkyAll", spec := "skyAll", unfollowed := true, recurses := true, apart := false, narrowed := true }
def SkyAllUptoSaid : Prop := skyAllUptoRow.holds Try.pinned (OpenSpec.upto skyAllSpec)

/-- 'firntop.TopSky', WHERE WHAT IT READS IS OF BULK AT MOST 1048576: true; the input reads as it did. -/
def topSkyUptoRow : OpenClaim := { program := "ytnnfnphmieikmaa", sum := "1c38722ef59cf449cb546214db8ba55ac0fad7d49a8f06aee11464d08fa1696d", func := "firn/firntop.TopSky", spec := "topSky", unfollowed := true, recurses := true, apart := false, narrowed := true }
def TopSkyUptoSaid : Prop := topSkyUptoRow.holds Try.pinned (OpenSpec.upto topSkySpec)

end Rows
end Go.Proofs.Ytnnfnphmieikmaa
