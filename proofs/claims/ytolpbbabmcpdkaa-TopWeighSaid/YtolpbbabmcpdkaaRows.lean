/-
  No cell of these rows narrows 'for every input' (looked for: loops, veiled, ifaces, maps, wideKeys, modest, calm, conditions, laid).
  DERIVED. THE GIVEN ROWS OF THIS SEAT. 12 by the template 'for every input the law returns true; each argument reads behind the call as it read before'; 0 by the template 'total and deterministic' (their statements: YtolpbbabmcpdkaaTotals.lean).
  GIVEN WITH THE SEED: the statements are not yours to turn. If you find one false, say at which input.
  Laid BY PROGRAM, IN A SANDBOX (cutbox-rows.mjs): the forced cells as the released guide's own fill.sh prints them over the translation 6a784c6765ca9d7c… (all of the seat's roots in one cut). By AI agents, Wed Nov 11 2026. No macro, syntax, notation, axiom, sorry.
-/
import Derived.Test.YtolpbbabmcpdkaaChecked
import GoSem.Claim
import GoSem.ClaimJoined
import GoSem.ClaimMapViews
import Derived.JoinedTies
import Derived.KernelRfl
namespace Go.Proofs.Ytolpbbabmcpdkaa
/- THE CELL 'sum', in the pinned program and in every row, IS THE sha256 OF THE DUMP (.gsa) THAT YtolpbbabmcpdkaaProg.lean LOADS. Nothing in Lean hashes anything: it is a label: what it is worth is what the hold of that sum in a sandbox is worth. -/
noncomputable def Try.pinned : Pinned := { name := "ytolpbbabmcpdkaa", sum := "6a784c6765ca9d7c88944c3f57121eeedb9d025da790175fc7727c346b10bb15", checked := Try.checked }
namespace Rows
def none {H : Type} : Left H := { results := [], args := [] }

/-- 'firnlaw07.WeighCuts': WHATEVER THE INPUT: true; the input reads as it did. -/
def weighCutsSpec : ChangeSpec := { name := "weighCuts", fn := fun _ => fun
  | [d1, d2] => { results := [.lit (.bool true)], args := [d1, d2] }
  | _ => none }
def weighCutsRow : OpenClaim := { program := "ytolpbbabmcpdkaa", sum := "6a784c6765ca9d7c88944c3f57121eeedb9d025da790175fc7727c346b10bb15", func := "firn/firnlaw07.WeighCuts", spec := "weighCuts", unfollowed := true, recurses := true, apart := false }
def WeighCutsSaid : Prop := weighCutsRow.holds Try.pinned (OpenSpec.ofChange weighCutsSpec)

/-- ITS FALSE NEIGHBOUR: 'it returns false'. Refute it at one input. -/
def weighCutsWrong : ChangeSpec := { name := "weighCuts", fn := fun _ => fun
  | [d1, d2] => { results := [.lit (.bool false)], args := [d1, d2] }
  | _ => none }
def WeighCutsWrongFalsely : Prop := weighCutsRow.holds Try.pinned (OpenSpec.ofChange weighCutsWrong)

/-- 'firnlaw07.WeighRows': WHATEVER THE INPUT: true; the input reads as it did. -/
def weighRowsSpec : ChangeSpec := { name := "weighRows", fn := fun _ => fun
  | [d1, d2, d3] => { results := [.lit (.bool true)], args := [d1, d2, d3] }
  | _ => none }
def weighRowsRow : OpenClaim := { program := "ytolpbbabmcpdkaa", sum := "6a784c6765ca9d7c88944c3f57121eeedb9d025da790175fc7727c346b10bb15", func := "firn/firnlaw07.WeighRows", spec := "weighRows", unfollowed := true, recurses := true, apart := false }
def WeighRowsSaid : Prop := weighRowsRow.holds Try.pinned (OpenSpec.ofChange weighRowsSpec)

/-- ITS FALSE NEIGHBOUR: 'it returns false'. Refute it at one input. -/
def weighRowsWrong : ChangeSpec := { name := "weighRows", fn := fun _ => fun
  | [d1, d2, d3] => { results := [.lit (.bool false)], args := [d1, d2, d3] }
  | _ => none }
def WeighRowsWrongFalsely : Prop := weighRowsRow.holds Try.pinned (OpenSpec.ofChange weighRowsWrong)

/-- 'firnlaw07.WeighGains': WHATEVER THE INPUT: true; the input reads as it did. -/
def weighGainsSpec : ChangeSpec := { name := "weighGains", fn := fun _ => fun
  | [d1, d2, d3] => { results := [.lit (.bool true)], args := [d1, d2, d3] }
  | _ => none }
def weighGainsRow : OpenClaim := { program := "ytolpbbabmcpdkaa", sum := "6a784c6765ca9d7c88944c3f57121eeedb9d025da790175fc7727c346b10bb15", func := "firn/firnlaw07.WeighGains", spec := "weighGains", unfollowed := true, recurses := true, apart := false }
def WeighGainsSaid : Prop := weighGainsRow.holds Try.pinned (OpenSpec.ofChange weighGainsSpec)

/-- ITS FALSE NEIGHBOUR: 'it returns false'. Refute it at one input. -/
def weighGainsWrong : ChangeSpec := { name := "weighGains", fn := fun _ => fun
  | [d1, d2, d3] => { results := [.lit (.bool false)], args := [d1, d2, d3] }
  | _ => none }
def WeighGainsWrongFalsely : Prop := weighGainsRow.holds Try.pinned (OpenSpec.ofChange weighGainsWrong)

/-- 'firnlaw07.WeighCurves': WHATEVER THE INPUT: true; the input reads as it did. -/
def weighCurvesSpec : ChangeSpec := { name := "weighCurves", fn := fun _ => fun
  | [d] => { results := [.lit (.bool true)], args := [d] }
  | _ => none }
def weighCurvesRow : OpenClaim := { program := "ytolpbbabmcpdkaa", sum := "6a784c6765ca9d7c88944c3f57121eeedb9d025da790175fc7727c346b10bb15", func := "firn/firnlaw07.WeighCurves", spec := "weighCurves", unfollowed := true, recurses := true, apart := false }
def WeighCurvesSaid : Prop := weighCurvesRow.holds Try.pinned (OpenSpec.ofChange weighCurvesSpec)

/-- ITS FALSE NEIGHBOUR: 'it returns false'. Refute it at one input. -/
def weighCurvesWrong : ChangeSpec := { name := "weighCurves", fn := fun _ => fun
  | [d] => { results := [.lit (.bool false)], args := [d] }
  | _ => none }
def WeighCurvesWrongFalsely : Prop := weighCurvesRow.holds Try.pinned (OpenSpec.ofChange weighCurvesWrong)

/-- 'firnlaw07.WeighOthers': WHATEVER THE INPUT: true; the input reads as it did. -/
def weighOthersSpec : ChangeSpec := { name := "weighOthers", fn := fun _ => fun
  | [d1, d2, d3, d4] => { results := [.lit (.bool true)], args := [d1, d2, d3, d4] }
  | _ => none }
def weighOthersRow : OpenClaim := { program := "ytolpbbabmcpdkaa", sum := "6a784c6765ca9d7c88944c3f57121eeedb9d025da790175fc7727c346b10bb15", func := "firn/firnlaw07.WeighOthers", spec := "weighOthers", unfollowed := true, recurses := true, apart := false }
def WeighOthersSaid : Prop := weighOthersRow.holds Try.pinned (OpenSpec.ofChange weighOthersSpec)

/-- ITS FALSE NEIGHBOUR: 'it returns false'. Refute it at one input. -/
def weighOthersWrong : ChangeSpec := { name := "weighOthers", fn := fun _ => fun
  | [d1, d2, d3, d4] => { results := [.lit (.bool false)], args := [d1, d2, d3, d4] }
  | _ => none }
def WeighOthersWrongFalsely : Prop := weighOthersRow.holds Try.pinned (OpenSpec.ofChange weighOthersWrong)

/-- 'firnlaw07.WeighBest': WHATEVER THE INPUT: true; the input reads as it did. -/
def weighBestSpec : ChangeSpec := { name := "weighBest", fn := fun _ => fun
  | [d1, d2, d3] => { results := [.lit (.bool true)], args := [d1, d2, d3] }
  | _ => none }
def weighBestRow : OpenClaim := { program := "ytolpbbabmcpdkaa", sum := "6a784c6765ca9d7c88944c3f57121eeedb9d025da790175fc7727c346b10bb15", func := "firn/firnlaw07.WeighBest", spec := "weighBest", unfollowed := true, recurses := true, apart := false }
def WeighBestSaid : Prop := weighBestRow.holds Try.pinned (OpenSpec.ofChange weighBestSpec)

/-- ITS FALSE NEIGHBOUR: 'it returns false'. Refute it at one input. -/
def weighBestWrong : ChangeSpec := { name := "weighBest", fn := fun _ => fun
  | [d1, d2, d3] => { results := [.lit (.bool false)], args := [d1, d2, d3] }
  | _ => none }
def WeighBestWrongFalsely : Prop := weighBestRow.holds Try.pinned (OpenSpec.ofChange weighBestWrong)

/-- 'firnlaw07.WeighProofs': WHATEVER THE INPUT: true; the input reads as it did. -/
def weighProofsSpec : ChangeSpec := { name := "weighProofs", fn := fun _ => fun
  | [d1, d2, d3, d4] => { results := [.lit (.bool true)], args := [d1, d2, d3, d4] }
  | _ => none }
def weighProofsRow : OpenClaim := { program := "ytolpbbabmcpdkaa", sum := "6a784c6765ca9d7c88944c3f57121eeedb9d025da790175fc7727c346b10bb15", func := "firn/firnlaw07.WeighProofs", spec := "weighProofs", unfollowed := true, recurses := true, apart := false }
def WeighProofsSaid : Prop := weighProofsRow.holds Try.pinned (OpenSpec.ofChange weighProofsSpec)

/-- ITS FALSE NEIGHBOUR: 'it returns false'. Refute it at one input. -/
def weighProofsWrong : ChangeSpec := { name := "weighProofs", fn := fun _ => fun
  | [d1, d2, d3, d4] => { results := [.lit (.bool false)], args := [d1, d2, d3, d4] }
  | _ => none }
def WeighProofsWrongFalsely : Prop := weighProofsRow.holds Try.pinned (OpenSpec.ofChange weighProofsWrong)

/-- 'firnlaw07.WeighAreas': WHATEVER THE INPUT: true; the input reads as it did. -/
def weighAreasSpec : ChangeSpec := { name := "weighAreas", fn := fun _ => fun
  | [d] => { results := [.lit (.bool true)], args := [d] }
  | _ => none }
def weighAreasRow : OpenClaim := { program := "ytolpbbabmcpdkaa", sum := "6a784c6765ca9d7c88944c3f57121eeedb9d025da790175fc7727c346b10bb15", func := "firn/firnlaw07.WeighAreas", spec := "weighAreas", unfollowed := true, recurses := true, apart := false }
def WeighAreasSaid : Prop := weighAreasRow.holds Try.pinned (OpenSpec.ofChange weighAreasSpec)

/-- ITS FALSE NEIGHBOUR: 'it returns false'. Refute it at one input. -/
def weighAreasWrong : ChangeSpec := { name := "weighAreas", fn := fun _ => fun
  | [d] => { results := [.lit (.bool false)], args := [d] }
  | _ => none }
def WeighAreasWrongFalsely : Prop := weighAreasRow.holds Try.pinned (OpenSpec.ofChange weighAreasWrong)

/-- 'firnlaw07.WeighFar': WHATEVER THE INPUT: true; the input reads as it did. -/
def weighFarSpec : ChangeSpec := { name := "weighFar", fn := fun _ => fun
  | [d1, d2] => { results := [.lit (.bool true)], args := [d1, d2] }
  | _ => none }
def weighFarRow : OpenClaim := { program := "ytolpbbabmcpdkaa", sum := "6a784c6765ca9d7c88944c3f57121eeedb9d025da790175fc7727c346b10bb15", func := "firn/firnlaw07.WeighFar", spec := "weighFar", unfollowed := true, recurses := true, apart := false }
def WeighFarSaid : Prop := weighFarRow.holds Try.pinned (OpenSpec.ofChange weighFarSpec)

/-- ITS FALSE NEIGHBOUR: 'it returns false'. Refute it at one input. -/
def weighFarWrong : ChangeSpec := { name := "weighFar", fn := fun _ => fun
  | [d1, d2] => { results := [.lit (.bool false)], args := [d1, d2] }
  | _ => none }
def WeighFarWrongFalsely : Prop := weighFarRow.holds Try.pinned (OpenSpec.ofChange weighFarWrong)

/-- 'firnlaw07.WeighMerges': WHATEVER THE INPUT: true; the input reads as it did. -/
def weighMergesSpec : ChangeSpec := { name := "weighMerges", fn := fun _ => fun
  | [d1, d2, d3, d4] => { results := [.lit (.bool true)], args := [d1, d2, d3, d4] }
  | _ => none }
def weighMergesRow : OpenClaim := { program := "ytolpbbabmcpdkaa", sum := "6a784c6765ca9d7c88944c3f57121eeedb9d025da790175fc7727c346b10bb15", func := "firn/firnlaw07.WeighMerges", spec := "weighMerges", unfollowed := true, recurses := true, apart := false }
def WeighMergesSaid : Prop := weighMergesRow.holds Try.pinned (OpenSpec.ofChange weighMergesSpec)

/-- ITS FALSE NEIGHBOUR: 'it returns false'. Refute it at one input. -/
def weighMergesWrong : ChangeSpec := { name := "weighMerges", fn := fun _ => fun
  | [d1, d2, d3, d4] => { results := [.lit (.bool false)], args := [d1, d2, d3, d4] }
  | _ => none }
def WeighMergesWrongFalsely : Prop := weighMergesRow.holds Try.pinned (OpenSpec.ofChange weighMergesWrong)

/-- 'firnlaw07.WeighTwo': WHATEVER THE INPUT: true; the input reads as it did. -/
def weighTwoSpec : ChangeSpec := { name := "weighTwo", fn := fun _ => fun
  | [d1, d2] => { results := [.lit (.bool true)], args := [d1, d2] }
  | _ => none }
def weighTwoRow : OpenClaim := { program := "ytolpbbabmcpdkaa", sum := "6a784c6765ca9d7c88944c3f57121eeedb9d025da790175fc7727c346b10bb15", func := "firn/firnlaw07.WeighTwo", spec := "weighTwo", unfollowed := true, recurses := true, apart := false }
def WeighTwoSaid : Prop := weighTwoRow.holds Try.pinned (OpenSpec.ofChange weighTwoSpec)

/-- ITS FALSE NEIGHBOUR: 'it returns false'. Refute it at one input. -/
def weighTwoWrong : ChangeSpec := { name := "weighTwo", fn := fun _ => fun
  | [d1, d2] => { results := [.lit (.bool false)], args := [d1, d2] }
  | _ => none }
def WeighTwoWrongFalsely : Prop := weighTwoRow.holds Try.pinned (OpenSpec.ofChange weighTwoWrong)

/-- 'firntop.TopWeigh': WHATEVER THE INPUT: true; the input reads as it did. -/
def topWeighSpec : ChangeSpec := { name := "topWeigh", fn := fun _ => fun
  | [d1, d2, d3, d4] => { results := [.lit (.bool true)], args := [d1, d2, d3, d4] }
  | _ => none }
def topWeighRow : OpenClaim := { program := "ytolpbbabmcpdkaa", sum := "6a784c6765ca9d7c88944c3f57121eeedb9d025da790175fc7727c346b10bb15", func := "firn/firntop.TopWeigh", spec := "topWeigh", unfollowed := true, recurses := true, apart := false }
def TopWeighSaid : Prop := topWeighRow.holds Try.pinned (OpenSpec.ofChange topWeighSpec)

/-- ITS FALSE NEIGHBOUR: 'it returns false'. Refute it at one input. -/
def topWeighWrong : ChangeSpec := { name := "topWeigh", fn := fun _ => fun
  | [d1, d2, d3, d4] => { results := [.lit (.bool false)], args := [d1, d2, d3, d4] }
  | _ => none }
def TopWeighWrongFalsely : Prop := topWeighRow.holds Try.pinned (OpenSpec.ofChange topWeighWrong)

/- THE SECOND FORM. 'bulk': how many values and letters a reading holds, each counted each time it is reached (what is shared counts as often as it is met; a slice's spare places count too). A statement '..UptoSaid' is the law's where the arguments, and the package variables that the reading takes, are together of bulk at most 1048576: NARROWER than '..Said'. Prove '..Said' where nothing that the law and all that it calls make is longer than what came in: it says more and counts as full. Else prove '..UptoSaid'. A law counts once. -/
mutual
def uptoBulk {H : Type} : DataW H → Nat
  | .lit (.string bytes) => bytes.length + 1
  | .lit _ => 1
  | .nil => 1
  | .ptr d => uptoBulk d + 1
  | .slice elems spare => uptoBulkAll elems + uptoBulkAll spare + 1
  | .agg parts => uptoBulkAll parts + 1
  | .iface _ d => uptoBulk d + 1
  | .map entries => uptoBulkEntries entries + 1
  | .held _ => 1
def uptoBulkAll {H : Type} : List (DataW H) → Nat
  | [] => 0
  | d :: r => uptoBulk d + uptoBulkAll r
def uptoBulkEntries {H : Type} : List (Lit × DataW H) → Nat
  | [] => 0
  | x :: r => uptoBulkEntry x + uptoBulkEntries r
def uptoBulkEntry {H : Type} : Lit × DataW H → Nat
  | (.string bytes, d) => bytes.length + uptoBulk d + 1
  | (_, d) => uptoBulk d + 1
 end
def uptoSmall : (H : Type) → List (DataW H) → Bool := fun _ ds => decide (uptoBulkAll ds ≤ 1048576)
def OpenSpec.upto (s : _root_.Go.ChangeSpec) : _root_.Go.OpenSpec := { _root_.Go.OpenSpec.ofChange s with cond := some uptoSmall }

/-- 'firnlaw07.WeighCuts', WHERE WHAT IT READS IS OF BULK AT MOST 1048576: true; the input reads as it did. -/
def weighCutsUptoRow : OpenClaim := { program := "ytolpbbabmcpdkaa", sum := "6a784c6765ca9d7c88944c3f57121eeedb9d025da790175fc7727c346b10bb15", func := "firn/firnlaw07.WeighCuts", spec := "weighCuts", unfollowed := true, recurses := true, apart := false, narrowed := true }
def WeighCutsUptoSaid : Prop := weighCutsUptoRow.holds Try.pinned (OpenSpec.upto weighCutsSpec)

/-- 'firnlaw07.WeighRows', WHERE WHAT IT READS IS OF BULK AT MOST 1048576: true; the input reads as it did. -/
def weighRowsUptoRow : OpenClaim := { program := "ytolpbbabmcpdkaa", sum := "6a784c6765ca9d7c88944c3f57121eeedb9d025da790175fc7727c346b10bb15", func := "firn/firnlaw07.WeighRows", spec := "weighRows", unfollowed := true, recurses := true, apart := false, narrowed := true }
def WeighRowsUptoSaid : Prop := weighRowsUptoRow.holds Try.pinned (OpenSpec.upto weighRowsSpec)

/-- 'firnlaw07.WeighGains', WHERE WHAT IT READS IS OF BULK AT MOST 1048576: true; the input reads as it did. -/
def weighGainsUptoRow : OpenClaim := { program := "ytolpbbabmcpdkaa", sum := "6a784c6765ca9d7c88944c3f57121eeedb9d025da790175fc7727c346b10bb15", func := "firn/firnlaw07.WeighGains", spec := "weighGains", unfollowed := true, recurses := true, apart := false, narrowed := true }
def WeighGainsUptoSaid : Prop := weighGainsUptoRow.holds Try.pinned (OpenSpec.upto weighGainsSpec)

/-- 'firnlaw07.WeighCurves', WHERE WHAT IT READS IS OF BULK AT MOST 1048576: true; the input reads as it did. -/
def weighCurvesUptoRow : OpenClaim := { program := "ytolpbbabmcpdkaa", sum := "6a784c6765ca9d7c88944c3f57121eeedb9d025da790175fc7727c346b10bb15", func := "firn/firnlaw07.WeighCurves", spec := "weighCurves", unfollowed := true, recurses := true, apart := false, narrowed := true }
def WeighCurvesUptoSaid : Prop := weighCurvesUptoRow.holds Try.pinned (OpenSpec.upto weighCurvesSpec)

/-- 'firnlaw07.WeighOthers', WHERE WHAT IT READS IS OF BULK AT MOST 1048576: true; the input reads as it did. -/
def weighOthersUptoRow : OpenClaim := { program := "ytolpbbabmcpdkaa", sum := "6a784c6765ca9d7c88944c3f57121eeedb9d025da790175fc7727c346b10bb15", func := "firn/firnlaw07.WeighOthers", spec := "weighOthers", unfollowed := true, recurses := true, apart := false, narrowed := true }
def WeighOthersUptoSaid : Prop := weighOthersUptoRow.holds Try.pinned (OpenSpec.upto weighOthersSpec)

/-- 'firnlaw07.WeighBest', WHERE WHAT IT READS IS OF BULK AT MOST 1048576: true; the input reads as it did. -/
def weighBestUptoRow : OpenClaim := { program := "ytolpbbabmcpdkaa", sum := "6a784c6765ca9d7c88944c3f57121eeedb9d025da790175fc7727c346b10bb15", func := "firn/firnlaw07.WeighBest", spec := "weighBest", unfollowed := true, recurses := true, apart := false, narrowed := true }
def WeighBestUptoSaid : Prop := weighBestUptoRow.holds Try.pinned (OpenSpec.upto weighBestSpec)

/-- 'firnlaw07.WeighProofs', WHERE WHAT IT READS IS OF BULK AT MOST 1048576: true; the input reads as it did. -/
def weighProofsUptoRow : OpenClaim := { program := "ytolpbbabmcpdkaa", sum := "6a784c6765ca9d7c88944c3f57121eeedb9d025da790175fc7727c346b10bb15", func := "firn/firnlaw07.WeighProofs", spec := "weighProofs", unfollowed := true, recurses := true, apart := false, narrowed := true }
def WeighProofsUptoSaid : Prop := weighProofsUptoRow.holds Try.pinned (OpenSpec.upto weighProofsSpec)

/-- 'firnlaw07.WeighAreas', WHERE WHAT IT READS IS OF BULK AT MOST 1048576: true; the input reads as it did. -/
def weighAreasUptoRow : OpenClaim := { program := "ytolpbbabmcpdkaa", sum := "6a784c6765ca9d7c88944c3f57121eeedb9d025da790175fc7727c346b10bb15", func := "firn/firnlaw07.WeighAreas", spec := "weighAreas", unfollowed := true, recurses := true, apart := false, narrowed := true }
def WeighAreasUptoSaid : Prop := weighAreasUptoRow.holds Try.pinned (OpenSpec.upto weighAreasSpec)

/-- 'firnlaw07.WeighFar', WHERE WHAT IT READS IS OF BULK AT MOST 1048576: true; the input reads as it did. -/
def weighFarUptoRow : OpenClaim := { program := "ytolpbbabmcpdkaa", sum := "6a784c6765ca9d7c88944c3f57121eeedb9d025da790175fc7727c346b10bb15", func := "firn/firnlaw07.WeighFar", spec := "weighFar", unfollowed := true, recurses := true, apart := false, narrowed := true }
def WeighFarUptoSaid : Prop := weighFarUptoRow.holds Try.pinned (OpenSpec.upto weighFarSpec)

/-- 'firnlaw07.WeighMerges', WHERE WHAT IT READS IS OF BULK AT MOST 1048576: true; the input reads as it did. -/
def weighMergesUptoRow : OpenClaim := { program := "ytolpbbabmcpdkaa", sum := "6a784c6765ca9d7c88944c3f57121eeedb9d025da790175fc7727c346b10bb15", func := "firn/firnlaw07.WeighMerges", spec := "weighMerges", unfollowed := true, recurses := true, apart := false, narrowed := true }
def WeighMergesUptoSaid : Prop := weighMergesUptoRow.holds Try.pinned (OpenSpec.upto weighMergesSpec)

/-- 'firnlaw07.WeighTwo', WHERE WHAT IT READS IS OF BULK AT MOST 1048576: true; the input reads as it did. -/
def weighTwoUptoRow : OpenClaim := { program := "ytolpbbabmcpdkaa", sum := "6a784c6765ca9d7c88944c3f57121eeedb9d025da790175fc7727c346b10bb15", func := "firn/firnlaw07.WeighTwo", spec := "weighTwo", unfollowed := true, recurses := true, apart := false, narrowed := true }
def WeighTwoUptoSaid : Prop := weighTwoUptoRow.holds Try.pinned (OpenSpec.upto weighTwoSpec)

/-- 'firntop.TopWeigh', WHERE WHAT IT READS IS OF BULK AT MOST 1048576: true; the input reads as it did. -/
def topWeighUptoRow : OpenClaim := { program := "ytolpbbabmcpdkaa", sum := "6a784c6765ca9d7c88944c3f57121eeedb9d025da790175fc7727c346b10bb15", func := "firn/firntop.TopWeigh", spec := "topWeigh", unfollowed := true, recurses := true, apart := false, narrowed := true }
def TopWeighUptoSaid : Prop := topWeighUptoRow.holds Try.pinned (OpenSpec.upto topWeighSpec)

end Rows
end Go.Proofs.Ytolpbbabmcpdkaa
