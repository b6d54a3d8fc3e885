/-
  No cell of these rows narrows 'for every input' (looked for: loops, veiled, ifaces, maps, wideKeys, modest, calm, conditions, laid).
  DERIVED. THE GIVEN ROWS OF THIS SEAT. 12 by the template 'for every input the law returns true; each argument reads behind the call as it read before'; 0 by the template 'total and deterministic' (their statements: YthanmiifcpajhaaTotals.lean).
  GIVEN WITH THE SEED: the statements are not yours to turn. If you find one false, say at which input.
  Laid BY PROGRAM, IN A SANDBOX (cutbox-rows.mjs): the forced cells as the released guide's own fill.sh prints them over the translation e0036e01547e4642… (all of the seat's roots in one cut). By AI agents, Wed Nov 11 2026. No macro, syntax, notation, axiom, sorry.
-/
import Derived.Test.YthanmiifcpajhaaChecked
import GoSem.Claim
import GoSem.ClaimJoined
import GoSem.ClaimMapViews
import Derived.JoinedTies
import Derived.KernelRfl
namespace Go.Proofs.Ythanmiifcpajhaa
/- THE CELL 'sum', in the pinned program and in every row, IS THE sha256 OF THE DUMP (.gsa) THAT YthanmiifcpajhaaProg.lean LOADS. Nothing in Lean hashes anything: it is a label: what it is worth is what the hold of that sum in a sandbox is worth. -/
noncomputable def Try.pinned : Pinned := { name := "ythanmiifcpajhaa", sum := "e0036e01547e46425135ad8186b068919da35f7c6260ecca80c60845086e1519", checked := Try.checked }
namespace Rows
def none {H : Type} : Left H := { results := [], args := [] }

/-- 'firnlaw08.AlertPlans': WHATEVER THE INPUT: true; the input reads as it did. -/
def alertPlansSpec : ChangeSpec := { name := "alertPlans", fn := fun _ => fun
  | [d1, d2] => { results := [.lit (.bool true)], args := [d1, d2] }
  | _ => none }
def alertPlansRow : OpenClaim := { program := "ythanmiifcpajhaa", sum := "e0036e01547e46425135ad8186b068919da35f7c6260ecca80c60845086e1519", func := "firn/firnlaw08.AlertPlans", spec := "alertPlans", unfollowed := true, recurses := true, apart := false }
def AlertPlansSaid : Prop := alertPlansRow.holds Try.pinned (OpenSpec.ofChange alertPlansSpec)

/-- ITS FALSE NEIGHBOUR: 'it returns false'. Refute it at one input. -/
def alertPlansWrong : ChangeSpec := { name := "alertPlans", fn := fun _ => fun
  | [d1, d2] => { results := [.lit (.bool false)], args := [d1, d2] }
  | _ => none }
def AlertPlansWrongFalsely : Prop := alertPlansRow.holds Try.pinned (OpenSpec.ofChange alertPlansWrong)

/-- 'firnlaw08.AlertUrgents': WHATEVER THE INPUT: true; the input reads as it did. -/
def alertUrgentsSpec : ChangeSpec := { name := "alertUrgents", fn := fun _ => fun
  | [d] => { results := [.lit (.bool true)], args := [d] }
  | _ => none }
def alertUrgentsRow : OpenClaim := { program := "ythanmiifcpajhaa", sum := "e0036e01547e46425135ad8186b068919da35f7c6260ecca80c60845086e1519", func := "firn/firnlaw08.AlertUrgents", spec := "alertUrgents", unfollowed := true, recurses := true, apart := false }
def AlertUrgentsSaid : Prop := alertUrgentsRow.holds Try.pinned (OpenSpec.ofChange alertUrgentsSpec)

/-- ITS FALSE NEIGHBOUR: 'it returns false'. Refute it at one input. -/
def alertUrgentsWrong : ChangeSpec := { name := "alertUrgents", fn := fun _ => fun
  | [d] => { results := [.lit (.bool false)], args := [d] }
  | _ => none }
def AlertUrgentsWrongFalsely : Prop := alertUrgentsRow.holds Try.pinned (OpenSpec.ofChange alertUrgentsWrong)

/-- 'firnlaw08.AlertStretches': WHATEVER THE INPUT: true; the input reads as it did. -/
def alertStretchesSpec : ChangeSpec := { name := "alertStretches", fn := fun _ => fun
  | [d1, d2, d3] => { results := [.lit (.bool true)], args := [d1, d2, d3] }
  | _ => none }
def alertStretchesRow : OpenClaim := { program := "ythanmiifcpajhaa", sum := "e0036e01547e46425135ad8186b068919da35f7c6260ecca80c60845086e1519", func := "firn/firnlaw08.AlertStretches", spec := "alertStretches", unfollowed := true, recurses := true, apart := false }
def AlertStretchesSaid : Prop := alertStretchesRow.holds Try.pinned (OpenSpec.ofChange alertStretchesSpec)

/-- ITS FALSE NEIGHBOUR: 'it returns false'. Refute it at one input. -/
def alertStretchesWrong : ChangeSpec := { name := "alertStretches", fn := fun _ => fun
  | [d1, d2, d3] => { results := [.lit (.bool false)], args := [d1, d2, d3] }
  | _ => none }
def AlertStretchesWrongFalsely : Prop := alertStretchesRow.holds Try.pinned (OpenSpec.ofChange alertStretchesWrong)

/-- 'firnlaw08.AlertMachines': WHATEVER THE INPUT: true; the input reads as it did. -/
def alertMachinesSpec : ChangeSpec := { name := "alertMachines", fn := fun _ => fun
  | [d1, d2, d3] => { results := [.lit (.bool true)], args := [d1, d2, d3] }
  | _ => none }
def alertMachinesRow : OpenClaim := { program := "ythanmiifcpajhaa", sum := "e0036e01547e46425135ad8186b068919da35f7c6260ecca80c60845086e1519", func := "firn/firnlaw08.AlertMachines", spec := "alertMachines", unfollowed := true, recurses := true, apart := false }
def AlertMachinesSaid : Prop := alertMachinesRow.holds Try.pinned (OpenSpec.ofChange alertMachinesSpec)

/-- ITS FALSE NEIGHBOUR: 'it returns false'. Refute it at one input. -/
def alertMachinesWrong : ChangeSpec := { name := "alertMachines", fn := fun _ => fun
  | [d1, d2, d3] => { results := [.lit (.bool false)], args := [d1, d2, d3] }
  | _ => none }
def AlertMachinesWrongFalsely : Prop := alertMachinesRow.holds Try.pinned (OpenSpec.ofChange alertMachinesWrong)

/-- 'firnlaw08.AlertMoves': WHATEVER THE INPUT: true; the input reads as it did. -/
def alertMovesSpec : ChangeSpec := { name := "alertMoves", fn := fun _ => fun
  | [d1, d2] => { results := [.lit (.bool true)], args := [d1, d2] }
  | _ => none }
def alertMovesRow : OpenClaim := { program := "ythanmiifcpajhaa", sum := "e0036e01547e46425135ad8186b068919da35f7c6260ecca80c60845086e1519", func := "firn/firnlaw08.AlertMoves", spec := "alertMoves", unfollowed := true, recurses := true, apart := false }
def AlertMovesSaid : Prop := alertMovesRow.holds Try.pinned (OpenSpec.ofChange alertMovesSpec)

/-- ITS FALSE NEIGHBOUR: 'it returns false'. Refute it at one input. -/
def alertMovesWrong : ChangeSpec := { name := "alertMoves", fn := fun _ => fun
  | [d1, d2] => { results := [.lit (.bool false)], args := [d1, d2] }
  | _ => none }
def AlertMovesWrongFalsely : Prop := alertMovesRow.holds Try.pinned (OpenSpec.ofChange alertMovesWrong)

/-- 'firnlaw08.AlertEither': WHATEVER THE INPUT: true; the input reads as it did. -/
def alertEitherSpec : ChangeSpec := { name := "alertEither", fn := fun _ => fun
  | [d1, d2, d3] => { results := [.lit (.bool true)], args := [d1, d2, d3] }
  | _ => none }
def alertEitherRow : OpenClaim := { program := "ythanmiifcpajhaa", sum := "e0036e01547e46425135ad8186b068919da35f7c6260ecca80c60845086e1519", func := "firn/firnlaw08.AlertEither", spec := "alertEither", unfollowed := true, recurses := true, apart := false }
def AlertEitherSaid : Prop := alertEitherRow.holds Try.pinned (OpenSpec.ofChange alertEitherSpec)

/-- ITS FALSE NEIGHBOUR: 'it returns false'. Refute it at one input. -/
def alertEitherWrong : ChangeSpec := { name := "alertEither", fn := fun _ => fun
  | [d1, d2, d3] => { results := [.lit (.bool false)], args := [d1, d2, d3] }
  | _ => none }
def AlertEitherWrongFalsely : Prop := alertEitherRow.holds Try.pinned (OpenSpec.ofChange alertEitherWrong)

/-- 'firnlaw08.AlertWorks': WHATEVER THE INPUT: true; the input reads as it did. -/
def alertWorksSpec : ChangeSpec := { name := "alertWorks", fn := fun _ => fun
  | [d1, d2] => { results := [.lit (.bool true)], args := [d1, d2] }
  | _ => none }
def alertWorksRow : OpenClaim := { program := "ythanmiifcpajhaa", sum := "e0036e01547e46425135ad8186b068919da35f7c6260ecca80c60845086e1519", func := "firn/firnlaw08.AlertWorks", spec := "alertWorks", unfollowed := true, recurses := true, apart := false }
def AlertWorksSaid : Prop := alertWorksRow.holds Try.pinned (OpenSpec.ofChange alertWorksSpec)

/-- ITS FALSE NEIGHBOUR: 'it returns false'. Refute it at one input. -/
def alertWorksWrong : ChangeSpec := { name := "alertWorks", fn := fun _ => fun
  | [d1, d2] => { results := [.lit (.bool false)], args := [d1, d2] }
  | _ => none }
def AlertWorksWrongFalsely : Prop := alertWorksRow.holds Try.pinned (OpenSpec.ofChange alertWorksWrong)

/-- 'firnlaw08.AlertSame': WHATEVER THE INPUT: true; the input reads as it did. -/
def alertSameSpec : ChangeSpec := { name := "alertSame", fn := fun _ => fun
  | [d1, d2] => { results := [.lit (.bool true)], args := [d1, d2] }
  | _ => none }
def alertSameRow : OpenClaim := { program := "ythanmiifcpajhaa", sum := "e0036e01547e46425135ad8186b068919da35f7c6260ecca80c60845086e1519", func := "firn/firnlaw08.AlertSame", spec := "alertSame", unfollowed := true, recurses := true, apart := false }
def AlertSameSaid : Prop := alertSameRow.holds Try.pinned (OpenSpec.ofChange alertSameSpec)

/-- ITS FALSE NEIGHBOUR: 'it returns false'. Refute it at one input. -/
def alertSameWrong : ChangeSpec := { name := "alertSame", fn := fun _ => fun
  | [d1, d2] => { results := [.lit (.bool false)], args := [d1, d2] }
  | _ => none }
def AlertSameWrongFalsely : Prop := alertSameRow.holds Try.pinned (OpenSpec.ofChange alertSameWrong)

/-- 'firnlaw08.AlertLess': WHATEVER THE INPUT: true; the input reads as it did. -/
def alertLessSpec : ChangeSpec := { name := "alertLess", fn := fun _ => fun
  | [d1, d2, d3] => { results := [.lit (.bool true)], args := [d1, d2, d3] }
  | _ => none }
def alertLessRow : OpenClaim := { program := "ythanmiifcpajhaa", sum := "e0036e01547e46425135ad8186b068919da35f7c6260ecca80c60845086e1519", func := "firn/firnlaw08.AlertLess", spec := "alertLess", unfollowed := true, recurses := true, apart := false }
def AlertLessSaid : Prop := alertLessRow.holds Try.pinned (OpenSpec.ofChange alertLessSpec)

/-- ITS FALSE NEIGHBOUR: 'it returns false'. Refute it at one input. -/
def alertLessWrong : ChangeSpec := { name := "alertLess", fn := fun _ => fun
  | [d1, d2, d3] => { results := [.lit (.bool false)], args := [d1, d2, d3] }
  | _ => none }
def AlertLessWrongFalsely : Prop := alertLessRow.holds Try.pinned (OpenSpec.ofChange alertLessWrong)

/-- 'firnlaw08.AlertSeveral': WHATEVER THE INPUT: true; the input reads as it did. -/
def alertSeveralSpec : ChangeSpec := { name := "alertSeveral", fn := fun _ => fun
  | [d1, d2] => { results := [.lit (.bool true)], args := [d1, d2] }
  | _ => none }
def alertSeveralRow : OpenClaim := { program := "ythanmiifcpajhaa", sum := "e0036e01547e46425135ad8186b068919da35f7c6260ecca80c60845086e1519", func := "firn/firnlaw08.AlertSeveral", spec := "alertSeveral", unfollowed := true, recurses := true, apart := false }
def AlertSeveralSaid : Prop := alertSeveralRow.holds Try.pinned (OpenSpec.ofChange alertSeveralSpec)

/-- ITS FALSE NEIGHBOUR: 'it returns false'. Refute it at one input. -/
def alertSeveralWrong : ChangeSpec := { name := "alertSeveral", fn := fun _ => fun
  | [d1, d2] => { results := [.lit (.bool false)], args := [d1, d2] }
  | _ => none }
def AlertSeveralWrongFalsely : Prop := alertSeveralRow.holds Try.pinned (OpenSpec.ofChange alertSeveralWrong)

/-- 'firnlaw08.AlertKept': WHATEVER THE INPUT: true; the input reads as it did. -/
def alertKeptSpec : ChangeSpec := { name := "alertKept", fn := fun _ => fun
  | [d1, d2] => { results := [.lit (.bool true)], args := [d1, d2] }
  | _ => none }
def alertKeptRow : OpenClaim := { program := "ythanmiifcpajhaa", sum := "e0036e01547e46425135ad8186b068919da35f7c6260ecca80c60845086e1519", func := "firn/firnlaw08.AlertKept", spec := "alertKept", unfollowed := true, recurses := true, apart := false }
def AlertKeptSaid : Prop := alertKeptRow.holds Try.pinned (OpenSpec.ofChange alertKeptSpec)

/-- ITS FALSE NEIGHBOUR: 'it returns false'. Refute it at one input. -/
def alertKeptWrong : ChangeSpec := { name := "alertKept", fn := fun _ => fun
  | [d1, d2] => { results := [.lit (.bool false)], args := [d1, d2] }
  | _ => none }
def AlertKeptWrongFalsely : Prop := alertKeptRow.holds Try.pinned (OpenSpec.ofChange alertKeptWrong)

/-- 'firntop.TopAlert': WHATEVER THE INPUT: true; the input reads as it did. -/
def topAlertSpec : ChangeSpec := { name := "topAlert", fn := fun _ => fun
  | [d1, d2, d3] => { results := [.lit (.bool true)], args := [d1, d2, d3] }
  | _ => none }
def topAlertRow : OpenClaim := { program := "ythanmiifcpajhaa", sum := "e0036e01547e46425135ad8186b068919da35f7c6260ecca80c60845086e1519", func := "firn/firntop.TopAlert", spec := "topAlert", unfollowed := true, recurses := true, apart := false }
def TopAlertSaid : Prop := topAlertRow.holds Try.pinned (OpenSpec.ofChange topAlertSpec)

/-- ITS FALSE NEIGHBOUR: 'it returns false'. Refute it at one input. -/
def topAlertWrong : ChangeSpec := { name := "topAlert", fn := fun _ => fun
  | [d1, d2, d3] => { results := [.lit (.bool false)], args := [d1, d2, d3] }
  | _ => none }
def TopAlertWrongFalsely : Prop := topAlertRow.holds Try.pinned (OpenSpec.ofChange topAlertWrong)

/- THE SECOND FORM. 'bulk': how many values and letters a reading holds, each counted each time it is reached (what is shared counts as often as it is met; a slice's spare places count too). A statement '..UptoSaid' is the law's where the arguments, and the package variables that the reading takes, are together of bulk at most 1048576: NARROWER than '..Said'. Prove '..Said' where nothing that the law and all that it calls make is longer than what came in: it says more and counts as full. Else prove '..UptoSaid'. A law counts once. -/
mutual
def uptoBulk {H : Type} : DataW H → Nat
  | .lit (.string bytes) => bytes.length + 1
  | .lit _ => 1
  | .nil => 1
  | .ptr d => uptoBulk d + 1
  | .slice elems spare => uptoBulkAll elems + uptoBulkAll spare + 1
  | .agg parts => uptoBulkAll parts + 1
  | .iface _ d => uptoBulk d + 1
  | .map entries => uptoBulkEntries entries + 1
  | .held _ => 1
def uptoBulkAll {H : Type} : List (DataW H) → Nat
  | [] => 0
  | d :: r => uptoBulk d + uptoBulkAll r
def uptoBulkEntries {H : Type} : List (Lit × DataW H) → Nat
  | [] => 0
  | x :: r => uptoBulkEntry x + uptoBulkEntries r
def uptoBulkEntry {H : Type} : Lit × DataW H → Nat
  | (.string bytes, d) => bytes.length + uptoBulk d + 1
  | (_, d) => uptoBulk d + 1
 end
def uptoSmall : (H : Type) → List (DataW H) → Bool := fun _ ds => decide (uptoBulkAll ds ≤ 1048576)
def OpenSpec.upto (s : _root_.Go.ChangeSpec) : _root_.Go.OpenSpec := { _root_.Go.OpenSpec.ofChange s with cond := some uptoSmall }

/-- 'firnlaw08.AlertPlans', WHERE WHAT IT READS IS OF BULK AT MOST 1048576: true; the input reads as it did. -/
def alertPlansUptoRow : OpenClaim := { program := "ythanmiifcpajhaa", sum := "e0036e01547e46425135ad8186b068919da35f7c6260ecca80c60845086e1519", func := "firn/firnlaw08.AlertPlans", spec := "alertPlans", unfollowed := true, recurses := true, apart := false, narrowed := true }
def AlertPlansUptoSaid : Prop := alertPlansUptoRow.holds Try.pinned (OpenSpec.upto alertPlansSpec)

/-- 'firnlaw08.AlertUrgents', WHERE WHAT IT READS IS OF BULK AT MOST 1048576: true; the input reads as it did. -/
def alertUrgentsUptoRow : OpenClaim := { program := "ythanmiifcpajhaa", sum := "e0036e01547e46425135ad8186b068919da35f7c6260ecca80c60845086e1519", func := "firn/firnlaw08.AlertUrgents", spec := "alertUrgents", unfollowed := true, recurses := true, apart := false, narrowed := true }
def AlertUrgentsUptoSaid : Prop := alertUrgentsUptoRow.holds Try.pinned (OpenSpec.upto alertUrgentsSpec)

/-- 'firnlaw08.AlertStretches', WHERE WHAT IT READS IS OF BULK AT MOST 1048576: true; the input reads as it did. -/
def alertStretchesUptoRow : OpenClaim := { program := "ythanmiifcpajhaa", sum := "e0036e01547e46425135ad8186b068919da35f7c6260ecca80c60845086e1519", func := "firn/firnlaw08.AlertStretches", spec := "alertStretches", unfollowed := true, recurses := true, apart := false, narrowed := true }
def AlertStretchesUptoSaid : Prop := alertStretchesUptoRow.holds Try.pinned (OpenSpec.upto alertStretchesSpec)

/-- 'firnlaw08.AlertMachines', WHERE WHAT IT READS IS OF BULK AT MOST 1048576: true; the input reads as it did. -/
def alertMachinesUptoRow : OpenClaim := { program := "ythanmiifcpajhaa", sum := "e0036e01547e46425135ad8186b068919da35f7c6260ecca80c60845086e1519", func := "firn/firnlaw08.AlertMachines", spec := "alertMachines", unfollowed := true, recurses := true, apart := false, narrowed := true }
def AlertMachinesUptoSaid : Prop := alertMachinesUptoRow.holds Try.pinned (OpenSpec.upto alertMachinesSpec)

/-- 'firnlaw08.AlertMoves', WHERE WHAT IT READS IS OF BULK AT MOST 1048576: true; the input reads as it did. -/
def alertMovesUptoRow : OpenClaim := { program := "ythanmiifcpajhaa", sum := "e0036e01547e46425135ad8186b068919da35f7c6260ecca80c60845086e1519", func := "firn/firnlaw08.AlertMoves", spec := "alertMoves", unfollowed := true, recurses := true, apart := false, narrowed := true }
def AlertMovesUptoSaid : Prop := alertMovesUptoRow.holds Try.pinned (OpenSpec.upto alertMovesSpec)

/-- 'firnlaw08.AlertEither', WHERE WHAT IT READS IS OF BULK AT MOST 1048576: true; the input reads as it did. -/
def alertEitherUptoRow : OpenClaim := { program := "ythanmiifcpajhaa", sum := "e0036e01547e46425135ad8186b068919da35f7c6260ecca80c60845086e1519", func := "firn/firnlaw08.AlertEither", spec := "alertEither", unfollowed := true, recurses := true, apart := false, narrowed := true }
def AlertEitherUptoSaid : Prop := alertEitherUptoRow.holds Try.pinned (OpenSpec.upto alertEitherSpec)

/-- 'firnlaw08.AlertWorks', WHERE WHAT IT READS IS OF BULK AT MOST 1048576: true; the input reads as it did. -/
def alertWorksUptoRow : OpenClaim := { program := "ythanmiifcpajhaa", sum := "e0036e01547e46425135ad8186b068919da35f7c6260ecca80c60845086e1519", func := "firn/firnlaw08.AlertWorks", spec := "alertWorks", unfollowed := true, recurses := true, apart := false, narrowed := true }
def AlertWorksUptoSaid : Prop := alertWorksUptoRow.holds Try.pinned (OpenSpec.upto alertWorksSpec)

/-- 'firnlaw08.AlertSame', WHERE WHAT IT READS IS OF BULK AT MOST 1048576: true; the input reads as it did. -/
def alertSameUptoRow : OpenClaim := { program := "ythanmiifcpajhaa", sum := "e0036e01547e46425135ad8186b068919da35f7c6260ecca80c60845086e1519", func := "firn/firnlaw08.AlertSame", spec := "alertSame", unfollowed := true, recurses := true, apart := false, narrowed := true }
def AlertSameUptoSaid : Prop := alertSameUptoRow.holds Try.pinned (OpenSpec.upto alertSameSpec)

/-- 'firnlaw08.AlertLess', WHERE WHAT IT READS IS OF BULK AT MOST 1048576: true; the input reads as it did. -/
def alertLessUptoRow : OpenClaim := { program := "ythanmiifcpajhaa", sum := "e0036e01547e46425135ad8186b068919da35f7c6260ecca80c60845086e1519", func := "firn/firnlaw08.AlertLess", spec := "alertLess", unfollowed := true, recurses := true, apart := false, narrowed := true }
def AlertLessUptoSaid : Prop := alertLessUptoRow.holds Try.pinned (OpenSpec.upto alertLessSpec)

/-- 'firnlaw08.AlertSeveral', WHERE WHAT IT READS IS OF BULK AT MOST 1048576: true; the input reads as it did. -/
def alertSeveralUptoRow : OpenClaim := { program := "ythanmiifcpajhaa", sum := "e0036e01547e46425135ad8186b068919da35f7c6260ecca80c60845086e1519", func := "firn/firnlaw08.AlertSeveral", spec := "alertSeveral", unfollowed := true, recurses := true, apart := false, narrowed := true }
def AlertSeveralUptoSaid : Prop := alertSeveralUptoRow.holds Try.pinned (OpenSpec.upto alertSeveralSpec)

/-- 'firnlaw08.AlertKept', WHERE WHAT IT READS IS OF BULK AT MOST 1048576: true; the input reads as it did. -/
def alertKeptUptoRow : OpenClaim := { program := "ythanmiifcpajhaa", sum := "e0036e01547e46425135ad8186b068919da35f7c6260ecca80c60845086e1519", func := "firn/firnlaw08.AlertKept", spec := "alertKept", unfollowed := true, recurses := true, apart := false, narrowed := true }
def AlertKeptUptoSaid : Prop := alertKeptUptoRow.holds Try.pinned (OpenSpec.upto alertKeptSpec)

/-- 'firntop.TopAlert', WHERE WHAT IT READS IS OF BULK AT MOST 1048576: true; the input reads as it did. -/
def topAlertUptoRow : OpenClaim := { program := "ythanmiifcpajhaa", sum := "e0036e01547e46425135ad8186b068919da35f7c6260ecca80c60845086e1519", func := "firn/firntop.TopAlert", spec := "topAlert", unfollowed := true, recurses := true, apart := false, narrowed := true }
def TopAlertUptoSaid : Prop := topAlertUptoRow.holds Try.pinned (OpenSpec.upto topAlertSpec)

end Rows
end Go.Proofs.Ythanmiifcpajhaa
