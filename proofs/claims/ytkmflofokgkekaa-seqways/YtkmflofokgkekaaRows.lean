/-
  No cell of these rows narrows 'for every input' (looked for: loops, veiled, ifaces, maps, wideKeys, modest, calm, conditions, laid).
  DERIVED. THE GIVEN ROWS OF THIS SEAT. 7 by the template 'for every input the law returns true; each argument reads behind the call as it read before'; 0 by the template 'total and deterministic' (their statements: YtkmflofokgkekaaTotals.lean).
  GIVEN WITH THE SEED: the statements are not yours to turn. If you find one false, say at which input.
  Laid BY PROGRAM, IN A SANDBOX (cutbox-rows.mjs): the forced cells as the released guide's own fill.sh prints them over the translation 95f3e4902b5bbc44… (all of the seat's roots in one cut). By AI agents, Wed Nov 11 2026. No macro, syntax, notation, axiom, sorry.
-/
import Derived.Test.YtkmflofokgkekaaChecked
import GoSem.Claim
import GoSem.ClaimJoined
import GoSem.ClaimMapViews
import Derived.JoinedTies
import Derived.KernelRfl
namespace Go.Proofs.Ytkmflofokgkekaa
/- THE CELL 'sum', in the pinned program and in every row, IS THE sha256 OF THE DUMP (.gsa) THAT YtkmflofokgkekaaProg.lean LOADS. Nothing in Lean hashes anything: it is a label: what it is worth is what the hold of that sum in a sandbox is worth. -/
noncomputable def Try.pinned : Pinned := { name := "ytkmflofokgkekaa", sum := "95f3e4902b5bbc4483651a542025c41b72ac55b01a352b9960f9f018a4833340", checked := Try.checked }
namespace Rows
def none {H : Type} : Left H := { results := [], args := [] }

/-- 'haywainlaw06.SeqRights': WHATEVER THE INPUT: true; the input reads as it did. -/
def seqRightsSpec : ChangeSpec := { name := "seqRights", fn := fun _ => fun
  | [d1, d2, d3] => { results := [.lit (.bool true)], args := [d1, d2, d3] }
  | _ => none }
def seqRightsRow : OpenClaim := { program := "ytkmflofokgkekaa", sum := "95f3e4902b5bbc4483651a542025c41b72ac55b01a352b9960f9f018a4833340", func := "haywain/haywainlaw06.SeqRights", spec := "seqRights", unfollowed := true, recurses := true, apart := false }
def SeqRightsSaid : Prop := seqRightsRow.holds Try.pinned (OpenSpec.ofChange seqRightsSpec)

/-- ITS FALSE NEIGHBOUR: 'it returns false'. Refute it at one input. -/
def seqRightsWrong : ChangeSpec := { name := "seqRights", fn := fun _ => fun
  | [d1, d2, d3] => { results := [.lit (.bool false)], args := [d1, d2, d3] }
  | _ => none }
def SeqRightsWrongFalsely : Prop := seqRightsRow.holds Try.pinned (OpenSpec.ofChange seqRightsWrong)

/-- 'haywainlaw06.SeqBegins': WHATEVER THE INPUT: true; the input reads as it did. -/
def seqBeginsSpec : ChangeSpec := { name := "seqBegins", fn := fun _ => fun
  | [d1, d2] => { results := [.lit (.bool true)], args := [d1, d2] }
  | _ => none }
def seqBeginsRow : OpenClaim := { program := "ytkmflofokgkekaa", sum := "95f3e4902b5bbc4483651a542025c41b72ac55b01a352b9960f9f018a4833340", func := "haywain/haywainlaw06.SeqBegins", spec := "seqBegins", unfollowed := true, recurses := true, apart := false }
def SeqBeginsSaid : Prop := seqBeginsRow.holds Try.pinned (OpenSpec.ofChange seqBeginsSpec)

/-- ITS FALSE NEIGHBOUR: 'it returns false'. Refute it at one input. -/
def seqBeginsWrong : ChangeSpec := { name := "seqBegins", fn := fun _ => fun
  | [d1, d2] => { results := [.lit (.bool false)], args := [d1, d2] }
  | _ => none }
def SeqBeginsWrongFalsely : Prop := seqBeginsRow.holds Try.pinned (OpenSpec.ofChange seqBeginsWrong)

/-- 'haywainlaw06.SeqRuns': WHATEVER THE INPUT: true; the input reads as it did. -/
def seqRunsSpec : ChangeSpec := { name := "seqRuns", fn := fun _ => fun
  | [d1, d2] => { results := [.lit (.bool true)], args := [d1, d2] }
  | _ => none }
def seqRunsRow : OpenClaim := { program := "ytkmflofokgkekaa", sum := "95f3e4902b5bbc4483651a542025c41b72ac55b01a352b9960f9f018a4833340", func := "haywain/haywainlaw06.SeqRuns", spec := "seqRuns", unfollowed := true, recurses := true, apart := false }
def SeqRunsSaid : Prop := seqRunsRow.holds Try.pinned (OpenSpec.ofChange seqRunsSpec)

/-- ITS FALSE NEIGHBOUR: 'it returns false'. Refute it at one input. -/
def seqRunsWrong : ChangeSpec := { name := "seqRuns", fn := fun _ => fun
  | [d1, d2] => { results := [.lit (.bool false)], args := [d1, d2] }
  | _ => none }
def SeqRunsWrongFalsely : Prop := seqRunsRow.holds Try.pinned (OpenSpec.ofChange seqRunsWrong)

/-- 'haywainlaw06.SeqAts': WHATEVER THE INPUT: true; the input reads as it did. -/
def seqAtsSpec : ChangeSpec := { name := "seqAts", fn := fun _ => fun
  | [d1, d2, d3] => { results := [.lit (.bool true)], args := [d1, d2, d3] }
  | _ => none }
def seqAtsRow : OpenClaim := { program := "ytkmflofokgkekaa", sum := "95f3e4902b5bbc4483651a542025c41b72ac55b01a352b9960f9f018a4833340", func := "haywain/haywainlaw06.SeqAts", spec := "seqAts", unfollowed := true, recurses := true, apart := false }
def SeqAtsSaid : Prop := seqAtsRow.holds Try.pinned (OpenSpec.ofChange seqAtsSpec)

/-- ITS FALSE NEIGHBOUR: 'it returns false'. Refute it at one input. -/
def seqAtsWrong : ChangeSpec := { name := "seqAts", fn := fun _ => fun
  | [d1, d2, d3] => { results := [.lit (.bool false)], args := [d1, d2, d3] }
  | _ => none }
def SeqAtsWrongFalsely : Prop := seqAtsRow.holds Try.pinned (OpenSpec.ofChange seqAtsWrong)

/-- 'haywainlaw06.SeqEnds': WHATEVER THE INPUT: true; the input reads as it did. -/
def seqEndsSpec : ChangeSpec := { name := "seqEnds", fn := fun _ => fun
  | [d1, d2, d3] => { results := [.lit (.bool true)], args := [d1, d2, d3] }
  | _ => none }
def seqEndsRow : OpenClaim := { program := "ytkmflofokgkekaa", sum := "95f3e4902b5bbc4483651a542025c41b72ac55b01a352b9960f9f018a4833340", func := "haywain/haywainlaw06.SeqEnds", spec := "seqEnds", unfollowed := true, recurses := true, apart := false }
def SeqEndsSaid : Prop := seqEndsRow.holds Try.pinned (OpenSpec.ofChange seqEndsSpec)

/-- ITS FALSE NEIGHBOUR: 'it returns false'. Refute it at one input. -/
def seqEndsWrong : ChangeSpec := { name := "seqEnds", fn := fun _ => fun
  | [d1, d2, d3] => { results := [.lit (.bool false)], args := [d1, d2, d3] }
  | _ => none }
def SeqEndsWrongFalsely : Prop := seqEndsRow.holds Try.pinned (OpenSpec.ofChange seqEndsWrong)

/-- 'haywainlaw06.SeqSteady': WHATEVER THE INPUT: true; the input reads as it did. -/
def seqSteadySpec : ChangeSpec := { name := "seqSteady", fn := fun _ => fun
  | [d1, d2, d3] => { results := [.lit (.bool true)], args := [d1, d2, d3] }
  | _ => none }
def seqSteadyRow : OpenClaim := { program := "ytkmflofokgkekaa", sum := "95f3e4902b5bbc4483651a542025c41b72ac55b01a352b9960f9f018a4833340", func := "haywain/haywainlaw06.SeqSteady", spec := "seqSteady", unfollowed := true, recurses := true, apart := false }
def SeqSteadySaid : Prop := seqSteadyRow.holds Try.pinned (OpenSpec.ofChange seqSteadySpec)

/-- ITS FALSE NEIGHBOUR: 'it returns false'. Refute it at one input. -/
def seqSteadyWrong : ChangeSpec := { name := "seqSteady", fn := fun _ => fun
  | [d1, d2, d3] => { results := [.lit (.bool false)], args := [d1, d2, d3] }
  | _ => none }
def SeqSteadyWrongFalsely : Prop := seqSteadyRow.holds Try.pinned (OpenSpec.ofChange seqSteadyWrong)

/-- 'haywainlaw06.SeqWays': WHATEVER THE INPUT: true; the input reads as it did. -/
def seqWaysSpec : ChangeSpec := { name := "seqWays", fn := fun _ => fun
  | [d1, d2] => { results := [.lit (.bool true)], args := [d1, d2] }
  | _ => none }
def seqWaysRow : OpenClaim := { program := "ytkmflofokgkekaa", sum := "95f3e4902b5bbc4483651a542025c41b72ac55b01a352b9960f9f018a4833340", func := "haywain/haywainlaw06.SeqWays", spec := "seqWays", unfollowed := true, recurses := true, apart := false }
def SeqWaysSaid : Prop := seqWaysRow.holds Try.pinned (OpenSpec.ofChange seqWaysSpec)

/-- ITS FALSE NEIGHBOUR: 'it returns false'. Refute it at one input. -/
def seqWaysWrong : ChangeSpec := { name := "seqWays", fn := fun _ => fun
  | [d1, d2] => { results := [.lit (.bool false)], args := [d1, d2] }
  | _ => none }
def SeqWaysWrongFalsely : Prop := seqWaysRow.holds Try.pinned (OpenSpec.ofChange seqWaysWrong)

/- THE SECOND FORM. 'bulk': how many values and letters a reading holds, each counted each time it is reached (what is shared counts as often as it is met; a slice's spare places count too). A statement '..UptoSaid' is the law's where the arguments, and the package variables that the reading takes, are together of bulk at most 1048576: NARROWER than '..Said'. Prove '..Said' where nothing that the law and all that it calls make is longer than what came in: it says more and counts as full. Else prove '..UptoSaid'. A law counts once. -/
mutual
def uptoBulk {H : Type} : DataW H → Nat
  | .lit (.string bytes) => bytes.length + 1
  | .lit _ => 1
  | .nil => 1
  | .ptr d => uptoBulk d + 1
  | .slice elems spare => uptoBulkAll elems + uptoBulkAll spare + 1
  | .agg parts => uptoBulkAll parts + 1
  | .iface _ d => uptoBulk d + 1
  | .map entries => uptoBulkEntries entries + 1
  | .held _ => 1
def uptoBulkAll {H : Type} : List (DataW H) → Nat
  | [] => 0
  | d :: r => uptoBulk d + uptoBulkAll r
def uptoBulkEntries {H : Type} : List (Lit × DataW H) → Nat
  | [] => 0
  | x :: r => uptoBulkEntry x + uptoBulkEntries r
def uptoBulkEntry {H : Type} : Lit × DataW H → Nat
  | (.string bytes, d) => bytes.length + uptoBulk d + 1
  | (_, d) => uptoBulk d + 1
 end
def uptoSmall : (H : Type) → List (DataW H) → Bool := fun _ ds => decide (uptoBulkAll ds ≤ 1048576)
def OpenSpec.upto (s : _root_.Go.ChangeSpec) : _root_.Go.OpenSpec := { _root_.Go.OpenSpec.ofChange s with cond := some uptoSmall }

/-- 'haywainlaw06.SeqRights', WHERE WHAT IT READS IS OF BULK AT MOST 1048576: true; the input reads as it did. -/
def seqRightsUptoRow : OpenClaim := { program := "ytkmflofokgkekaa", sum := "95f3e4902b5bbc4483651a542025c41b72ac55b01a352b9960f9f018a4833340", func := "haywain/haywainlaw06.SeqRights", spec := "seqRights", unfollowed := true, recurses := true, apart := false, narrowed := true }
def SeqRightsUptoSaid : Prop := seqRightsUptoRow.holds Try.pinned (OpenSpec.upto seqRightsSpec)

/-- 'haywainlaw06.SeqBegins', WHERE WHAT IT READS IS OF BULK AT MOST 1048576: true; the input reads as it did. -/
def seqBeginsUptoRow : OpenClaim := { program := "ytkmflofokgkekaa", sum := "95f3e4902b5bbc4483651a542025c41b72ac55b01a352b9960f9f018a4833340", func := "haywain/haywainlaw06.SeqBegins", spec := "seqBegins", unfollowed := true, recurses := true, apart := false, narrowed := true }
def SeqBeginsUptoSaid : Prop := seqBeginsUptoRow.holds Try.pinned (OpenSpec.upto seqBeginsSpec)

/-- 'haywainlaw06.SeqRuns', WHERE WHAT IT READS IS OF BULK AT MOST 1048576: true; the input reads as it did. -/
def seqRunsUptoRow : OpenClaim := { program := "ytkmflofokgkekaa", sum := "95f3e4902b5bbc4483651a542025c41b72ac55b01a352b9960f9f018a4833340", func := "haywain/haywainlaw06.SeqRuns", spec := "seqRuns", unfollowed := true, recurses := true, apart := false, narrowed := true }
def SeqRunsUptoSaid : Prop := seqRunsUptoRow.holds Try.pinned (OpenSpec.upto seqRunsSpec)

/-- 'haywainlaw06.SeqAts', WHERE WHAT IT READS IS OF BULK AT MOST 1048576: true; the input reads as it did. -/
def seqAtsUptoRow : OpenClaim := { program := "ytkmflofokgkekaa", sum := "95f3e4902b5bbc4483651a542025c41b72ac55b01a352b9960f9f018a4833340", func := "haywain/haywainlaw06.SeqAts", spec := "seqAts", unfollowed := true, recurses := true, apart := false, narrowed := true }
def SeqAtsUptoSaid : Prop := seqAtsUptoRow.holds Try.pinned (OpenSpec.upto seqAtsSpec)

/-- 'haywainlaw06.SeqEnds', WHERE WHAT IT READS IS OF BULK AT MOST 1048576: true; the input reads as it did. -/
def seqEndsUptoRow : OpenClaim := { program := "ytkmflofokgkekaa", sum := "95f3e4902b5bbc4483651a542025c41b72ac55b01a352b9960f9f018a4833340", func := "haywain/haywainlaw06.SeqEnds", spec := "seqEnds", unfollowed := true, recurses := true, apart := false, narrowed := true }
def SeqEndsUptoSaid : Prop := seqEndsUptoRow.holds Try.pinned (OpenSpec.upto seqEndsSpec)

/-- 'haywainlaw06.SeqSteady', WHERE WHAT IT READS IS OF BULK AT MOST 1048576: true; the input reads as it did. -/
def seqSteadyUptoRow : OpenClaim := { program := "ytkmflofokgkekaa", sum := "95f3e4902b5bbc4483651a542025c41b72ac55b01a352b9960f9f018a4833340", func := "haywain/haywainlaw06.SeqSteady", spec := "seqSteady", unfollowed := true, recurses := true, apart := false, narrowed := true }
def SeqSteadyUptoSaid : Prop := seqSteadyUptoRow.holds Try.pinned (OpenSpec.upto seqSteadySpec)

/-- 'haywainlaw06.SeqWays', WHERE WHAT IT READS IS OF BULK AT MOST 1048576: true; the input reads as it did. -/
def seqWaysUptoRow : OpenClaim := { program := "ytkmflofokgkekaa", sum := "95f3e4902b5bbc4483651a542025c41b72ac55b01a352b9960f9f018a4833340", func := "haywain/haywainlaw06.SeqWays", spec := "seqWays", unfollowed := true, recurses := true, apart := false, narrowed := true }
def SeqWaysUptoSaid : Prop := seqWaysUptoRow.holds Try.pinned (OpenSpec.upto seqWaysSpec)

end Rows
end Go.Proofs.Ytkmflofokgkekaa
