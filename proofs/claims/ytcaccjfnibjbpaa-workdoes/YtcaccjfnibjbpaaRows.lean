/-
  No cell of these rows narrows 'for every input' (looked for: loops, veiled, ifaces, maps, wideKeys, modest, calm, conditions, laid).
  DERIVED. THE GIVEN ROWS OF THIS SEAT. 5 by the template 'for every input the law returns true; each argument reads behind the call as it read before'; 0 by the template 'total and deterministic' (their statements: YtcaccjfnibjbpaaTotals.lean).
  GIVEN WITH THE SEED: the statements are not yours to turn. If you find one false, say at which input.
  Laid BY PROGRAM, IN A SANDBOX (cutbox-rows.mjs): the forced cells as the released guide's own fill.sh prints them over the translation 2d0b97126ea8e07f… (all of the seat's roots in one cut). By AI agents, Wed Nov 11 2026. No macro, syntax, notation, axiom, sorry.
-/
import Derived.Test.YtcaccjfnibjbpaaChecked
import GoSem.Claim
import GoSem.ClaimJoined
import GoSem.ClaimMapViews
import Derived.JoinedTies
import Derived.KernelRfl
namespace Go.Proofs.Ytcaccjfnibjbpaa
/- THE CELL 'sum', in the pinned program and in every row, IS THE sha256 OF THE DUMP (.gsa) THAT YtcaccjfnibjbpaaProg.lean LOADS. Nothing in Lean hashes anything: it is a label: what it is worth is what the hold of that sum in a sandbox is worth. -/
noncomputable def Try.pinned : Pinned := { name := "ytcaccjfnibjbpaa", sum := "2d0b97126ea8e07f62a70980c52a3727c8f557b16b3ade5209425e41af845eab", checked := Try.checked }
namespace Rows
def none {H : Type} : Left H := { results := [], args := [] }

/-- 'haywainlaw08.WorkDoes': WHATEVER THE INPUT: true; the input reads as it did. -/
def workDoesSpec : ChangeSpec := { name := "workDoes", fn := fun _ => fun
  | [d1, d2, d3] => { results := [.lit (.bool true)], args := [d1, d2, d3] }
  | _ => none }
def workDoesRow : OpenClaim := { program := "ytcaccjfnibjbpaa", sum := "2d0b97126ea8e07f62a70980c52a3727c8f557b16b3ade5209425e41af845eab", func := "haywain/haywainlaw08.WorkDoes", spec := "workDoes", unfollowed := true, recurses := true, apart := false }
def WorkDoesSaid : Prop := workDoesRow.holds Try.pinned (OpenSpec.ofChange workDoesSpec)

/-- ITS FALSE NEIGHBOUR: 'it returns false'. Refute it at one input. -/
def workDoesWrong : ChangeSpec := { name := "workDoes", fn := fun _ => fun
  | [d1, d2, d3] => { results := [.lit (.bool false)], args := [d1, d2, d3] }
  | _ => none }
def WorkDoesWrongFalsely : Prop := workDoesRow.holds Try.pinned (OpenSpec.ofChange workDoesWrong)

/-- 'haywainlaw08.WorkTakes': WHATEVER THE INPUT: true; the input reads as it did. -/
def workTakesSpec : ChangeSpec := { name := "workTakes", fn := fun _ => fun
  | [d1, d2, d3, d4] => { results := [.lit (.bool true)], args := [d1, d2, d3, d4] }
  | _ => none }
def workTakesRow : OpenClaim := { program := "ytcaccjfnibjbpaa", sum := "2d0b97126ea8e07f62a70980c52a3727c8f557b16b3ade5209425e41af845eab", func := "haywain/haywainlaw08.WorkTakes", spec := "workTakes", unfollowed := true, recurses := true, apart := false }
def WorkTakesSaid : Prop := workTakesRow.holds Try.pinned (OpenSpec.ofChange workTakesSpec)

/-- ITS FALSE NEIGHBOUR: 'it returns false'. Refute it at one input. -/
def workTakesWrong : ChangeSpec := { name := "workTakes", fn := fun _ => fun
  | [d1, d2, d3, d4] => { results := [.lit (.bool false)], args := [d1, d2, d3, d4] }
  | _ => none }
def WorkTakesWrongFalsely : Prop := workTakesRow.holds Try.pinned (OpenSpec.ofChange workTakesWrong)

/-- 'haywainlaw08.WorkQuiet': WHATEVER THE INPUT: true; the input reads as it did. -/
def workQuietSpec : ChangeSpec := { name := "workQuiet", fn := fun _ => fun
  | [d1, d2, d3] => { results := [.lit (.bool true)], args := [d1, d2, d3] }
  | _ => none }
def workQuietRow : OpenClaim := { program := "ytcaccjfnibjbpaa", sum := "2d0b97126ea8e07f62a70980c52a3727c8f557b16b3ade5209425e41af845eab", func := "haywain/haywainlaw08.WorkQuiet", spec := "workQuiet", unfollowed := true, recurses := true, apart := false }
def WorkQuietSaid : Prop := workQuietRow.holds Try.pinned (OpenSpec.ofChange workQuietSpec)

/-- ITS FALSE NEIGHBOUR: 'it returns false'. Refute it at one input. -/
def workQuietWrong : ChangeSpec := { name := "workQuiet", fn := fun _ => fun
  | [d1, d2, d3] => { results := [.lit (.bool false)], args := [d1, d2, d3] }
  | _ => none }
def WorkQuietWrongFalsely : Prop := workQuietRow.holds Try.pinned (OpenSpec.ofChange workQuietWrong)

/-- 'haywainlaw08.WorkHomes': WHATEVER THE INPUT: true; the input reads as it did. -/
def workHomesSpec : ChangeSpec := { name := "workHomes", fn := fun _ => fun
  | [d1, d2, d3] => { results := [.lit (.bool true)], args := [d1, d2, d3] }
  | _ => none }
def workHomesRow : OpenClaim := { program := "ytcaccjfnibjbpaa", sum := "2d0b97126ea8e07f62a70980c52a3727c8f557b16b3ade5209425e41af845eab", func := "haywain/haywainlaw08.WorkHomes", spec := "workHomes", unfollowed := true, recurses := true, apart := false }
def WorkHomesSaid : Prop := workHomesRow.holds Try.pinned (OpenSpec.ofChange workHomesSpec)

/-- ITS FALSE NEIGHBOUR: 'it returns false'. Refute it at one input. -/
def workHomesWrong : ChangeSpec := { name := "workHomes", fn := fun _ => fun
  | [d1, d2, d3] => { results := [.lit (.bool false)], args := [d1, d2, d3] }
  | _ => none }
def WorkHomesWrongFalsely : Prop := workHomesRow.holds Try.pinned (OpenSpec.ofChange workHomesWrong)

/-- 'haywainlaw08.WorkAgain': WHATEVER THE INPUT: true; the input reads as it did. -/
def workAgainSpec : ChangeSpec := { name := "workAgain", fn := fun _ => fun
  | [d1, d2, d3, d4] => { results := [.lit (.bool true)], args := [d1, d2, d3, d4] }
  | _ => none }
def workAgainRow : OpenClaim := { program := "ytcaccjfnibjbpaa", sum := "2d0b97126ea8e07f62a70980c52a3727c8f557b16b3ade5209425e41af845eab", func := "haywain/haywainlaw08.WorkAgain", spec := "workAgain", unfollowed := true, recurses := true, apart := false }
def WorkAgainSaid : Prop := workAgainRow.holds Try.pinned (OpenSpec.ofChange workAgainSpec)

/-- ITS FALSE NEIGHBOUR: 'it returns false'. Refute it at one input. -/
def workAgainWrong : ChangeSpec := { name := "workAgain", fn := fun _ => fun
  | [d1, d2, d3, d4] => { results := [.lit (.bool false)], args := [d1, d2, d3, d4] }
  | _ => none }
def WorkAgainWrongFalsely : Prop := workAgainRow.holds Try.pinned (OpenSpec.ofChange workAgainWrong)

/- THE SECOND FORM. 'bulk': how many values and letters a reading holds, each counted each time it is reached (what is shared counts as often as it is met; a slice's spare places count too). A statement '..UptoSaid' is the law's where the arguments, and the package variables that the reading takes, are together of bulk at most 1048576: NARROWER than '..Said'. Prove '..Said' where nothing that the law and all that it calls make is longer than what came in: it says more and counts as full. Else prove '..UptoSaid'. A law counts once. -/
mutual
def uptoBulk {H : Type} : DataW H → Nat
  | .lit (.string bytes) => bytes.length + 1
  | .lit _ => 1
  | .nil => 1
  | .ptr d => uptoBulk d + 1
  | .slice elems spare => uptoBulkAll elems + uptoBulkAll spare + 1
  | .agg parts => uptoBulkAll parts + 1
  | .iface _ d => uptoBulk d + 1
  | .map entries => uptoBulkEntries entries + 1
  | .held _ => 1
def uptoBulkAll {H : Type} : List (DataW H) → Nat
  | [] => 0
  | d :: r => uptoBulk d + uptoBulkAll r
def uptoBulkEntries {H : Type} : List (Lit × DataW H) → Nat
  | [] => 0
  | x :: r => uptoBulkEntry x + uptoBulkEntries r
def uptoBulkEntry {H : Type} : Lit × DataW H → Nat
  | (.string bytes, d) => bytes.length + uptoBulk d + 1
  | (_, d) => uptoBulk d + 1
 end
def uptoSmall : (H : Type) → List (DataW H) → Bool := fun _ ds => decide (uptoBulkAll ds ≤ 1048576)
def OpenSpec.upto (s : _root_.Go.ChangeSpec) : _root_.Go.OpenSpec := { _root_.Go.OpenSpec.ofChange s with cond := some uptoSmall }

/-- 'haywainlaw08.WorkDoes', WHERE WHAT IT READS IS OF BULK AT MOST 1048576: true; the input reads as it did. -/
def workDoesUptoRow : OpenClaim := { program := "ytcaccjfnibjbpaa", sum := "2d0b97126ea8e07f62a70980c52a3727c8f557b16b3ade5209425e41af845eab", func := "haywain/haywainlaw08.WorkDoes", spec := "workDoes", unfollowed := true, recurses := true, apart := false, narrowed := true }
def WorkDoesUptoSaid : Prop := workDoesUptoRow.holds Try.pinned (OpenSpec.upto workDoesSpec)

/-- 'haywainlaw08.WorkTakes', WHERE WHAT IT READS IS OF BULK AT MOST 1048576: true; the input reads as it did. -/
def workTakesUptoRow : OpenClaim := { program := "ytcaccjfnibjbpaa", sum := "2d0b97126ea8e07f62a70980c52a3727c8f557b16b3ade5209425e41af845eab", func := "haywain/haywainlaw08.WorkTakes", spec := "workTakes", unfollowed := true, recurses := true, apart := false, narrowed := true }
def WorkTakesUptoSaid : Prop := workTakesUptoRow.holds Try.pinned (OpenSpec.upto workTakesSpec)

/-- 'haywainlaw08.WorkQuiet', WHERE WHAT IT READS IS OF BULK AT MOST 1048576: true; the input reads as it did. -/
def workQuietUptoRow : OpenClaim := { program := "ytcaccjfnibjbpaa", sum := "2d0b97126ea8e07f62a70980c52a3727c8f557b16b3ade5209425e41af845eab", func := "haywain/haywainlaw08.WorkQuiet", spec := "workQuiet", unfollowed := true, recurses := true, apart := false, narrowed := true }
def WorkQuietUptoSaid : Prop := workQuietUptoRow.holds Try.pinned (OpenSpec.upto workQuietSpec)

/-- 'haywainlaw08.WorkHomes', WHERE WHAT IT READS IS OF BULK AT MOST 1048576: true; the input reads as it did. -/
def workHomesUptoRow : OpenClaim := { program := "ytcaccjfnibjbpaa", sum := "2d0b97126ea8e07f62a70980c52a3727c8f557b16b3ade5209425e41af845eab", func := "haywain/haywainlaw08.WorkHomes", spec := "workHomes", unfollowed := true, recurses := true, apart := false, narrowed := true }
def WorkHomesUptoSaid : Prop := workHomesUptoRow.holds Try.pinned (OpenSpec.upto workHomesSpec)

/-- 'haywainlaw08.WorkAgain', WHERE WHAT IT READS IS OF BULK AT MOST 1048576: true; the input reads as it did. -/
def workAgainUptoRow : OpenClaim := { program := "ytcaccjfnibjbpaa", sum := "2d0b97126ea8e07f62a70980c52a3727c8f557b16b3ade5209425e41af845eab", func := "haywain/haywainlaw08.WorkAgain", spec := "workAgain", unfollowed := true, recurses := true, apart := false, narrowed := true }
def WorkAgainUptoSaid : Prop := workAgainUptoRow.holds Try.pinned (OpenSpec.upto workAgainSpec)

end Rows
end Go.Proofs.Ytcaccjfnibjbpaa
