/-
  No cell of these rows narrows 'for every input' (looked for: loops, veiled, ifaces, maps, wideKeys, modest, calm, conditions, laid).
  DERIVED. THE GIVEN ROWS OF THIS SEAT. 6 by the template 'for every input the law returns true; each argument reads behind the call as it read before'; 0 by the template 'total and deterministic' (their statements: YtgfcgeiifinmmaaTotals.lean).
  GIVEN WITH THE SEED: the statements are not yours to turn. If you find one false, say at which input.
  Laid BY PROGRAM, IN A SANDBOX (cutbox-rows.mjs): the forced cells as the released guide's own fill.sh prints them over the translation 1b29ad75d202c24b… (all of the seat's roots in one cut). By AI agents, Wed Nov 11 2026. No macro, syntax, notation, axiom, sorry.
-/
import Derived.Test.YtgfcgeiifinmmaaChecked
import GoSem.Claim
import GoSem.ClaimJoined
import GoSem.ClaimMapViews
import Derived.JoinedTies
import Derived.KernelRfl
namespace Go.Proofs.Ytgfcgeiifinmmaa
/- THE CELL 'sum', in the pinned program and in every row, IS THE sha256 OF THE DUMP (.gsa) THAT YtgfcgeiifinmmaaProg.lean LOADS. Nothing in Lean hashes anything: it is a label: what it is worth is what the hold of that sum in a sandbox is worth. -/
noncomputable def Try.pinned : Pinned := { name := "ytgfcgeiifinmmaa", sum := "1b29ad75d202c24bf9de8d0ccf69efa5906fdf8350166d08dbe297870a865a1a", checked := Try.checked }
namespace Rows
def none {H : Type} : Left H := { results := [], args := [] }

/-- 'haywainlaw07.PartHomes': WHATEVER THE INPUT: true; the input reads as it did. -/
def partHomesSpec : ChangeSpec := { name := "partHomes", fn := fun _ => fun
  | [d1, d2, d3, d4] => { results := [.lit (.bool true)], args := [d1, d2, d3, d4] }
  | _ => none }
def partHomesRow : OpenClaim := { program := "ytgfcgeiifinmmaa", sum := "1b29ad75d202c24bf9de8d0ccf69efa5906fdf8350166d08dbe297870a865a1a", func := "haywain/haywainlaw07.PartHomes", spec := "partHomes", unfollowed := true, recurses := true, apart := false }
def PartHomesSaid : Prop := partHomesRow.holds Try.pinned (OpenSpec.ofChange partHomesSpec)

/-- ITS FALSE NEIGHBOUR: 'it returns false'. Refute it at one input. -/
def partHomesWrong : ChangeSpec := { name := "partHomes", fn := fun _ => fun
  | [d1, d2, d3, d4] => { results := [.lit (.bool false)], args := [d1, d2, d3, d4] }
  | _ => none }
def PartHomesWrongFalsely : Prop := partHomesRow.holds Try.pinned (OpenSpec.ofChange partHomesWrong)

/-- 'haywainlaw07.PartRights': WHATEVER THE INPUT: true; the input reads as it did. -/
def partRightsSpec : ChangeSpec := { name := "partRights", fn := fun _ => fun
  | [d1, d2, d3] => { results := [.lit (.bool true)], args := [d1, d2, d3] }
  | _ => none }
def partRightsRow : OpenClaim := { program := "ytgfcgeiifinmmaa", sum := "1b29ad75d202c24bf9de8d0ccf69efa5906fdf8350166d08dbe297870a865a1a", func := "haywain/haywainlaw07.PartRights", spec := "partRights", unfollowed := true, recurses := true, apart := false }
def PartRightsSaid : Prop := partRightsRow.holds Try.pinned (OpenSpec.ofChange partRightsSpec)

/-- ITS FALSE NEIGHBOUR: 'it returns false'. Refute it at one input. -/
def partRightsWrong : ChangeSpec := { name := "partRights", fn := fun _ => fun
  | [d1, d2, d3] => { results := [.lit (.bool false)], args := [d1, d2, d3] }
  | _ => none }
def PartRightsWrongFalsely : Prop := partRightsRow.holds Try.pinned (OpenSpec.ofChange partRightsWrong)

/-- 'haywainlaw07.PartSplits': WHATEVER THE INPUT: true; the input reads as it did. -/
def partSplitsSpec : ChangeSpec := { name := "partSplits", fn := fun _ => fun
  | [d1, d2, d3] => { results := [.lit (.bool true)], args := [d1, d2, d3] }
  | _ => none }
def partSplitsRow : OpenClaim := { program := "ytgfcgeiifinmmaa", sum := "1b29ad75d202c24bf9de8d0ccf69efa5906fdf8350166d08dbe297870a865a1a", func := "haywain/haywainlaw07.PartSplits", spec := "partSplits", unfollowed := true, recurses := true, apart := false }
def PartSplitsSaid : Prop := partSplitsRow.holds Try.pinned (OpenSpec.ofChange partSplitsSpec)

/-- ITS FALSE NEIGHBOUR: 'it returns false'. Refute it at one input. -/
def partSplitsWrong : ChangeSpec := { name := "partSplits", fn := fun _ => fun
  | [d1, d2, d3] => { results := [.lit (.bool false)], args := [d1, d2, d3] }
  | _ => none }
def PartSplitsWrongFalsely : Prop := partSplitsRow.holds Try.pinned (OpenSpec.ofChange partSplitsWrong)

/-- 'haywainlaw07.PartJoins': WHATEVER THE INPUT: true; the input reads as it did. -/
def partJoinsSpec : ChangeSpec := { name := "partJoins", fn := fun _ => fun
  | [d1, d2, d3] => { results := [.lit (.bool true)], args := [d1, d2, d3] }
  | _ => none }
def partJoinsRow : OpenClaim := { program := "ytgfcgeiifinmmaa", sum := "1b29ad75d202c24bf9de8d0ccf69efa5906fdf8350166d08dbe297870a865a1a", func := "haywain/haywainlaw07.PartJoins", spec := "partJoins", unfollowed := true, recurses := true, apart := false }
def PartJoinsSaid : Prop := partJoinsRow.holds Try.pinned (OpenSpec.ofChange partJoinsSpec)

/-- ITS FALSE NEIGHBOUR: 'it returns false'. Refute it at one input. -/
def partJoinsWrong : ChangeSpec := { name := "partJoins", fn := fun _ => fun
  | [d1, d2, d3] => { results := [.lit (.bool false)], args := [d1, d2, d3] }
  | _ => none }
def PartJoinsWrongFalsely : Prop := partJoinsRow.holds Try.pinned (OpenSpec.ofChange partJoinsWrong)

/-- 'haywainlaw07.PartBack': WHATEVER THE INPUT: true; the input reads as it did. -/
def partBackSpec : ChangeSpec := { name := "partBack", fn := fun _ => fun
  | [d1, d2, d3] => { results := [.lit (.bool true)], args := [d1, d2, d3] }
  | _ => none }
def partBackRow : OpenClaim := { program := "ytgfcgeiifinmmaa", sum := "1b29ad75d202c24bf9de8d0ccf69efa5906fdf8350166d08dbe297870a865a1a", func := "haywain/haywainlaw07.PartBack", spec := "partBack", unfollowed := true, recurses := true, apart := false }
def PartBackSaid : Prop := partBackRow.holds Try.pinned (OpenSpec.ofChange partBackSpec)

/-- ITS FALSE NEIGHBOUR: 'it returns false'. Refute it at one input. -/
def partBackWrong : ChangeSpec := { name := "partBack", fn := fun _ => fun
  | [d1, d2, d3] => { results := [.lit (.bool false)], args := [d1, d2, d3] }
  | _ => none }
def PartBackWrongFalsely : Prop := partBackRow.holds Try.pinned (OpenSpec.ofChange partBackWrong)

/-- 'haywainlaw07.PartWhole': WHATEVER THE INPUT: true; the input reads as it did. -/
def partWholeSpec : ChangeSpec := { name := "partWhole", fn := fun _ => fun
  | [d1, d2, d3] => { results := [.lit (.bool true)], args := [d1, d2, d3] }
  | _ => none }
def partWholeRow : OpenClaim := { program := "ytgfcgeiifinmmaa", sum := "1b29ad75d202c24bf9de8d0ccf69efa5906fdf8350166d08dbe297870a865a1a", func := "haywain/haywainlaw07.PartWhole", spec := "partWhole", unfollowed := true, recurses := true, apart := false }
def PartWholeSaid : Prop := partWholeRow.holds Try.pinned (OpenSpec.ofChange partWholeSpec)

/-- ITS FALSE NEIGHBOUR: 'it returns false'. Refute it at one input. -/
def partWholeWrong : ChangeSpec := { name := "partWhole", fn := fun _ => fun
  | [d1, d2, d3] => { results := [.lit (.bool false)], args := [d1, d2, d3] }
  | _ => none }
def PartWholeWrongFalsely : Prop := partWholeRow.holds Try.pinned (OpenSpec.ofChange partWholeWrong)

/- THE SECOND FORM. 'bulk': how many values and letters a reading holds, each counted each time it is reached (what is shared counts as often as it is met; a slice's spare places count too). A statement '..UptoSaid' is the law's where the arguments, and the package variables that the reading takes, are together of bulk at most 1048576: NARROWER than '..Said'. Prove '..Said' where nothing that the law and all that it calls make is longer than what came in: it says more and counts as full. Else prove '..UptoSaid'. A law counts once. -/
mutual
def uptoBulk {H : Type} : DataW H → Nat
  | .lit (.string bytes) => bytes.length + 1
  | .lit _ => 1
  | .nil => 1
  | .ptr d => uptoBulk d + 1
  | .slice elems spare => uptoBulkAll elems + uptoBulkAll spare + 1
  | .agg parts => uptoBulkAll parts + 1
  | .iface _ d => uptoBulk d + 1
  | .map entries => uptoBulkEntries entries + 1
  | .held _ => 1
def uptoBulkAll {H : Type} : List (DataW H) → Nat
  | [] => 0
  | d :: r => uptoBulk d + uptoBulkAll r
def uptoBulkEntries {H : Type} : List (Lit × DataW H) → Nat
  | [] => 0
  | x :: r => uptoBulkEntry x + uptoBulkEntries r
def uptoBulkEntry {H : Type} : Lit × DataW H → Nat
  | (.string bytes, d) => bytes.length + uptoBulk d + 1
  | (_, d) => uptoBulk d + 1
 end
def uptoSmall : (H : Type) → List (DataW H) → Bool := fun _ ds => decide (uptoBulkAll ds ≤ 1048576)
def OpenSpec.upto (s : _root_.Go.ChangeSpec) : _root_.Go.OpenSpec := { _root_.Go.OpenSpec.ofChange s with cond := some uptoSmall }

/-- 'haywainlaw07.PartHomes', WHERE WHAT IT READS IS OF BULK AT MOST 1048576: true; the input reads as it did. -/
def partHomesUptoRow : OpenClaim := { program := "ytgfcgeiifinmmaa", sum := "1b29ad75d202c24bf9de8d0ccf69efa5906fdf8350166d08dbe297870a865a1a", func := "haywain/haywainlaw07.PartHomes", spec := "partHomes", unfollowed := true, recurses := true, apart := false, narrowed := true }
def PartHomesUptoSaid : Prop := partHomesUptoRow.holds Try.pinned (OpenSpec.upto partHomesSpec)

/-- 'haywainlaw07.PartRights', WHERE WHAT IT READS IS OF BULK AT MOST 1048576: true; the input reads as it did. -/
def partRightsUptoRow : OpenClaim := { program := "ytgfcgeiifinmmaa", sum := "1b29ad75d202c24bf9de8d0ccf69efa5906fdf8350166d08dbe297870a865a1a", func := "haywain/haywainlaw07.PartRights", spec := "partRights", unfollowed := true, recurses := true, apart := false, narrowed := true }
def PartRightsUptoSaid : Prop := partRightsUptoRow.holds Try.pinned (OpenSpec.upto partRightsSpec)

/-- 'haywainlaw07.PartSplits', WHERE WHAT IT READS IS OF BULK AT MOST 1048576: true; the input reads as it did. -/
def partSplitsUptoRow : OpenClaim := { program := "ytgfcgeiifinmmaa", sum := "1b29ad75d202c24bf9de8d0ccf69efa5906fdf8350166d08dbe297870a865a1a", func := "haywain/haywainlaw07.PartSplits", spec := "partSplits", unfollowed := true, recurses := true, apart := false, narrowed := true }
def PartSplitsUptoSaid : Prop := partSplitsUptoRow.holds Try.pinned (OpenSpec.upto partSplitsSpec)

/-- 'haywainlaw07.PartJoins', WHERE WHAT IT READS IS OF BULK AT MOST 1048576: true; the input reads as it did. -/
def partJoinsUptoRow : OpenClaim := { program := "ytgfcgeiifinmmaa", sum := "1b29ad75d202c24bf9de8d0ccf69efa5906fdf8350166d08dbe297870a865a1a", func := "haywain/haywainlaw07.PartJoins", spec := "partJoins", unfollowed := true, recurses := true, apart := false, narrowed := true }
def PartJoinsUptoSaid : Prop := partJoinsUptoRow.holds Try.pinned (OpenSpec.upto partJoinsSpec)

/-- 'haywainlaw07.PartBack', WHERE WHAT IT READS IS OF BULK AT MOST 1048576: true; the input reads as it did. -/
def partBackUptoRow : OpenClaim := { program := "ytgfcgeiifinmmaa", sum := "1b29ad75d202c24bf9de8d0ccf69efa5906fdf8350166d08dbe297870a865a1a", func := "haywain/haywainlaw07.PartBack", spec := "partBack", unfollowed := true, recurses := true, apart := false, narrowed := true }
def PartBackUptoSaid : Prop := partBackUptoRow.holds Try.pinned (OpenSpec.upto partBackSpec)

/-- 'haywainlaw07.PartWhole', WHERE WHAT IT READS IS OF BULK AT MOST 1048576: true; the input reads as it did. -/
def partWholeUptoRow : OpenClaim := { program := "ytgfcgeiifinmmaa", sum := "1b29ad75d202c24bf9de8d0ccf69efa5906fdf8350166d08dbe297870a865a1a", func := "haywain/haywainlaw07.PartWhole", spec := "partWhole", unfollowed := true, recurses := true, apart := false, narrowed := true }
def PartWholeUptoSaid : Prop := partWholeUptoRow.holds Try.pinned (OpenSpec.upto partWholeSpec)

end Rows
end Go.Proofs.Ytgfcgeiifinmmaa
