/-
  No cell of these rows narrows 'for every input' (looked for: loops, veiled, ifaces, maps, wideKeys, modest, calm, conditions, laid).
  DERIVED. THE GIVEN ROWS OF THIS SEAT. 7 by the template 'for every input the law returns true; each argument reads behind the call as it read before'; 0 by the template 'total and deterministic' (their statements: YtielmlcgdolgkaaTotals.lean).
  GIVEN WITH THE SEED: the statements are not yours to turn. If you find one false, say at which input.
  Laid BY PROGRAM, IN A SANDBOX (cutbox-rows.mjs): the forced cells as the released guide's own fill.sh prints them over the translation cde8b174bd29ac85… (all of the seat's roots in one cut). By AI agents, Wed Nov 11 2026. No macro, syntax, notation, axiom, sorry.
-/
import Derived.Test.YtielmlcgdolgkaaChecked
import GoSem.Claim
import GoSem.ClaimJoined
import GoSem.ClaimMapViews
import Derived.JoinedTies
import Derived.KernelRfl
namespace Go.Proofs.Ytielmlcgdolgkaa
/- THE CELL 'sum', in the pinned program and in every row, IS THE sha256 OF THE DUMP (.gsa) THAT YtielmlcgdolgkaaProg.lean LOADS. Nothing in Lean hashes anything: it is a label: what it is worth is what the hold of that sum in a sandbox is worth. -/
noncomputable def Try.pinned : Pinned := { name := "ytielmlcgdolgkaa", sum := "cde8b174bd29ac85469e2b7fe96e9e51f622c772c57bcb30dc36933b761b27d9", checked := Try.checked }
namespace Rows
def none {H : Type} : Left H := { results := [], args := [] }

/-- 'haywainlaw04.ProgChecks': WHATEVER THE INPUT: true; the input reads as it did. -/
def progChecksSpec : ChangeSpec := { name := "progChecks", fn := fun _ => fun
  | [d1, d2] => { results := [.lit (.bool true)], args := [d1, d2] }
  | _ => none }
def progChecksRow : OpenClaim := { program := "ytielmlcgdolgkaa", sum := "cde8b174bd29ac85469e2b7fe96e9e51f622c772c57bcb30dc36933b761b27d9", func := "haywain/haywainlaw04.ProgChecks", spec := "progChecks", unfollowed := true, recurses := true, apart := false }
def ProgChecksSaid : Prop := progChecksRow.holds Try.pinned (OpenSpec.ofChange progChecksSpec)

/-- ITS FALSE NEIGHBOUR: 'it returns false'. Refute it at one input. -/
def progChecksWrong : ChangeSpec := { name := "progChecks", fn := fun _ => fun
  | [d1, d2] => { results := [.lit (.bool false)], args := [d1, d2] }
  | _ => none }
def ProgChecksWrongFalsely : Prop := progChecksRow.holds Try.pinned (OpenSpec.ofChange progChecksWrong)

/-- 'haywainlaw04.ProgStarts': WHATEVER THE INPUT: true; the input reads as it did. -/
def progStartsSpec : ChangeSpec := { name := "progStarts", fn := fun _ => fun
  | [d1, d2, d3] => { results := [.lit (.bool true)], args := [d1, d2, d3] }
  | _ => none }
def progStartsRow : OpenClaim := { program := "ytielmlcgdolgkaa", sum := "cde8b174bd29ac85469e2b7fe96e9e51f622c772c57bcb30dc36933b761b27d9", func := "haywain/haywainlaw04.ProgStarts", spec := "progStarts", unfollowed := true, recurses := true, apart := false }
def ProgStartsSaid : Prop := progStartsRow.holds Try.pinned (OpenSpec.ofChange progStartsSpec)

/-- ITS FALSE NEIGHBOUR: 'it returns false'. Refute it at one input. -/
def progStartsWrong : ChangeSpec := { name := "progStarts", fn := fun _ => fun
  | [d1, d2, d3] => { results := [.lit (.bool false)], args := [d1, d2, d3] }
  | _ => none }
def ProgStartsWrongFalsely : Prop := progStartsRow.holds Try.pinned (OpenSpec.ofChange progStartsWrong)

/-- 'haywainlaw04.ProgFolds': WHATEVER THE INPUT: true; the input reads as it did. -/
def progFoldsSpec : ChangeSpec := { name := "progFolds", fn := fun _ => fun
  | [d1, d2, d3] => { results := [.lit (.bool true)], args := [d1, d2, d3] }
  | _ => none }
def progFoldsRow : OpenClaim := { program := "ytielmlcgdolgkaa", sum := "cde8b174bd29ac85469e2b7fe96e9e51f622c772c57bcb30dc36933b761b27d9", func := "haywain/haywainlaw04.ProgFolds", spec := "progFolds", unfollowed := true, recurses := true, apart := false }
def ProgFoldsSaid : Prop := progFoldsRow.holds Try.pinned (OpenSpec.ofChange progFoldsSpec)

/-- ITS FALSE NEIGHBOUR: 'it returns false'. Refute it at one input. -/
def progFoldsWrong : ChangeSpec := { name := "progFolds", fn := fun _ => fun
  | [d1, d2, d3] => { results := [.lit (.bool false)], args := [d1, d2, d3] }
  | _ => none }
def ProgFoldsWrongFalsely : Prop := progFoldsRow.holds Try.pinned (OpenSpec.ofChange progFoldsWrong)

/-- 'haywainlaw04.ProgGroups': WHATEVER THE INPUT: true; the input reads as it did. -/
def progGroupsSpec : ChangeSpec := { name := "progGroups", fn := fun _ => fun
  | [d1, d2, d3, d4] => { results := [.lit (.bool true)], args := [d1, d2, d3, d4] }
  | _ => none }
def progGroupsRow : OpenClaim := { program := "ytielmlcgdolgkaa", sum := "cde8b174bd29ac85469e2b7fe96e9e51f622c772c57bcb30dc36933b761b27d9", func := "haywain/haywainlaw04.ProgGroups", spec := "progGroups", unfollowed := true, recurses := true, apart := false }
def ProgGroupsSaid : Prop := progGroupsRow.holds Try.pinned (OpenSpec.ofChange progGroupsSpec)

/-- ITS FALSE NEIGHBOUR: 'it returns false'. Refute it at one input. -/
def progGroupsWrong : ChangeSpec := { name := "progGroups", fn := fun _ => fun
  | [d1, d2, d3, d4] => { results := [.lit (.bool false)], args := [d1, d2, d3, d4] }
  | _ => none }
def ProgGroupsWrongFalsely : Prop := progGroupsRow.holds Try.pinned (OpenSpec.ofChange progGroupsWrong)

/-- 'haywainlaw04.ProgTurns': WHATEVER THE INPUT: true; the input reads as it did. -/
def progTurnsSpec : ChangeSpec := { name := "progTurns", fn := fun _ => fun
  | [d1, d2, d3] => { results := [.lit (.bool true)], args := [d1, d2, d3] }
  | _ => none }
def progTurnsRow : OpenClaim := { program := "ytielmlcgdolgkaa", sum := "cde8b174bd29ac85469e2b7fe96e9e51f622c772c57bcb30dc36933b761b27d9", func := "haywain/haywainlaw04.ProgTurns", spec := "progTurns", unfollowed := true, recurses := true, apart := false }
def ProgTurnsSaid : Prop := progTurnsRow.holds Try.pinned (OpenSpec.ofChange progTurnsSpec)

/-- ITS FALSE NEIGHBOUR: 'it returns false'. Refute it at one input. -/
def progTurnsWrong : ChangeSpec := { name := "progTurns", fn := fun _ => fun
  | [d1, d2, d3] => { results := [.lit (.bool false)], args := [d1, d2, d3] }
  | _ => none }
def ProgTurnsWrongFalsely : Prop := progTurnsRow.holds Try.pinned (OpenSpec.ofChange progTurnsWrong)

/-- 'haywainlaw04.ProgRises': WHATEVER THE INPUT: true; the input reads as it did. -/
def progRisesSpec : ChangeSpec := { name := "progRises", fn := fun _ => fun
  | [d1, d2, d3] => { results := [.lit (.bool true)], args := [d1, d2, d3] }
  | _ => none }
def progRisesRow : OpenClaim := { program := "ytielmlcgdolgkaa", sum := "cde8b174bd29ac85469e2b7fe96e9e51f622c772c57bcb30dc36933b761b27d9", func := "haywain/haywainlaw04.ProgRises", spec := "progRises", unfollowed := true, recurses := true, apart := false }
def ProgRisesSaid : Prop := progRisesRow.holds Try.pinned (OpenSpec.ofChange progRisesSpec)

/-- ITS FALSE NEIGHBOUR: 'it returns false'. Refute it at one input. -/
def progRisesWrong : ChangeSpec := { name := "progRises", fn := fun _ => fun
  | [d1, d2, d3] => { results := [.lit (.bool false)], args := [d1, d2, d3] }
  | _ => none }
def ProgRisesWrongFalsely : Prop := progRisesRow.holds Try.pinned (OpenSpec.ofChange progRisesWrong)

/-- 'haywainlaw04.ProgRests': WHATEVER THE INPUT: true; the input reads as it did. -/
def progRestsSpec : ChangeSpec := { name := "progRests", fn := fun _ => fun
  | [d1, d2, d3, d4, d5] => { results := [.lit (.bool true)], args := [d1, d2, d3, d4, d5] }
  | _ => none }
def progRestsRow : OpenClaim := { program := "ytielmlcgdolgkaa", sum := "cde8b174bd29ac85469e2b7fe96e9e51f622c772c57bcb30dc36933b761b27d9", func := "haywain/haywainlaw04.ProgRests", spec := "progRests", unfollowed := true, recurses := true, apart := false }
def ProgRestsSaid : Prop := progRestsRow.holds Try.pinned (OpenSpec.ofChange progRestsSpec)

/-- ITS FALSE NEIGHBOUR: 'it returns false'. Refute it at one input. -/
def progRestsWrong : ChangeSpec := { name := "progRests", fn := fun _ => fun
  | [d1, d2, d3, d4, d5] => { results := [.lit (.bool false)], args := [d1, d2, d3, d4, d5] }
  | _ => none }
def ProgRestsWrongFalsely : Prop := progRestsRow.holds Try.pinned (OpenSpec.ofChange progRestsWrong)

/- THE SECOND FORM. 'bulk': how many values and letters a reading holds, each counted each time it is reached (what is shared counts as often as it is met; a slice's spare places count too). A statement '..UptoSaid' is the law's where the arguments, and the package variables that the reading takes, are together of bulk at most 1048576: NARROWER than '..Said'. Prove '..Said' where nothing that the law and all that it calls make is longer than what came in: it says more and counts as full. Else prove '..UptoSaid'. A law counts once. -/
mutual
def uptoBulk {H : Type} : DataW H → Nat
  | .lit (.string bytes) => bytes.length + 1
  | .lit _ => 1
  | .nil => 1
  | .ptr d => uptoBulk d + 1
  | .slice elems spare => uptoBulkAll elems + uptoBulkAll spare + 1
  | .agg parts => uptoBulkAll parts + 1
  | .iface _ d => uptoBulk d + 1
  | .map entries => uptoBulkEntries entries + 1
  | .held _ => 1
def uptoBulkAll {H : Type} : List (DataW H) → Nat
  | [] => 0
  | d :: r => uptoBulk d + uptoBulkAll r
def uptoBulkEntries {H : Type} : List (Lit × DataW H) → Nat
  | [] => 0
  | x :: r => uptoBulkEntry x + uptoBulkEntries r
def uptoBulkEntry {H : Type} : Lit × DataW H → Nat
  | (.string bytes, d) => bytes.length + uptoBulk d + 1
  | (_, d) => uptoBulk d + 1
 end
def uptoSmall : (H : Type) → List (DataW H) → Bool := fun _ ds => decide (uptoBulkAll ds ≤ 1048576)
def OpenSpec.upto (s : _root_.Go.ChangeSpec) : _root_.Go.OpenSpec := { _root_.Go.OpenSpec.ofChange s with cond := some uptoSmall }

/-- 'haywainlaw04.ProgChecks', WHERE WHAT IT READS IS OF BULK AT MOST 1048576: true; the input reads as it did. -/
def progChecksUptoRow : OpenClaim := { program := "ytielmlcgdolgkaa", sum := "cde8b174bd29ac85469e2b7fe96e9e51f622c772c57bcb30dc36933b761b27d9", func := "haywain/haywainlaw04.ProgChecks", spec := "progChecks", unfollowed := true, recurses := true, apart := false, narrowed := true }
def ProgChecksUptoSaid : Prop := progChecksUptoRow.holds Try.pinned (OpenSpec.upto progChecksSpec)

/-- 'haywainlaw04.ProgStarts', WHERE WHAT IT READS IS OF BULK AT MOST 1048576: true; the input reads as it did. -/
def progStartsUptoRow : OpenClaim := { program := "ytielmlcgdolgkaa", sum := "cde8b174bd29ac85469e2b7fe96e9e51f622c772c57bcb30dc36933b761b27d9", func := "haywain/haywainlaw04.ProgStarts", spec := "progStarts", unfollowed := true, recurses := true, apart := false, narrowed := true }
def ProgStartsUptoSaid : Prop := progStartsUptoRow.holds Try.pinned (OpenSpec.upto progStartsSpec)

/-- 'haywainlaw04.ProgFolds', WHERE WHAT IT READS IS OF BULK AT MOST 1048576: true; the input reads as it did. -/
def progFoldsUptoRow : OpenClaim := { program := "ytielmlcgdolgkaa", sum := "cde8b174bd29ac85469e2b7fe96e9e51f622c772c57bcb30dc36933b761b27d9", func := "haywain/haywainlaw04.ProgFolds", spec := "progFolds", unfollowed := true, recurses := true, apart := false, narrowed := true }
def ProgFoldsUptoSaid : Prop := progFoldsUptoRow.holds Try.pinned (OpenSpec.upto progFoldsSpec)

/-- 'haywainlaw04.ProgGroups', WHERE WHAT IT READS IS OF BULK AT MOST 1048576: true; the input reads as it did. -/
def progGroupsUptoRow : OpenClaim := { program := "ytielmlcgdolgkaa", sum := "cde8b174bd29ac85469e2b7fe96e9e51f622c772c57bcb30dc36933b761b27d9", func := "haywain/haywainlaw04.ProgGroups", spec := "progGroups", unfollowed := true, recurses := true, apart := false, narrowed := true }
def ProgGroupsUptoSaid : Prop := progGroupsUptoRow.holds Try.pinned (OpenSpec.upto progGroupsSpec)

/-- 'haywainlaw04.ProgTurns', WHERE WHAT IT READS IS OF BULK AT MOST 1048576: true; the input reads as it did. -/
def progTurnsUptoRow : OpenClaim := { program := "ytielmlcgdolgkaa", sum := "cde8b174bd29ac85469e2b7fe96e9e51f622c772c57bcb30dc36933b761b27d9", func := "haywain/haywainlaw04.ProgTurns", spec := "progTurns", unfollowed := true, recurses := true, apart := false, narrowed := true }
def ProgTurnsUptoSaid : Prop := progTurnsUptoRow.holds Try.pinned (OpenSpec.upto progTurnsSpec)

/-- 'haywainlaw04.ProgRises', WHERE WHAT IT READS IS OF BULK AT MOST 1048576: true; the input reads as it did. -/
def progRisesUptoRow : OpenClaim := { program := "ytielmlcgdolgkaa", sum := "cde8b174bd29ac85469e2b7fe96e9e51f622c772c57bcb30dc36933b761b27d9", func := "haywain/haywainlaw04.ProgRises", spec := "progRises", unfollowed := true, recurses := true, apart := false, narrowed := true }
def ProgRisesUptoSaid : Prop := progRisesUptoRow.holds Try.pinned (OpenSpec.upto progRisesSpec)

/-- 'haywainlaw04.ProgRests', WHERE WHAT IT READS IS OF BULK AT MOST 1048576: true; the input reads as it did. -/
def progRestsUptoRow : OpenClaim := { program := "ytielmlcgdolgkaa", sum := "cde8b174bd29ac85469e2b7fe96e9e51f622c772c57bcb30dc36933b761b27d9", func := "haywain/haywainlaw04.ProgRests", spec := "progRests", unfollowed := true, recurses := true, apart := false, narrowed := true }
def ProgRestsUptoSaid : Prop := progRestsUptoRow.holds Try.pinned (OpenSpec.upto progRestsSpec)

end Rows
end Go.Proofs.Ytielmlcgdolgkaa
