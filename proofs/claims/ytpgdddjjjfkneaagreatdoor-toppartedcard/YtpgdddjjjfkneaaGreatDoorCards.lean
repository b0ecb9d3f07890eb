/-
  DERIVED. GIVEN WITH THE SEED: THE CARDS: each row of YtpgdddjjjfkneaaGreatDoorRows.lean that lists a variable, with what it lists TIED to the program's text (the seventh form; the later family's looks); each row that meets fmt, with fmt's text TOLD by the authors' own Lean function (tested against real Go, not proved from fmt's source: count such statements apart). THE CARD IS WHAT COUNTS. Prove the row's statement (the work); the ties are given (YtpgdddjjjfkneaaGreatDoorTie.lean); close each card by the builder's one call (the guide's Derived/Test/ToyasCard.lean, 'card_holds'). Laid BY PROGRAM, IN A SANDBOX (cutbox-door.mjs). By AI agents, Wed Nov 11 2026. No macro, syntax, notation, axiom, sorry.
-/
import Derived.Test.YtpgdddjjjfkneaaGreatDoorRows
import GoSem.ClaimSeven
namespace Go.Proofs.YtpgdddjjjfkneaaGreatDoor
namespace Rows

/-- THE TIED CARD OF 'haywaintop.TopParted'. -/
def topPartedCard : Claim7 := { stood := { row := topPartedRow, standIns := [], harness := (true, "83b2cb4e65eb18172b02dcb7862f423cab5425829c6908d440db2813092e533c"), looks := false }, kinds := [], alts := [], laidByText := true, laidKinds := [.data, .pinned], laidTests := true, laidLooks := .later }
def TopPartedCardSaid : Prop := Claim7.holds Tryz.pinned (.plain (OpenSpec.ofChange topPartedSpec)) topPartedCard

/-- THE SECOND FORM's CARD OF 'haywaintop.TopParted'. -/
def topPartedUptoCard : Claim7 := { stood := { row := topPartedUptoRow, standIns := [], harness := (true, "83b2cb4e65eb18172b02dcb7862f423cab5425829c6908d440db2813092e533c"), looks := false }, kinds := [], alts := [], laidByText := true, laidKinds := [.data, .pinned], laidTests := true, laidLooks := .later }
def TopPartedUptoCardSaid : Prop := Claim7.holds Tryz.pinned (.plain (OpenSpec.upto topPartedSpec)) topPartedUptoCard
end Rows
end Go.Proofs.YtpgdddjjjfkneaaGreatDoor
