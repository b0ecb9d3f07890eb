/-
  DERIVED. GIVEN WITH THE SEED: THE CARDS: each row of YtcjghomjjnaddaaDoorRows.lean that lists a variable, with what it lists TIED to the program's text (the seventh form; the later family's looks); each row that meets fmt, with fmt's text TOLD by the authors' own Lean function (tested against real Go, not proved from fmt's source: count such statements apart). THE CARD IS WHAT COUNTS. Prove the row's statement (the work); the ties are given (YtcjghomjjnaddaaDoorTie.lean); close each card by the builder's one call (the guide's Derived/Test/ToyasCard.lean, 'card_holds'). Laid BY PROGRAM, IN A SANDBOX (cutbox-door.mjs). By AI agents, Wed Nov 11 2026. No macro, syntax, notation, axiom, sorry.
-/
import Derived.Test.YtcjghomjjnaddaaDoorRows
import GoSem.ClaimSeven
namespace Go.Proofs.YtcjghomjjnaddaaDoor
namespace Rows

/-- THE TIED CARD OF 'haywainlaw03.GraphChecks'. -/
def graphChecksCard : Claim7 := { stood := { row := graphChecksRow, standIns := [], harness := (true, "f1e46ca1b9e6bd51eca352807cba8601050ac5a467a8acd14e8d869a733df9a0"), looks := false }, kinds := [], alts := [], laidByText := true, laidKinds := [.data, .data, .data, .data, .pinned], laidTests := true, laidLooks := .later }
def GraphChecksCardSaid : Prop := Claim7.holds Tryd.pinned (.plain (OpenSpec.ofChange graphChecksSpec)) graphChecksCard

/-- THE TIED CARD OF 'haywainlaw03.GraphPrints'. -/
def graphPrintsCard : Claim7 := { stood := { row := graphPrintsRow, standIns := [], harness := (true, "f1e46ca1b9e6bd51eca352807cba8601050ac5a467a8acd14e8d869a733df9a0"), looks := false }, kinds := [], alts := [], laidByText := true, laidKinds := [.data, .data, .data, .data, .pinned], laidTests := true, laidLooks := .later }
def GraphPrintsCardSaid : Prop := Claim7.holds Tryd.pinned (.plain (OpenSpec.ofChange graphPrintsSpec)) graphPrintsCard

/-- THE TIED CARD OF 'haywainlaw03.GraphOuts'. -/
def graphOutsCard : Claim7 := { stood := { row := graphOutsRow, standIns := [], harness := (true, "f1e46ca1b9e6bd51eca352807cba8601050ac5a467a8acd14e8d869a733df9a0"), looks := false }, kinds := [], alts := [], laidByText := true, laidKinds := [.data, .data, .data, .data, .pinned], laidTests := true, laidLooks := .later }
def GraphOutsCardSaid : Prop := Claim7.holds Tryd.pinned (.plain (OpenSpec.ofChange graphOutsSpec)) graphOutsCard

/-- THE TIED CARD OF 'haywainlaw03.GraphBack'. -/
def graphBackCard : Claim7 := { stood := { row := graphBackRow, standIns := [], harness := (true, "f1e46ca1b9e6bd51eca352807cba8601050ac5a467a8acd14e8d869a733df9a0"), looks := false }, kinds := [], alts := [], laidByText := true, laidKinds := [.data, .data, .data, .data, .pinned], laidTests := true, laidLooks := .later }
def GraphBackCardSaid : Prop := Claim7.holds Tryd.pinned (.plain (OpenSpec.ofChange graphBackSpec)) graphBackCard

/-- THE TIED CARD OF 'haywainlaw03.GraphTurns'. -/
def graphTurnsCard : Claim7 := { stood := { row := graphTurnsRow, standIns := [], harness := (true, "f1e46ca1b9e6bd51eca352807cba8601050ac5a467a8acd14e8d869a733df9a0"), looks := false }, kinds := [], alts := [], laidByText := true, laidKinds := [.data, .data, .data, .data, .pinned], laidTests := true, laidLooks := .later }
def GraphTurnsCardSaid : Prop := Claim7.holds Tryd.pinned (.plain (OpenSpec.ofChange graphTurnsSpec)) graphTurnsCard

/-- THE TIED CARD OF 'haywainlaw03.GraphAgain'. -/
def graphAgainCard : Claim7 := { stood := { row := graphAgainRow, standIns := [], harness := (true, "f1e46ca1b9e6bd51eca352807cba8601050ac5a467a8acd14e8d869a733df9a0"), looks := false }, kinds := [], alts := [], laidByText := true, laidKinds := [.data, .data, .data, .data, .pinned], laidTests := true, laidLooks := .later }
def GraphAgainCardSaid : Prop := Claim7.holds Tryd.pinned (.plain (OpenSpec.ofChange graphAgainSpec)) graphAgainCard

/-- THE SECOND FORM's CARD OF 'haywainlaw03.GraphChecks'. -/
def graphChecksUptoCard : Claim7 := { stood := { row := graphChecksUptoRow, standIns := [], harness := (true, "f1e46ca1b9e6bd51eca352807cba8601050ac5a467a8acd14e8d869a733df9a0"), looks := false }, kinds := [], alts := [], laidByText := true, laidKinds := [.data, .data, .data, .data, .pinned], laidTests := true, laidLooks := .later }
def GraphChecksUptoCardSaid : Prop := Claim7.holds Tryd.pinned (.plain (OpenSpec.upto graphChecksSpec)) graphChecksUptoCard

/-- THE SECOND FORM's CARD OF 'haywainlaw03.GraphPrints'. -/
def graphPrintsUptoCard : Claim7 := { stood := { row := graphPrintsUptoRow, standIns := [], harness := (true, "f1e46ca1b9e6bd51eca352807cba8601050ac5a467a8acd14e8d869a733df9a0"), looks := false }, kinds := [], alts := [], laidByText := true, laidKinds := [.data, .data, .data, .data, .pinned], laidTests := true, laidLooks := .later }
def GraphPrintsUptoCardSaid : Prop := Claim7.holds Tryd.pinned (.plain (OpenSpec.upto graphPrintsSpec)) graphPrintsUptoCard

/-- THE SECOND FORM's CARD OF 'haywainlaw03.GraphOuts'. -/
def graphOutsUptoCard : Claim7 := { stood := { row := graphOutsUptoRow, standIns := [], harness := (true, "f1e46ca1b9e6bd51eca352807cba8601050ac5a467a8acd14e8d869a733df9a0"), looks := false }, kinds := [], alts := [], laidByText := true, laidKinds := [.data, .data, .data, .data, .pinned], laidTests := true, laidLooks := .later }
def GraphOutsUptoCardSaid : Prop := Claim7.holds Tryd.pinned (.plain (OpenSpec.upto graphOutsSpec)) graphOutsUptoCard

/-- THE SECOND FORM's CARD OF 'haywainlaw03.GraphBack'. -/
def graphBackUptoCard : Claim7 := { stood := { row := graphBackUptoRow, standIns := [], harness := (true, "f1e46ca1b9e6bd51eca352807cba8601050ac5a467a8acd14e8d869a733df9a0"), looks := false }, kinds := [], alts := [], laidByText := true, laidKinds := [.data, .data, .data, .data, .pinned], laidTests := true, laidLooks := .later }
def GraphBackUptoCardSaid : Prop := Claim7.holds Tryd.pinned (.plain (OpenSpec.upto graphBackSpec)) graphBackUptoCard

/-- THE SECOND FORM's CARD OF 'haywainlaw03.GraphTurns'. -/
def graphTurnsUptoCard : Claim7 := { stood := { row := graphTurnsUptoRow, standIns := [], harness := (true, "f1e46ca1b9e6bd51eca352807cba8601050ac5a467a8acd14e8d869a733df9a0"), looks := false }, kinds := [], alts := [], laidByText := true, laidKinds := [.data, .data, .data, .data, .pinned], laidTests := true, laidLooks := .later }
def GraphTurnsUptoCardSaid : Prop := Claim7.holds Tryd.pinned (.plain (OpenSpec.upto graphTurnsSpec)) graphTurnsUptoCard

/-- THE SECOND FORM's CARD OF 'haywainlaw03.GraphAgain'. -/
def graphAgainUptoCard : Claim7 := { stood := { row := graphAgainUptoRow, standIns := [], harness := (true, "f1e46ca1b9e6bd51eca352807cba8601050ac5a467a8acd14e8d869a733df9a0"), looks := false }, kinds := [], alts := [], laidByText := true, laidKinds := [.data, .data, .data, .data, .pinned], laidTests := true, laidLooks := .later }
def GraphAgainUptoCardSaid : Prop := Claim7.holds Tryd.pinned (.plain (OpenSpec.upto graphAgainSpec)) graphAgainUptoCard
end Rows
end Go.Proofs.YtcjghomjjnaddaaDoor
