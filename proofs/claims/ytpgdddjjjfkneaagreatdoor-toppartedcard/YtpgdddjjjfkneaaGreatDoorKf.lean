import Derived.Test.YtpgdddjjjfkneaaGreatDoorKd
/-
  Contracts of the document's own Start, Fold, sum and sent, and of the examples' graph. No condition but that the numbers are of 62 bits and the vertex one of a graph that is right.
-/
namespace Go.Proofs.YtpgdddjjjfkneaaGreatDoor
open Go.ChangeShapes Go.WideShapes Go.ChangeAt Go.RowKit
set_option linter.unusedVariables false

/-- The edges of the examples' graph. -/
def twoE : List Ed := [(0, 1, 7), (1, 0, 5)]
end Go.Proofs.YtpgdddjjjfkneaaGreatDoor


