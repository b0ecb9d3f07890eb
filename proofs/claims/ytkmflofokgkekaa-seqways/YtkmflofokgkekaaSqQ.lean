/-
  A state that came in, as it reads in memory: its lists may be of any length. No condition.
-/
import Derived.Test.YtkmflofokgkekaaSqE
namespace Go.Proofs.Ytkmflofokgkekaa
open Go.RowKit
set_option linter.unusedVariables false
structure StI (w : World) (S : St) (A1 : Option Addr) (c1 : Nat) (A2 : Option Addr) (c2 : Nat) (A3 : Option Addr) (c3 : Nat) : Prop where
  st : bd S.step
  v : Lies w w.heap.size 1 A1 S.vals.length (vc S.vals)
  r : Lies w w.heap.size 1 A2 S.rest.length (rc S.rest)
  m : Lies w w.heap.size 2 A3 S.inn.length (mc S.inn)
  cv : S.vals.length ≤ c1
  cr : S.rest.length ≤ c2
  cm : S.inn.length ≤ c3
  bv : ∀ x ∈ S.vals, bd x
  bm : ∀ e ∈ S.inn, bd e.2
theorem StI.ok {w : World} {S : St} {A1 : Option Addr} {c1 : Nat} {A2 : Option Addr} {c2 : Nat} {A3 : Option Addr} {c3 : Nat} (h : StI w S A1 c1 A2 c2 A3 c3) (hw : wideB S = false) : StL w w.heap.size S A1 c1 A2 c2 A3 c3 := by
  obtain ⟨h1, h2, h3⟩ := wide_no hw
  exact ⟨h.v, h.r, h.m, h.cv, h.cr, h.cm, ⟨h.st, h.bv, h.bm, by omega, by omega, by omega⟩⟩
end Go.Proofs.Ytkmflofokgkekaa
