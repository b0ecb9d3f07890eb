import Derived.Test.YtabbpccfdpphjaaRows
import Derived.Test.YtabbpccfdpphjaaPb
import Derived.WalkKit
import Derived.ProofKit
import Derived.OpenShut
import Derived.ChangeOld
/-
  From a slice of integers that came in to a list in memory. No condition.
-/
namespace Go.Proofs.Ytabbpccfdpphjaa
open Go.ChangeShapes Go.WideShapes Go.ChangeAt Go.RowKit
set_option linter.unusedVariables false

theorem own : ownKnob Try.prog.godebug = none := by kernel_rfl
theorem laidOut : laidOutB Try.prog = true := by kernel_rfl
def IsRow (k : IntKind) (w : World) (a : Option Addr) (len cap : Nat) (zs : List Int) : Prop :=
  (a = none ∧ len = 0 ∧ cap = 0 ∧ zs = []) ∨
  ∃ x, a = some x ∧ len ≤ cap ∧ cap ≤ maxLen ∧ zs.length = cap ∧ (∀ i, i < zs.length → w.cell? (x.add i) = some (.int k (zs.getD i 0))) ∧ ∀ n ∈ zs, (Lit.int k n).wf = true
theorem IsRow.ints {w : World} {A : Option Addr} {n cp : Nat} {zs : List Int} (h : IsRow .i64 w A n cp zs) : ∃ l, l.length = n ∧ Lies w w.heap.size 1 A n (vc l) ∧ n ≤ maxLen := by
  rcases h with ⟨rfl, rfl, rfl, rfl⟩ | ⟨x, rfl, h1, h2, h3, h4, h5⟩
  · exact ⟨[], rfl, Lies.nil, Nat.zero_le _⟩
  · refine ⟨zs.take n, by rw [List.length_take]; omega, ⟨by rw [vc_len, List.length_take]; omega, fun j u hu => ?_⟩, Nat.le_trans h1 h2⟩
    have hj : j < n := by
      have := (List.getElem?_eq_some_iff.1 hu).1
      rw [vc_len, List.length_take] at this
      omega
    have hjz : j < zs.length := by omega
    have hc := h4 j hjz
    have hlt : (x.add j).block < w.heap.size := World.block_lt_of_cell? w _ hc
    rw [block_add] at hlt
    refine ⟨x, rfl, hlt, ?_⟩
    rw [hc]
    simp [vc, List.getElem?_take_of_lt hj, List.getElem?_eq_getElem hjz] at hu
    rw [← hu]
    simp [List.getD_eq_getElem?_getD, List.getElem?_eq_getElem hjz]
end Go.Proofs.Ytabbpccfdpphjaa

