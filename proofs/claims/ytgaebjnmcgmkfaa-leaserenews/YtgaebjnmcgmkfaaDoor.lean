import Derived.Test.YtgaebjnmcgmkfaaRows
import Derived.Test.YtgaebjnmcgmkfaaLc
import Derived.WalkKit
import Derived.ProofKit
import Derived.OpenShut
import Derived.ChangeOld
/-
  From a slice of integers that came in to a list in memory. No condition.
-/
namespace Go.Proofs.Ytgaebjnmcgmkfaa
open Go.ChangeShapes Go.WideShapes Go.ChangeAt Go.RowKit
set_option linter.unusedVariables false

theorem own : ownKnob Try.prog.godebug = none := by kernel_rfl
theorem laidOut : laidOutB Try.prog = true := by kernel_rfl
def IsRow (k : IntKind) (w : World) (a : Option Addr) (len cap : Nat) (zs : List Int) : Prop :=
  (a = none ∧ len = 0 ∧ cap = 0 ∧ zs = []) ∨
  ∃ x, a = some x ∧ len ≤ cap ∧ cap ≤ maxLen ∧ zs.length = cap ∧ (∀ i, i < zs.length → w.cell? (x.add i) = some (.int k (zs.getD i 0))) ∧ ∀ n ∈ zs, (Lit.int k n).wf = true
/-- Bytes as cells. -/
def uc (l : List Int) : List Value := l.map fun x => Value.int .u8 x
theorem uc_len (l : List Int) : (uc l).length = l.length := by unfold uc; simp
theorem uc_at (l : List Int) (k : Nat) (h : k < l.length) : (uc l)[k]? = some (.int .u8 (iAt l k)) := by unfold uc; rw [iAt_get l k h]; simp [List.getElem?_eq_getElem h]
theorem Lies.us {w : World} {B : Nat} {A : Option Addr} {n : Nat} {l : List Int} (h : Lies w B 1 A n (uc l)) (k : Nat) (hk : k < l.length) : ∃ ad, A = some ad ∧ ad.block < B ∧ w.cell? (ad.add k) = some (.int .u8 (iAt l k)) :=
  h.2 k _ (uc_at l k hk)
def Bytes (l : List Int) : Prop := ∀ x ∈ l, 0 ≤ x ∧ x ≤ 255
theorem Bytes.at {l : List Int} (h : Bytes l) (k : Nat) (hk : k < l.length) : 0 ≤ iAt l k ∧ iAt l k ≤ 255 := h _ (iAt_mem l k hk)
theorem IsRow.bytes {w : World} {A : Option Addr} {n cp : Nat} {zs : List Int} (h : IsRow .u8 w A n cp zs) : ∃ l, l.length = n ∧ Lies w w.heap.size 1 A n (uc l) ∧ n ≤ maxLen ∧ Bytes l := by
  rcases h with ⟨rfl, rfl, rfl, rfl⟩ | ⟨x, rfl, h1, h2, h3, h4, h5⟩
  · exact ⟨[], rfl, Lies.nil, Nat.zero_le _, fun x h => by cases h⟩
  · refine ⟨zs.take n, by rw [List.length_take]; omega, ⟨by rw [uc_len, List.length_take]; omega, fun j u hu => ?_⟩, Nat.le_trans h1 h2, fun x hx => bounds_u8 (h5 x (List.mem_of_mem_take hx))⟩
    have hj : j < n := by
      have := (List.getElem?_eq_some_iff.1 hu).1
      rw [uc_len, List.length_take] at this
      omega
    have hjz : j < zs.length := by omega
    have hc := h4 j hjz
    have hlt : (x.add j).block < w.heap.size := World.block_lt_of_cell? w _ hc
    rw [block_add] at hlt
    refine ⟨x, rfl, hlt, ?_⟩
    rw [hc]
    simp [uc, List.getElem?_take_of_lt hj, List.getElem?_eq_getElem hjz] at hu
    rw [← hu]
    simp [List.getD_eq_getElem?_getD, List.getElem?_eq_getElem hjz]
end Go.Proofs.Ytgaebjnmcgmkfaa
