import Derived.Test.YtpgdddjjjfkneaaGreatDoorPtA
/-
  Lists of messages in memory; the contract of the document's own Join of them (chapter 5). No condition but that the messages are not too many.
-/
namespace Go.Proofs.YtpgdddjjjfkneaaGreatDoor
open Go.RowKit Go.Sort
set_option linter.unusedVariables false

/-- A list of messages, and where it lies. -/
structure Le where
  A : Option Addr
  c : Nat
  ms : List Ms
def lcl (ls : List Le) : List Value := ls.map fun e => .slice e.A e.ms.length e.c
theorem lcl_at (ls : List Le) (k : Nat) (h : k < ls.length) : (lcl ls)[k]? = some (.slice ls[k].A ls[k].ms.length ls[k].c) := by unfold lcl; simp [List.getElem?_eq_getElem h]
def lcatl (ls : List Le) : List Ms := ls.flatMap Le.ms
/-- A list of lists lies in memory. -/
structure Lls (w : World) (B : Nat) (A : Option Addr) (c : Nat) (ls : List Le) : Prop where
  L : Lies w B 1 A ls.length (lcl ls)
  cc : ls.length ≤ c
  el : ∀ e ∈ ls, Lies w B 2 e.A e.ms.length (mc e.ms)
theorem Lls.next {w w' : World} {A : Option Addr} {c : Nat} {ls : List Le} (h : Lls w w.heap.size A c ls) (hb : Below w.heap.size w w') : Lls w' w'.heap.size A c ls :=
  ⟨h.L.next hb, h.cc, fun e he => (h.el e he).next hb⟩
end Go.Proofs.YtpgdddjjjfkneaaGreatDoor


