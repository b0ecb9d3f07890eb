import Derived.Test.YtpgdddjjjfkneaaGreatDoorKe
import Derived.Test.YtpgdddjjjfkneaaGreatDoorKf
/-
  The contract of the document's own Turn where it tells an error. No condition but that the numbers are of 62 bits.
-/
namespace Go.Proofs.YtpgdddjjjfkneaaGreatDoor
open Go.ChangeShapes Go.WideShapes Go.ChangeAt Go.RowKit
set_option linter.unusedVariables false

end Go.Proofs.YtpgdddjjjfkneaaGreatDoor

/-
  Words for memory in which one block alone is written: 'Bel1'; and the step law of an append whose run is known. No condition.
-/
namespace Go.Proofs.YtpgdddjjjfkneaaGreatDoor
open Go.ChangeShapes Go.WideShapes Go.ChangeAt Go.RowKit
set_option linter.unusedVariables false

/-- Ahead of block B nothing has changed but block g. -/
structure Bel1 (B g : Nat) (w W : World) : Prop where
  os : W.os = w.os
  tape : W.tape = w.tape
  output : W.output = w.output
  size : w.heap.size ≤ W.heap.size
  block : ∀ k, k < B → k ≠ g → W.heap[k]? = w.heap[k]?
theorem Bel1.refl (B g : Nat) (w : World) : Bel1 B g w w := ⟨rfl, rfl, rfl, Nat.le_refl _, fun _ _ _ => rfl⟩
theorem Bel1.below {B B' g : Nat} {w W W' : World} (h : Bel1 B g w W) (hb : Below B' W W') (hB : B ≤ B') : Bel1 B g w W' :=
  ⟨hb.os.trans h.os, hb.tape.trans h.tape, hb.output.trans h.output, Nat.le_trans h.size hb.size, fun k h1 h2 => (hb.block k (Nat.lt_of_lt_of_le h1 hB)).trans (h.block k h1 h2)⟩
theorem Bel1.drew {B g : Nat} {w W : World} (h : Bel1 B g w W) : Bel1 B g w W.drew := ⟨h.os, h.tape, h.output, h.size, h.block⟩
theorem Bel1.set {B g : Nat} {w W : World} (h : Bel1 B g w W) (i : Nat) (v : Value) : Bel1 B g w (W.setCell ⟨g, i, none⟩ v) := by
  have hb := (Below.refl 0 W).setCell (p := ⟨g, i, none⟩) (Nat.zero_le _) v
  refine ⟨hb.os.trans h.os, hb.tape.trans h.tape, hb.output.trans h.output, Nat.le_trans h.size hb.size, fun k h1 h2 => ?_⟩
  have e : (W.setCell ⟨g, i, none⟩ v).heap[k]? = W.heap[k]? := by
    rcases Nat.lt_or_gt_of_ne h2 with hl | hl
    · exact ((Below.refl g W).setCell (p := ⟨g, i, none⟩) (Nat.le_refl _) v).block k hl
    · simp [World.setCell, Array.getElem?_modify]
      intro hgk
      omega
  exact e.trans (h.block k h1 h2)
theorem Bel1.cell {B g : Nat} {w W : World} (h : Bel1 B g w W) {p : Addr} (h1 : p.block < B) (h2 : p.block ≠ g) : W.cell? p = w.cell? p := by
  unfold World.cell?
  rw [h.block _ h1 h2]
theorem Bel1.low {B g : Nat} {w W : World} (h : Bel1 B g w W) {B' : Nat} (h1 : B' ≤ B) (h2 : B' ≤ g) : Below B' w W := ⟨h.os, h.tape, h.output, h.size, fun k hk => h.block k (by omega) (by omega)⟩
theorem Bel1.own {g base s n : Nat} {w W : World} {e : TypeId} {v : Value} {xs : List Value} (h : Bel1 w.heap.size g w W) (ho : w.ownsRow base e s v n xs) (hg : g < base) : W.ownsRow base e s v n xs := by
  refine ⟨ho.1, ?_⟩
  rcases ho.2 with h2 | ⟨g', cap, cur, hv, hg', hc, r⟩
  · exact .inl h2
  · refine .inr ⟨g', cap, cur, hv, hg', ?_, r⟩
    rw [h.block g' (Array.getElem?_eq_some_iff.1 hc).1 (by omega)]
    exact hc
theorem set_heap {W : World} {g i : Nat} {cur : Array Value} {t : TypeId} (h : W.heap[g]? = some (.cells cur t (0, 0))) (v : Value) : (W.setCell ⟨g, i, none⟩ v).heap[g]? = some (.cells (cur.setIfInBounds i v) t (0, 0)) := by
  rw [setCell_eq_setRow W g i cur t (0, 0) v h]
  exact setRow_heap W g cur _ t (0, 0) h
theorem step_app {P : Program} {ops : Array Oper} {o : Oper} {a : Act} {w : World} {K : Act → World → Prop} {Q : Exit → Act → World → Prop} {E : Prop}
    (hg : o.guard = none) (d x : Operand) (dT sT : TypeId) (hop : o.op = Op.call { callee := Callee.builtin Builtin.append, args := #[d, x], argTypes := #[dT, sT] })
    (v u : Value) (hd : a.eval d = v) (hx : a.eval x = u) {v' : Value} {w' : World} (hr : (Builtin.append_ #[dT, sT] o.type #[v, u]).run P w = .ok v' w') (hK : K (a.put o.dst v') w') :
    if Region.wanted o (yielded ops a.tmps) = true then Oper.wp P o a w K Q else E := by
  have hw : Region.wanted o (yielded ops a.tmps) = true := by simp [Region.wanted, hg]
  rw [if_pos hw]
  unfold Oper.wp
  simp [execOp, hop, resolve, invoke, builtin, hd, hx, hr, Result.andThen]
  exact hK
end Go.Proofs.YtpgdddjjjfkneaaGreatDoor


