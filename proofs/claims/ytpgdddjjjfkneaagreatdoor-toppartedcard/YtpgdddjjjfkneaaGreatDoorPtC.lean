import Derived.Test.YtpgdddjjjfkneaaGreatDoorPtA
import Derived.Deep.OwnRows
/-
  A partition and a state under way, in memory of the call's own: a block that holds three lists which grow. No condition.
-/
namespace Go.Proofs.YtpgdddjjjfkneaaGreatDoor
open Go.ChangeShapes Go.WideShapes Go.ChangeAt Go.RowKit
set_option linter.unusedVariables false

/-- A block that holds three lists of the call's own. -/
structure Qp (wb : World) (bo : Nat) (P : Int) (st : Int) (V : Option Addr) (cV : Nat) (R : Option Addr) (cR : Nat) (M : Option Addr) (cM : Nat) (vs : List Int) (rs : List Bool) (ms : List Ms) (W : World) : Prop where
  bl : Below wb.heap.size wb W
  nb : W.heap[bo]? = some (.cells #[.int .i64 P, .int .i64 st, .slice V vs.length cV, .slice R rs.length cR, .slice M ms.length cM] 64 (0, 0))
  v : W.ownsRow wb.heap.size 2 1 (.slice V vs.length cV) vs.length (vc vs)
  r : W.ownsRow wb.heap.size 4 1 (.slice R rs.length cR) rs.length (rc rs)
  m : W.ownsRow wb.heap.size 118 2 (.slice M ms.length cM) ms.length (mc ms)
  hb : wb.heap.size ≤ bo
section
variable {wb : World} {bo : Nat} {P : Int} {st : Int} {V : Option Addr} {cV : Nat} {R : Option Addr} {cR : Nat} {M : Option Addr} {cM : Nat} {vs : List Int} {rs : List Bool} {ms : List Ms} {W W' : World}
theorem Qp.lt (h : Qp wb bo P st V cV R cR M cM vs rs ms W) : bo < W.heap.size := lt_of_block h.nb
theorem Qp.next (h : Qp wb bo P st V cV R cR M cM vs rs ms W) (hb : Below W.heap.size W W') : Qp wb bo P st V cV R cR M cM vs rs ms W' :=
  ⟨h.bl.trans (hb.mono h.bl.size), (hb.block _ h.lt).trans h.nb, own_next h.v hb, own_next h.r hb, own_next h.m hb, h.hb⟩
theorem Qp.start (wb : World) (P : Int) (st : Int) : Qp wb wb.heap.size P st none 0 none 0 none 0 [] [] [] (wb.alloc (.cells #[.int .i64 P, .int .i64 st, .slice none 0 0, .slice none 0 0, .slice none 0 0] 64)) :=
  ⟨below_alloc _ _, heap_alloc_new _ _, World.ownsRow_nil _ _ _ _, World.ownsRow_nil _ _ _ _, World.ownsRow_nil _ _ _ _, Nat.le_refl _⟩
theorem Qp.kV (h : Qp wb bo P st V cV R cR M cM vs rs ms W) : W.cell? ⟨bo, 2, none⟩ = some (.slice V vs.length cV) := cell_of_row W bo 2 _ 64 (0, 0) h.nb
theorem Qp.kR (h : Qp wb bo P st V cV R cR M cM vs rs ms W) : W.cell? ⟨bo, 3, none⟩ = some (.slice R rs.length cR) := cell_of_row W bo 3 _ 64 (0, 0) h.nb
theorem Qp.kM (h : Qp wb bo P st V cV R cR M cM vs rs ms W) : W.cell? ⟨bo, 4, none⟩ = some (.slice M ms.length cM) := cell_of_row W bo 4 _ 64 (0, 0) h.nb
theorem Qp.c0 (h : Qp wb bo P st V cV R cR M cM vs rs ms W) : W.cell? ⟨bo, 0, none⟩ = some (.int .i64 P) := cell_of_row W bo 0 _ 64 (0, 0) h.nb
theorem Qp.c1 (h : Qp wb bo P st V cV R cR M cM vs rs ms W) : W.cell? ⟨bo, 1, none⟩ = some (.int .i64 st) := cell_of_row W bo 1 _ 64 (0, 0) h.nb
/-- The block stays while a row of the call's own grows. -/
theorem Qp.blk (h : Qp wb bo P st V cV R cR M cM vs rs ms W) {b s m : Nat} {e : TypeId} {u : Value} {xs : List Value} (ho : W.ownsRow b e s u m xs) (he : (64 : TypeId) ≠ e) (hg : W.grownBy W' u.ownBlock) :
    W'.heap[bo]? = some (.cells #[.int .i64 P, .int .i64 st, .slice V vs.length cV, .slice R rs.length cR, .slice M ms.length cM] 64 (0, 0)) :=
  (hg.block _ h.lt (fun e1 => own_ne ho h.nb he e1.symm)).trans h.nb
theorem Qp.putV (h : Qp wb bo P st V cV R cR M cM vs rs ms W) {A9 : Option Addr} {c9 j : Nat} {ys : List Int} (hj : j = vs.length + ys.length) (ho : W'.ownsRow wb.heap.size 2 1 (.slice A9 j c9) j (vc vs ++ vc ys)) (hb : Below wb.heap.size W W') (hg : W.grownBy W' (Value.slice V vs.length cV).ownBlock) :
    Qp wb bo P st A9 c9 R cR M cM (vs ++ ys) rs ms (W'.setCell ⟨bo, 2, none⟩ (.slice A9 j c9)) ∧ W'.cell? ⟨bo, 2, none⟩ = some (.slice V vs.length cV) ∧ W'.frozen? ⟨bo, 2, none⟩ = false := by
  have hl : (vs ++ ys).length = j := by rw [List.length_append, hj]
  have nb := h.blk h.v (by decide) hg
  rw [← vc_app] at ho
  refine ⟨⟨(h.bl.trans hb).setCell (p := ⟨bo, 2, none⟩) h.hb _, ?_, ?_, ?_, ?_, h.hb⟩, cell_of_row W' bo 2 _ 64 (0, 0) nb, unfrozen nb 2⟩
  · rw [hl]; exact set_heap nb _
  · rw [hl]; exact ownsRow_setCell_other ho (a := ⟨bo, 2, none⟩) (own_ne ho nb (by decide)) _
  · have h2 := own_apart h.r h.v hg (by decide)
    exact ownsRow_setCell_other h2 (a := ⟨bo, 2, none⟩) (own_ne h2 nb (by decide)) _
  · have h2 := own_apart h.m h.v hg (by decide)
    exact ownsRow_setCell_other h2 (a := ⟨bo, 2, none⟩) (own_ne h2 nb (by decide)) _
theorem Qp.putR (h : Qp wb bo P st V cV R cR M cM vs rs ms W) {A9 : Option Addr} {c9 j : Nat} {ys : List Bool} (hj : j = rs.length + ys.length) (ho : W'.ownsRow wb.heap.size 4 1 (.slice A9 j c9) j (rc rs ++ rc ys)) (hb : Below wb.heap.size W W') (hg : W.grownBy W' (Value.slice R rs.length cR).ownBlock) :
    Qp wb bo P st V cV A9 c9 M cM vs (rs ++ ys) ms (W'.setCell ⟨bo, 3, none⟩ (.slice A9 j c9)) ∧ W'.cell? ⟨bo, 3, none⟩ = some (.slice R rs.length cR) ∧ W'.frozen? ⟨bo, 3, none⟩ = false := by
  have hl : (rs ++ ys).length = j := by rw [List.length_append, hj]
  have nb := h.blk h.r (by decide) hg
  rw [← rc_app] at ho
  refine ⟨⟨(h.bl.trans hb).setCell (p := ⟨bo, 3, none⟩) h.hb _, ?_, ?_, ?_, ?_, h.hb⟩, cell_of_row W' bo 3 _ 64 (0, 0) nb, unfrozen nb 3⟩
  · rw [hl]; exact set_heap nb _
  · have h2 := own_apart h.v h.r hg (by decide)
    exact ownsRow_setCell_other h2 (a := ⟨bo, 3, none⟩) (own_ne h2 nb (by decide)) _
  · rw [hl]; exact ownsRow_setCell_other ho (a := ⟨bo, 3, none⟩) (own_ne ho nb (by decide)) _
  · have h2 := own_apart h.m h.r hg (by decide)
    exact ownsRow_setCell_other h2 (a := ⟨bo, 3, none⟩) (own_ne h2 nb (by decide)) _
theorem Qp.putM (h : Qp wb bo P st V cV R cR M cM vs rs ms W) {A9 : Option Addr} {c9 j : Nat} {ys : List Ms} (hj : j = ms.length + ys.length) (ho : W'.ownsRow wb.heap.size 118 2 (.slice A9 j c9) j (mc ms ++ mc ys)) (hb : Below wb.heap.size W W') (hg : W.grownBy W' (Value.slice M ms.length cM).ownBlock) :
    Qp wb bo P st V cV R cR A9 c9 vs rs (ms ++ ys) (W'.setCell ⟨bo, 4, none⟩ (.slice A9 j c9)) ∧ W'.cell? ⟨bo, 4, none⟩ = some (.slice M ms.length cM) ∧ W'.frozen? ⟨bo, 4, none⟩ = false := by
  have hl : (ms ++ ys).length = j := by rw [List.length_append, hj]
  have nb := h.blk h.m (by decide) hg
  rw [← mc_append] at ho
  refine ⟨⟨(h.bl.trans hb).setCell (p := ⟨bo, 4, none⟩) h.hb _, ?_, ?_, ?_, ?_, h.hb⟩, cell_of_row W' bo 4 _ 64 (0, 0) nb, unfrozen nb 4⟩
  · rw [hl]; exact set_heap nb _
  · have h2 := own_apart h.v h.m hg (by decide)
    exact ownsRow_setCell_other h2 (a := ⟨bo, 4, none⟩) (own_ne h2 nb (by decide)) _
  · have h2 := own_apart h.r h.m hg (by decide)
    exact ownsRow_setCell_other h2 (a := ⟨bo, 4, none⟩) (own_ne h2 nb (by decide)) _
  · rw [hl]; exact ownsRow_setCell_other ho (a := ⟨bo, 4, none⟩) (own_ne ho nb (by decide)) _
theorem Qp.keepV (h : Qp wb bo P st V cV R cR M cM vs rs ms W) {b sz m i : Nat} {e : TypeId} {u y : Value} {xs : List Value} (ho : W.ownsRow b e sz u m xs) (h1 : e ≠ 2) (h2 : (64 : TypeId) ≠ e) (hg : W.grownBy W' (Value.slice V vs.length cV).ownBlock) : (W'.setCell ⟨bo, i, none⟩ y).ownsRow b e sz u m xs := by
  have h3 := own_apart ho h.v hg h1
  exact ownsRow_setCell_other h3 (a := ⟨bo, i, none⟩) (own_ne h3 (h.blk h.v (by decide) hg) h2) _
theorem Qp.keepR (h : Qp wb bo P st V cV R cR M cM vs rs ms W) {b sz m i : Nat} {e : TypeId} {u y : Value} {xs : List Value} (ho : W.ownsRow b e sz u m xs) (h1 : e ≠ 4) (h2 : (64 : TypeId) ≠ e) (hg : W.grownBy W' (Value.slice R rs.length cR).ownBlock) : (W'.setCell ⟨bo, i, none⟩ y).ownsRow b e sz u m xs := by
  have h3 := own_apart ho h.r hg h1
  exact ownsRow_setCell_other h3 (a := ⟨bo, i, none⟩) (own_ne h3 (h.blk h.r (by decide) hg) h2) _
end
/-- A block that holds three lists of the call's own. -/
structure Qs (wb : World) (bo : Nat) (st : Int) (V : Option Addr) (cV : Nat) (R : Option Addr) (cR : Nat) (M : Option Addr) (cM : Nat) (vs : List Int) (rs : List Bool) (ms : List Ms) (W : World) : Prop where
  bl : Below wb.heap.size wb W
  nb : W.heap[bo]? = some (.cells #[.int .i64 st, .slice V vs.length cV, .slice R rs.length cR, .slice M ms.length cM] 39 (0, 0))
  v : W.ownsRow wb.heap.size 2 1 (.slice V vs.length cV) vs.length (vc vs)
  r : W.ownsRow wb.heap.size 4 1 (.slice R rs.length cR) rs.length (rc rs)
  m : W.ownsRow wb.heap.size 118 2 (.slice M ms.length cM) ms.length (mc ms)
  hb : wb.heap.size ≤ bo
section
variable {wb : World} {bo : Nat} {st : Int} {V : Option Addr} {cV : Nat} {R : Option Addr} {cR : Nat} {M : Option Addr} {cM : Nat} {vs : List Int} {rs : List Bool} {ms : List Ms} {W W' : World}
theorem Qs.lt (h : Qs wb bo st V cV R cR M cM vs rs ms W) : bo < W.heap.size := lt_of_block h.nb
theorem Qs.next (h : Qs wb bo st V cV R cR M cM vs rs ms W) (hb : Below W.heap.size W W') : Qs wb bo st V cV R cR M cM vs rs ms W' :=
  ⟨h.bl.trans (hb.mono h.bl.size), (hb.block _ h.lt).trans h.nb, own_next h.v hb, own_next h.r hb, own_next h.m hb, h.hb⟩
theorem Qs.start (wb : World) (st : Int) : Qs wb wb.heap.size st none 0 none 0 none 0 [] [] [] (wb.alloc (.cells #[.int .i64 st, .slice none 0 0, .slice none 0 0, .slice none 0 0] 39)) :=
  ⟨below_alloc _ _, heap_alloc_new _ _, World.ownsRow_nil _ _ _ _, World.ownsRow_nil _ _ _ _, World.ownsRow_nil _ _ _ _, Nat.le_refl _⟩
theorem Qs.kV (h : Qs wb bo st V cV R cR M cM vs rs ms W) : W.cell? ⟨bo, 1, none⟩ = some (.slice V vs.length cV) := cell_of_row W bo 1 _ 39 (0, 0) h.nb
theorem Qs.kR (h : Qs wb bo st V cV R cR M cM vs rs ms W) : W.cell? ⟨bo, 2, none⟩ = some (.slice R rs.length cR) := cell_of_row W bo 2 _ 39 (0, 0) h.nb
theorem Qs.kM (h : Qs wb bo st V cV R cR M cM vs rs ms W) : W.cell? ⟨bo, 3, none⟩ = some (.slice M ms.length cM) := cell_of_row W bo 3 _ 39 (0, 0) h.nb
theorem Qs.c0 (h : Qs wb bo st V cV R cR M cM vs rs ms W) : W.cell? ⟨bo, 0, none⟩ = some (.int .i64 st) := cell_of_row W bo 0 _ 39 (0, 0) h.nb
/-- The block stays while a row of the call's own grows. -/
theorem Qs.blk (h : Qs wb bo st V cV R cR M cM vs rs ms W) {b s m : Nat} {e : TypeId} {u : Value} {xs : List Value} (ho : W.ownsRow b e s u m xs) (he : (39 : TypeId) ≠ e) (hg : W.grownBy W' u.ownBlock) :
    W'.heap[bo]? = some (.cells #[.int .i64 st, .slice V vs.length cV, .slice R rs.length cR, .slice M ms.length cM] 39 (0, 0)) :=
  (hg.block _ h.lt (fun e1 => own_ne ho h.nb he e1.symm)).trans h.nb
theorem Qs.putV (h : Qs wb bo st V cV R cR M cM vs rs ms W) {A9 : Option Addr} {c9 j : Nat} {ys : List Int} (hj : j = vs.length + ys.length) (ho : W'.ownsRow wb.heap.size 2 1 (.slice A9 j c9) j (vc vs ++ vc ys)) (hb : Below wb.heap.size W W') (hg : W.grownBy W' (Value.slice V vs.length cV).ownBlock) :
    Qs wb bo st A9 c9 R cR M cM (vs ++ ys) rs ms (W'.setCell ⟨bo, 1, none⟩ (.slice A9 j c9)) ∧ W'.cell? ⟨bo, 1, none⟩ = some (.slice V vs.length cV) ∧ W'.frozen? ⟨bo, 1, none⟩ = false := by
  have hl : (vs ++ ys).length = j := by rw [List.length_append, hj]
  have nb := h.blk h.v (by decide) hg
  rw [← vc_app] at ho
  refine ⟨⟨(h.bl.trans hb).setCell (p := ⟨bo, 1, none⟩) h.hb _, ?_, ?_, ?_, ?_, h.hb⟩, cell_of_row W' bo 1 _ 39 (0, 0) nb, unfrozen nb 1⟩
  · rw [hl]; exact set_heap nb _
  · rw [hl]; exact ownsRow_setCell_other ho (a := ⟨bo, 1, none⟩) (own_ne ho nb (by decide)) _
  · have h2 := own_apart h.r h.v hg (by decide)
    exact ownsRow_setCell_other h2 (a := ⟨bo, 1, none⟩) (own_ne h2 nb (by decide)) _
  · have h2 := own_apart h.m h.v hg (by decide)
    exact ownsRow_setCell_other h2 (a := ⟨bo, 1, none⟩) (own_ne h2 nb (by decide)) _
theorem Qs.putR (h : Qs wb bo st V cV R cR M cM vs rs ms W) {A9 : Option Addr} {c9 j : Nat} {ys : List Bool} (hj : j = rs.length + ys.length) (ho : W'.ownsRow wb.heap.size 4 1 (.slice A9 j c9) j (rc rs ++ rc ys)) (hb : Below wb.heap.size W W') (hg : W.grownBy W' (Value.slice R rs.length cR).ownBlock) :
    Qs wb bo st V cV A9 c9 M cM vs (rs ++ ys) ms (W'.setCell ⟨bo, 2, none⟩ (.slice A9 j c9)) ∧ W'.cell? ⟨bo, 2, none⟩ = some (.slice R rs.length cR) ∧ W'.frozen? ⟨bo, 2, none⟩ = false := by
  have hl : (rs ++ ys).length = j := by rw [List.length_append, hj]
  have nb := h.blk h.r (by decide) hg
  rw [← rc_app] at ho
  refine ⟨⟨(h.bl.trans hb).setCell (p := ⟨bo, 2, none⟩) h.hb _, ?_, ?_, ?_, ?_, h.hb⟩, cell_of_row W' bo 2 _ 39 (0, 0) nb, unfrozen nb 2⟩
  · rw [hl]; exact set_heap nb _
  · have h2 := own_apart h.v h.r hg (by decide)
    exact ownsRow_setCell_other h2 (a := ⟨bo, 2, none⟩) (own_ne h2 nb (by decide)) _
  · rw [hl]; exact ownsRow_setCell_other ho (a := ⟨bo, 2, none⟩) (own_ne ho nb (by decide)) _
  · have h2 := own_apart h.m h.r hg (by decide)
    exact ownsRow_setCell_other h2 (a := ⟨bo, 2, none⟩) (own_ne h2 nb (by decide)) _
theorem Qs.putM (h : Qs wb bo st V cV R cR M cM vs rs ms W) {A9 : Option Addr} {c9 j : Nat} {ys : List Ms} (hj : j = ms.length + ys.length) (ho : W'.ownsRow wb.heap.size 118 2 (.slice A9 j c9) j (mc ms ++ mc ys)) (hb : Below wb.heap.size W W') (hg : W.grownBy W' (Value.slice M ms.length cM).ownBlock) :
    Qs wb bo st V cV R cR A9 c9 vs rs (ms ++ ys) (W'.setCell ⟨bo, 3, none⟩ (.slice A9 j c9)) ∧ W'.cell? ⟨bo, 3, none⟩ = some (.slice M ms.length cM) ∧ W'.frozen? ⟨bo, 3, none⟩ = false := by
  have hl : (ms ++ ys).length = j := by rw [List.length_append, hj]
  have nb := h.blk h.m (by decide) hg
  rw [← mc_append] at ho
  refine ⟨⟨(h.bl.trans hb).setCell (p := ⟨bo, 3, none⟩) h.hb _, ?_, ?_, ?_, ?_, h.hb⟩, cell_of_row W' bo 3 _ 39 (0, 0) nb, unfrozen nb 3⟩
  · rw [hl]; exact set_heap nb _
  · have h2 := own_apart h.v h.m hg (by decide)
    exact ownsRow_setCell_other h2 (a := ⟨bo, 3, none⟩) (own_ne h2 nb (by decide)) _
  · have h2 := own_apart h.r h.m hg (by decide)
    exact ownsRow_setCell_other h2 (a := ⟨bo, 3, none⟩) (own_ne h2 nb (by decide)) _
  · rw [hl]; exact ownsRow_setCell_other ho (a := ⟨bo, 3, none⟩) (own_ne ho nb (by decide)) _
theorem Qs.keepV (h : Qs wb bo st V cV R cR M cM vs rs ms W) {b sz m i : Nat} {e : TypeId} {u y : Value} {xs : List Value} (ho : W.ownsRow b e sz u m xs) (h1 : e ≠ 2) (h2 : (39 : TypeId) ≠ e) (hg : W.grownBy W' (Value.slice V vs.length cV).ownBlock) : (W'.setCell ⟨bo, i, none⟩ y).ownsRow b e sz u m xs := by
  have h3 := own_apart ho h.v hg h1
  exact ownsRow_setCell_other h3 (a := ⟨bo, i, none⟩) (own_ne h3 (h.blk h.v (by decide) hg) h2) _
theorem Qs.keepR (h : Qs wb bo st V cV R cR M cM vs rs ms W) {b sz m i : Nat} {e : TypeId} {u y : Value} {xs : List Value} (ho : W.ownsRow b e sz u m xs) (h1 : e ≠ 4) (h2 : (39 : TypeId) ≠ e) (hg : W.grownBy W' (Value.slice R rs.length cR).ownBlock) : (W'.setCell ⟨bo, i, none⟩ y).ownsRow b e sz u m xs := by
  have h3 := own_apart ho h.r hg h1
  exact ownsRow_setCell_other h3 (a := ⟨bo, i, none⟩) (own_ne h3 (h.blk h.r (by decide) hg) h2) _
end
/-- What answers a partition: in memory of the call's own. -/
def PtPost (P : Int) (T : St) (w : World) (r : Ending) (w' : World) : Prop :=
  Below w.heap.size w w' ∧ ∃ A1 c1 A2 c2 A3 c3, r = .returned (.agg #[.int .i64 P, .int .i64 T.step, .slice A1 T.vals.length c1, .slice A2 T.rest.length c2, .slice A3 T.inn.length c3]) ∧ StL w' w'.heap.size T A1 c1 A2 c2 A3 c3 ∧ Fr w.heap.size A1 ∧ Fr w.heap.size A2 ∧ Fr w.heap.size A3
end Go.Proofs.YtpgdddjjjfkneaaGreatDoor


