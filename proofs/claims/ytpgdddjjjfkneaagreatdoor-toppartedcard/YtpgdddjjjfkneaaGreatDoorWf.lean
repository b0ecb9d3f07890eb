import Derived.Test.YtpgdddjjjfkneaaGreatDoorWe
import Derived.BigQuiet
import Derived.BigRegion
import Derived.Deep.RegionHeld3
/-
  The document's examples ('knows'). No condition.
-/
namespace Go.Proofs.YtpgdddjjjfkneaaGreatDoor
open Go.ChangeShapes Go.WideShapes Go.ChangeAt Go.RowKit
set_option linter.unusedVariables false

/-- The examples' graph and job stand in memory. -/
structure Kw (w W : World) : Prop where
  z : w.heap.size + 3 ≤ W.heap.size
  g0 : W.cell? ⟨w.heap.size + 1, 0, none⟩ = some (.int .i64 2)
  g1 : W.cell? ⟨w.heap.size + 1, 1, none⟩ = some (.slice (some ⟨w.heap.size, 0, none⟩) 2 2)
  j0 : W.cell? ⟨w.heap.size + 1 + 1, 0, none⟩ = some (.int .i64 1)
  j1 : W.cell? ⟨w.heap.size + 1 + 1, 1, none⟩ = some (.int .i64 0)
  j2 : W.cell? ⟨w.heap.size + 1 + 1, 2, none⟩ = some (.int .i64 9)
  j3 : W.cell? ⟨w.heap.size + 1 + 1, 3, none⟩ = some (.int .i64 2)
  L : Lies W W.heap.size 3 (some ⟨w.heap.size, 0, none⟩) 2 (ec twoE)
  bl : Below w.heap.size w W
theorem Kw.next {w W W' : World} (h : Kw w W) (hb : Below W.heap.size W W') : Kw w W' :=
  have k : ∀ b o, b < w.heap.size + 3 → W'.cell? ⟨b, o, none⟩ = W.cell? ⟨b, o, none⟩ := fun b o hl => hb.cell (p := ⟨b, o, none⟩) (Nat.lt_of_lt_of_le hl h.z)
  ⟨Nat.le_trans h.z hb.size, (k _ _ (by omega)).trans h.g0, (k _ _ (by omega)).trans h.g1, (k _ _ (by omega)).trans h.j0, (k _ _ (by omega)).trans h.j1, (k _ _ (by omega)).trans h.j2, (k _ _ (by omega)).trans h.j3, h.L.next hb, h.bl.trans (hb.mono (by have := h.z; omega))⟩
theorem Kw.init (w : World) : Kw w (((w.alloc (.cells #[.int .i64 0, .int .i64 1, .int .i64 7, .int .i64 1, .int .i64 0, .int .i64 5] 80)).alloc (.cells #[.int .i64 2, .slice (some ⟨w.heap.size, 0, none⟩) 2 2] 27)).alloc (.cells #[.int .i64 1, .int .i64 0, .int .i64 9, .int .i64 2] 23)) := by
  have hl := lies_cells w (ec twoE) 80 2 3 rfl
  refine ⟨by simp, by simp [go_sem], by simp [go_sem], by simp [go_sem], by simp [go_sem], by simp [go_sem], by simp [go_sem], ?_, (((Below.refl _ _).alloc (Nat.le_refl _) _).alloc (by simp) _).alloc (by simp; omega) _⟩
  exact ((hl.more (B' := (w.alloc (.cells (ec twoE).toArray 80)).heap.size) (by simp)).next (below_alloc _ _)).next (below_alloc _ _)
/-- A partition stands in block b. -/
def At5 (b : Nat) (cs : Array Value) (W : World) : Prop := W.heap[b]? = some (.cells cs 64 (0, 0))
theorem At5.next {b : Nat} {cs : Array Value} {W W' : World} (h : At5 b cs W) (hb : Below W.heap.size W W') : At5 b cs W' := (hb.block _ (lt_of_block h)).trans h
end Go.Proofs.YtpgdddjjjfkneaaGreatDoor


