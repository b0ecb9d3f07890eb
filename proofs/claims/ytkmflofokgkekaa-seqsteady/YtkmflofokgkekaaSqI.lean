/-
  Words for the memory of the document's own Begin and Step: a state in a block whose values and rests grow. The step law of an append onto a row of the call's own. No condition.
-/
import Derived.Test.YtkmflofokgkekaaSqH
namespace Go.Proofs.Ytkmflofokgkekaa
open Go.RowKit
set_option linter.unusedVariables false

theorem step_own1 {P : Program} {ops : Array Oper} {o : Oper} {a : Act} {w : World} {K : Act → World → Prop} {Q : Exit → Act → World → Prop} {E : Prop}
    (hg : o.guard = none) (d x : Operand) (t : TypeId) (hop : o.op = Op.call { callee := Callee.builtin Builtin.append, args := #[d, x], argTypes := #[t, t] })
    (base : Nat) (e : TypeId) (i : TypeInfo) (z : Value) (size bytes : Nat) (ht : P.underlying t = some (.slice e)) (hi : P.info? e = some i) (hz : i.zero = some z) (hsize : i.size = size) (hby : i.bytes = bytes) (hzs : z.cells.size = size) (hsz : 0 < size)
    (A : Option Addr) (n c : Nat) (xs : List Value) (hd : a.eval d = .slice A n c) (hown : w.ownsRow base e size (.slice A n c) n xs)
    (B : Nat) (A2 : Option Addr) (m c2 : Nat) (news : List Value) (hx : a.eval x = .slice A2 m c2) (hl : Lies w B size A2 m news) (h1 : ∀ u ∈ news, u.oneCell' = true)
    (h63 : n + m ≤ maxLen) (hbytes : (n + m) * bytes ≤ 140737488355328) (hb : base ≤ w.heap.size)
    (h : ∀ A' c' w', w'.ownsRow base e size (.slice A' (n + m) c') (n + m) (xs ++ news) → Below base w w' → w.grownBy w' (Value.slice A n c).ownBlock → K (a.put o.dst (.slice A' (n + m) c')) w') :
    if Region.wanted o (yielded ops a.tmps) = true then Oper.wp P o a w K Q else E := by
  obtain ⟨A', c', w', hr, h2, h3, h4, _⟩ := run_app (P := P) w base t o.type e i z size bytes ht hi hz hsize hby hzs hsz A n c xs hown B A2 m c2 news hl h1 h63 hbytes hb
  exact step_app hg d x t t hop _ _ hd hx hr (h A' c' w' h2 h3 h4)

theorem lies_v (w : World) (x : Int) : Lies (w.alloc (.cells #[.int .i64 x] 2)) (w.heap.size + 1) 1 (some ⟨w.heap.size, 0, none⟩) 1 (vc [x]) := lies_cells w (vc [x]) 2 1 1 rfl
theorem lies_r (w : World) (x : Bool) : Lies (w.alloc (.cells #[.bool x] 4)) (w.heap.size + 1) 1 (some ⟨w.heap.size, 0, none⟩) 1 (rc [x]) := lies_cells w (rc [x]) 4 1 1 rfl

/-- A state under way: in block bo, its values and rests in rows of the call's own. -/
structure Rp (wb : World) (bo : Nat) (st1 : Int) (V : Option Addr) (cV : Nat) (R : Option Addr) (cR : Nat) (vs : List Int) (rs : List Bool) (W : World) : Prop where
  bl : Below wb.heap.size wb W
  nb : W.heap[bo]? = some (.cells #[.int .i64 st1, .slice V vs.length cV, .slice R rs.length cR, .slice none 0 0] 31 (0, 0))
  v : W.ownsRow wb.heap.size 2 1 (.slice V vs.length cV) vs.length (vc vs)
  r : W.ownsRow wb.heap.size 4 1 (.slice R rs.length cR) rs.length (rc rs)
  hb : wb.heap.size ≤ bo
section
variable {wb : World} {bo : Nat} {st1 : Int} {V : Option Addr} {cV : Nat} {R : Option Addr} {cR : Nat} {vs : List Int} {rs : List Bool} {W W' : World}
theorem Rp.lt (h : Rp wb bo st1 V cV R cR vs rs W) : bo < W.heap.size := lt_of_block h.nb
theorem Rp.next (h : Rp wb bo st1 V cV R cR vs rs W) (hb : Below W.heap.size W W') : Rp wb bo st1 V cV R cR vs rs W' :=
  ⟨h.bl.trans (hb.mono h.bl.size), (hb.block _ h.lt).trans h.nb, own_next h.v hb, own_next h.r hb, h.hb⟩
theorem Rp.start (wb : World) (st1 : Int) : Rp wb wb.heap.size st1 none 0 none 0 [] [] (wb.alloc (.cells #[.int .i64 st1, .slice none 0 0, .slice none 0 0, .slice none 0 0] 31)) :=
  ⟨below_alloc _ _, heap_alloc_new _ _, World.ownsRow_nil _ _ _ _, World.ownsRow_nil _ _ _ _, Nat.le_refl _⟩
theorem Rp.c1 (h : Rp wb bo st1 V cV R cR vs rs W) : W.cell? ⟨bo, 1, none⟩ = some (.slice V vs.length cV) := cell_of_row W bo 1 _ 31 (0, 0) h.nb
theorem Rp.c2 (h : Rp wb bo st1 V cV R cR vs rs W) : W.cell? ⟨bo, 2, none⟩ = some (.slice R rs.length cR) := cell_of_row W bo 2 _ 31 (0, 0) h.nb
theorem Rp.fz (h : Rp wb bo st1 V cV R cR vs rs W) (i : Nat) : W.frozen? ⟨bo, i, none⟩ = false := unfrozen h.nb i
/-- The block of the state stays while a row of the call's own grows. -/
theorem Rp.blk (h : Rp wb bo st1 V cV R cR vs rs W) {b s m : Nat} {e : TypeId} {u : Value} {xs : List Value} (ho : W.ownsRow b e s u m xs) (he : (31 : TypeId) ≠ e) (hg : W.grownBy W' u.ownBlock) :
    W'.heap[bo]? = some (.cells #[.int .i64 st1, .slice V vs.length cV, .slice R rs.length cR, .slice none 0 0] 31 (0, 0)) :=
  (hg.block _ h.lt (fun e1 => own_ne ho h.nb he e1.symm)).trans h.nb
theorem Rp.putV (h : Rp wb bo st1 V cV R cR vs rs W) {A9 : Option Addr} {c9 : Nat} {x : Int} (ho : W'.ownsRow wb.heap.size 2 1 (.slice A9 (vs.length + 1) c9) (vs.length + 1) (vc vs ++ vc [x])) (hb : Below wb.heap.size W W') (hg : W.grownBy W' (Value.slice V vs.length cV).ownBlock) :
    Rp wb bo st1 A9 c9 R cR (vs ++ [x]) rs (W'.setCell ⟨bo, 1, none⟩ (.slice A9 (vs.length + 1) c9)) := by
  have hl : (vs ++ [x]).length = vs.length + 1 := by simp
  have nb := h.blk h.v (by decide) hg
  rw [← vc_app] at ho
  refine ⟨(h.bl.trans hb).setCell (p := ⟨bo, 1, none⟩) h.hb _, ?_, ?_, ?_, h.hb⟩
  · rw [hl]; exact set_heap nb _
  · rw [hl]; exact ownsRow_setCell_other ho (a := ⟨bo, 1, none⟩) (own_ne ho nb (by decide)) _
  · have h2 := own_apart h.r h.v hg (by decide)
    exact ownsRow_setCell_other h2 (a := ⟨bo, 1, none⟩) (own_ne h2 nb (by decide)) _
theorem Rp.putR (h : Rp wb bo st1 V cV R cR vs rs W) {A9 : Option Addr} {c9 : Nat} {x : Bool} (ho : W'.ownsRow wb.heap.size 4 1 (.slice A9 (rs.length + 1) c9) (rs.length + 1) (rc rs ++ rc [x])) (hb : Below wb.heap.size W W') (hg : W.grownBy W' (Value.slice R rs.length cR).ownBlock) :
    Rp wb bo st1 V cV A9 c9 vs (rs ++ [x]) (W'.setCell ⟨bo, 2, none⟩ (.slice A9 (rs.length + 1) c9)) := by
  have hl : (rs ++ [x]).length = rs.length + 1 := by simp
  have nb := h.blk h.r (by decide) hg
  rw [← rc_app] at ho
  refine ⟨(h.bl.trans hb).setCell (p := ⟨bo, 2, none⟩) h.hb _, ?_, ?_, ?_, h.hb⟩
  · rw [hl]; exact set_heap nb _
  · have h2 := own_apart h.v h.r hg (by decide)
    exact ownsRow_setCell_other h2 (a := ⟨bo, 2, none⟩) (own_ne h2 nb (by decide)) _
  · rw [hl]; exact ownsRow_setCell_other ho (a := ⟨bo, 2, none⟩) (own_ne ho nb (by decide)) _
/-- What else is the call's own stays. -/
theorem Rp.keepV (h : Rp wb bo st1 V cV R cR vs rs W) {m i : Nat} {u y : Value} {xs : List Value} (ho : W.ownsRow wb.heap.size 57 2 u m xs) (hg : W.grownBy W' (Value.slice V vs.length cV).ownBlock) : (W'.setCell ⟨bo, i, none⟩ y).ownsRow wb.heap.size 57 2 u m xs := by
  have h2 := own_apart ho h.v hg (by decide)
  exact ownsRow_setCell_other h2 (a := ⟨bo, i, none⟩) (own_ne h2 (h.blk h.v (by decide) hg) (by decide)) _
theorem Rp.keepR (h : Rp wb bo st1 V cV R cR vs rs W) {m i : Nat} {u y : Value} {xs : List Value} (ho : W.ownsRow wb.heap.size 57 2 u m xs) (hg : W.grownBy W' (Value.slice R rs.length cR).ownBlock) : (W'.setCell ⟨bo, i, none⟩ y).ownsRow wb.heap.size 57 2 u m xs := by
  have h2 := own_apart ho h.r hg (by decide)
  exact ownsRow_setCell_other h2 (a := ⟨bo, i, none⟩) (own_ne h2 (h.blk h.r (by decide) hg) (by decide)) _
theorem Rp.grown (h : Rp wb bo st1 V cV R cR vs rs W) {m : Nat} {u : Value} {xs : List Value} (ho : W.ownsRow wb.heap.size 57 2 u m xs) (hg : W.grownBy W' u.ownBlock) : Rp wb bo st1 V cV R cR vs rs W' :=
  ⟨h.bl.grown hg h.bl.size (fun k hk => (ho.lt k hk).1), h.blk ho (by decide) hg, own_apart h.v ho hg (by decide), own_apart h.r ho hg (by decide), h.hb⟩
end

/-- What the document's Begin answers: a state alone. -/
def BePost (t : St) (w : World) (r : Ending) (w' : World) : Prop :=
  Below w.heap.size w w' ∧ ∃ A1 c1 A2 c2 A3 c3, r = .returned (.agg #[.int .i64 t.step, .slice A1 t.vals.length c1, .slice A2 t.rest.length c2, .slice A3 t.inn.length c3]) ∧ StL w' w'.heap.size t A1 c1 A2 c2 A3 c3 ∧ Fr w.heap.size A1 ∧ Fr w.heap.size A2 ∧ Fr w.heap.size A3

def bsV (p s : Int) (k : Nat) : List Int := (List.range k).map fun (v : Nat) => startI p s v
theorem bsV_succ (p s : Int) (k : Nat) : bsV p s (k + 1) = bsV p s k ++ [startI p s k] := by unfold bsV; rw [List.range_succ, List.map_append]; rfl
theorem bsV_len (p s : Int) (k : Nat) : (bsV p s k).length = k := by unfold bsV; simp
theorem bsR_succ (k : Nat) : List.replicate (k + 1) false = List.replicate k false ++ [false] := by
  rw [List.replicate_succ']

end Go.Proofs.Ytkmflofokgkekaa
