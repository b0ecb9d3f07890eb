/-
  The document's own Do (chapter 8): what a partition did, under way, in memory. No condition.
-/
import Derived.Test.YtcaccjfnibjbpaaWd
import Derived.Test.YtcaccjfnibjbpaaWh
import Derived.Deep.RegionHeld3
import Derived.Deep.DeepCutAuto
import Derived.BigRegion
import Derived.BigQuiet
namespace Go.Proofs.Ytcaccjfnibjbpaa
open Go.ChangeShapes Go.WideShapes Go.ChangeAt Go.RowKit
set_option linter.unusedVariables false

theorem lcl_app8 (a b : List Le) : lcl (a ++ b) = lcl a ++ lcl b := by unfold lcl; simp
/-- What was done, under way: in block bo. -/
structure Dn (wb : World) (bo : Nat) (P st : Int) (V : Option Addr) (cV : Nat) (R : Option Addr) (cR : Nat) (D : Option Addr) (cD : Nat) (vs : List Int) (rs : List Bool) (os : List Le) (W : World) : Prop where
  bl : Below wb.heap.size wb W
  nb : W.heap[bo]? = some (.cells #[.int .i64 P, .int .i64 st, .slice V vs.length cV, .slice R rs.length cR, .slice none 0 0, .slice D os.length cD, .int .i64 0] 40 (0, 0))
  v : W.ownsRow wb.heap.size 2 1 (.slice V vs.length cV) vs.length (vc vs)
  r : W.ownsRow wb.heap.size 4 1 (.slice R rs.length cR) rs.length (rc rs)
  o : W.ownsRow wb.heap.size 29 1 (.slice D os.length cD) os.length (lcl os)
  el : ∀ e ∈ os, W.ownsRow wb.heap.size 59 2 e.v e.ms.length (mc e.ms)
  hb : wb.heap.size ≤ bo
section
variable {wb : World} {bo : Nat} {P st : Int} {V : Option Addr} {cV : Nat} {R : Option Addr} {cR : Nat} {D : Option Addr} {cD : Nat} {vs : List Int} {rs : List Bool} {os : List Le} {W W' : World}
theorem Dn.lt (h : Dn wb bo P st V cV R cR D cD vs rs os W) : bo < W.heap.size := lt_of_block h.nb
theorem Dn.next (h : Dn wb bo P st V cV R cR D cD vs rs os W) (hb : Below W.heap.size W W') : Dn wb bo P st V cV R cR D cD vs rs os W' :=
  ⟨h.bl.trans (hb.mono h.bl.size), (hb.block _ h.lt).trans h.nb, own_next h.v hb, own_next h.r hb, own_next h.o hb, fun e he => own_next (h.el e he) hb, h.hb⟩
theorem Dn.start (wb : World) (P st : Int) : Dn wb wb.heap.size P st none 0 none 0 none 0 [] [] [] (wb.alloc (.cells #[.int .i64 P, .int .i64 st, .slice none 0 0, .slice none 0 0, .slice none 0 0, .slice none 0 0, .int .i64 0] 40)) :=
  ⟨below_alloc _ _, heap_alloc_new _ _, World.ownsRow_nil _ _ _ _, World.ownsRow_nil _ _ _ _, World.ownsRow_nil _ _ _ _, fun e he => (by cases he), Nat.le_refl _⟩
theorem Dn.blk (h : Dn wb bo P st V cV R cR D cD vs rs os W) {b s m : Nat} {e : TypeId} {u : Value} {xs : List Value} (ho : W.ownsRow b e s u m xs) (he : (40 : TypeId) ≠ e) (hg : W.grownBy W' u.ownBlock) :
    W'.heap[bo]? = some (.cells #[.int .i64 P, .int .i64 st, .slice V vs.length cV, .slice R rs.length cR, .slice none 0 0, .slice D os.length cD, .int .i64 0] 40 (0, 0)) :=
  (hg.block _ h.lt (fun e1 => own_ne ho h.nb he e1.symm)).trans h.nb
theorem Dn.grown (h : Dn wb bo P st V cV R cR D cD vs rs [] W) {m : Nat} {u : Value} {xs : List Value} (ho : W.ownsRow wb.heap.size 59 2 u m xs) (hg : W.grownBy W' u.ownBlock) : Dn wb bo P st V cV R cR D cD vs rs [] W' :=
  ⟨h.bl.grown hg h.bl.size (fun k hk => (ho.lt k hk).1), h.blk ho (by decide) hg, own_apart h.v ho hg (by decide), own_apart h.r ho hg (by decide), own_apart h.o ho hg (by decide), fun e he => (by cases he), h.hb⟩
/-- A cell of another struct is written. -/
theorem Dn.set (h : Dn wb bo P st V cV R cR D cD vs rs os W) {g k : Nat} {cur : Array Value} {fr : Nat × Nat} {u : Value} (hg : W.heap[g]? = some (.cells cur 75 fr)) (hb : wb.heap.size ≤ g) : Dn wb bo P st V cV R cR D cD vs rs os (W.setCell ⟨g, k, none⟩ u) := by
  have oth : ∀ {b s m : Nat} {e : TypeId} {v : Value} {zs : List Value}, W.ownsRow b e s v m zs → (75 : TypeId) ≠ e → (W.setCell ⟨g, k, none⟩ u).ownsRow b e s v m zs := fun hu h2 => ownsRow_setCell_other hu (a := ⟨g, k, none⟩) (own_ne hu hg h2) _
  refine ⟨h.bl.setCell (p := ⟨g, k, none⟩) hb _, ?_, oth h.v (by decide), oth h.r (by decide), oth h.o (by decide), fun e he => oth (h.el e he) (by decide), h.hb⟩
  rw [Below.heap_setCell _ _ _ _ (fun e => ?_)]
  · exact h.nb
  · have e : bo = g := e
    subst e
    have := h.nb
    rw [hg] at this
    injection this with this
    injection this with _ this
    exact absurd this (by decide)
theorem Dn.putV (h : Dn wb bo P st V cV R cR D cD vs rs os W) {A9 : Option Addr} {c9 j : Nat} {ys : List Int} (hj : j = vs.length + ys.length) (ho : W'.ownsRow wb.heap.size 2 1 (.slice A9 j c9) j (vc vs ++ vc ys)) (hb : Below wb.heap.size W W') (hg : W.grownBy W' (Value.slice V vs.length cV).ownBlock) :
    Dn wb bo P st A9 c9 R cR D cD (vs ++ ys) rs os (W'.setCell ⟨bo, 2, none⟩ (.slice A9 j c9)) ∧ W'.cell? ⟨bo, 2, none⟩ = some (.slice V vs.length cV) ∧ W'.frozen? ⟨bo, 2, none⟩ = false := by
  have hl : (vs ++ ys).length = j := by rw [List.length_append, hj]
  have nb := h.blk h.v (by decide) hg
  rw [← vc_app] at ho
  have oth : ∀ {b s m : Nat} {e : TypeId} {u : Value} {zs : List Value}, W.ownsRow b e s u m zs → e ≠ 2 → (40 : TypeId) ≠ e → (W'.setCell ⟨bo, 2, none⟩ (.slice A9 j c9)).ownsRow b e s u m zs := fun hu h1 h2 => by
    have h3 := own_apart hu h.v hg h1
    exact ownsRow_setCell_other h3 (a := ⟨bo, 2, none⟩) (own_ne h3 nb h2) _
  refine ⟨⟨(h.bl.trans hb).setCell (p := ⟨bo, 2, none⟩) h.hb _, ?_, ?_, ?_, ?_, fun e he => ?_, h.hb⟩, cell_of_row W' bo 2 _ 40 (0, 0) nb, unfrozen nb 2⟩
  · rw [hl]; exact set_heap nb _
  · rw [hl]; exact ownsRow_setCell_other ho (a := ⟨bo, 2, none⟩) (own_ne ho nb (by decide)) _
  · exact oth h.r (by decide) (by decide)
  · exact oth h.o (by decide) (by decide)
  · exact oth (h.el e he) (by decide) (by decide)
theorem Dn.keepV (h : Dn wb bo P st V cV R cR D cD vs rs os W) {b sz m i : Nat} {e : TypeId} {u y : Value} {xs : List Value} (ho : W.ownsRow b e sz u m xs) (h1 : e ≠ 2) (h2 : (40 : TypeId) ≠ e) (hg : W.grownBy W' (Value.slice V vs.length cV).ownBlock) : (W'.setCell ⟨bo, i, none⟩ y).ownsRow b e sz u m xs := by
  have h3 := own_apart ho h.v hg h1
  exact ownsRow_setCell_other h3 (a := ⟨bo, i, none⟩) (own_ne h3 (h.blk h.v (by decide) hg) h2) _
theorem Dn.turnV (h : Dn wb bo P st V cV R cR D cD vs rs os W) {bt i : Nat} {y : Value} {cs : Array Value} (ht : W.heap[bt]? = some (.cells cs 75 (0, 0))) (hg : W.grownBy W' (Value.slice V vs.length cV).ownBlock) : (W'.setCell ⟨bo, i, none⟩ y).heap[bt]? = some (.cells cs 75 (0, 0)) := by
  rw [Below.heap_setCell _ _ _ _ (fun e => ?_)]
  · exact (hg.block _ (lt_of_block ht) (fun e1 => own_ne h.v ht (by decide) e1.symm)).trans ht
  · have e : bt = bo := e
    subst e
    have := h.nb
    rw [ht] at this
    injection this with this
    injection this with _ this
    exact absurd this (by decide)
theorem Dn.putR (h : Dn wb bo P st V cV R cR D cD vs rs os W) {A9 : Option Addr} {c9 j : Nat} {ys : List Bool} (hj : j = rs.length + ys.length) (ho : W'.ownsRow wb.heap.size 4 1 (.slice A9 j c9) j (rc rs ++ rc ys)) (hb : Below wb.heap.size W W') (hg : W.grownBy W' (Value.slice R rs.length cR).ownBlock) :
    Dn wb bo P st V cV A9 c9 D cD vs (rs ++ ys) os (W'.setCell ⟨bo, 3, none⟩ (.slice A9 j c9)) ∧ W'.cell? ⟨bo, 3, none⟩ = some (.slice R rs.length cR) ∧ W'.frozen? ⟨bo, 3, none⟩ = false := by
  have hl : (rs ++ ys).length = j := by rw [List.length_append, hj]
  have nb := h.blk h.r (by decide) hg
  rw [← rc_app] at ho
  have oth : ∀ {b s m : Nat} {e : TypeId} {u : Value} {zs : List Value}, W.ownsRow b e s u m zs → e ≠ 4 → (40 : TypeId) ≠ e → (W'.setCell ⟨bo, 3, none⟩ (.slice A9 j c9)).ownsRow b e s u m zs := fun hu h1 h2 => by
    have h3 := own_apart hu h.r hg h1
    exact ownsRow_setCell_other h3 (a := ⟨bo, 3, none⟩) (own_ne h3 nb h2) _
  refine ⟨⟨(h.bl.trans hb).setCell (p := ⟨bo, 3, none⟩) h.hb _, ?_, ?_, ?_, ?_, fun e he => ?_, h.hb⟩, cell_of_row W' bo 3 _ 40 (0, 0) nb, unfrozen nb 3⟩
  · rw [hl]; exact set_heap nb _
  · exact oth h.v (by decide) (by decide)
  · rw [hl]; exact ownsRow_setCell_other ho (a := ⟨bo, 3, none⟩) (own_ne ho nb (by decide)) _
  · exact oth h.o (by decide) (by decide)
  · exact oth (h.el e he) (by decide) (by decide)
theorem Dn.keepR (h : Dn wb bo P st V cV R cR D cD vs rs os W) {b sz m i : Nat} {e : TypeId} {u y : Value} {xs : List Value} (ho : W.ownsRow b e sz u m xs) (h1 : e ≠ 4) (h2 : (40 : TypeId) ≠ e) (hg : W.grownBy W' (Value.slice R rs.length cR).ownBlock) : (W'.setCell ⟨bo, i, none⟩ y).ownsRow b e sz u m xs := by
  have h3 := own_apart ho h.r hg h1
  exact ownsRow_setCell_other h3 (a := ⟨bo, i, none⟩) (own_ne h3 (h.blk h.r (by decide) hg) h2) _
theorem Dn.turnR (h : Dn wb bo P st V cV R cR D cD vs rs os W) {bt i : Nat} {y : Value} {cs : Array Value} (ht : W.heap[bt]? = some (.cells cs 75 (0, 0))) (hg : W.grownBy W' (Value.slice R rs.length cR).ownBlock) : (W'.setCell ⟨bo, i, none⟩ y).heap[bt]? = some (.cells cs 75 (0, 0)) := by
  rw [Below.heap_setCell _ _ _ _ (fun e => ?_)]
  · exact (hg.block _ (lt_of_block ht) (fun e1 => own_ne h.r ht (by decide) e1.symm)).trans ht
  · have e : bt = bo := e
    subst e
    have := h.nb
    rw [ht] at this
    injection this with this
    injection this with _ this
    exact absurd this (by decide)
theorem Dn.putO (h : Dn wb bo P st V cV R cR D cD vs rs os W) {A9 : Option Addr} {c9 j : Nat} {ys : List Le} (hj : j = os.length + ys.length) (ho : W'.ownsRow wb.heap.size 29 1 (.slice A9 j c9) j (lcl os ++ lcl ys)) (hb : Below wb.heap.size W W') (hg : W.grownBy W' (Value.slice D os.length cD).ownBlock) (hel : ∀ e ∈ ys, W.ownsRow wb.heap.size 59 2 e.v e.ms.length (mc e.ms)) :
    Dn wb bo P st V cV R cR A9 c9 vs rs (os ++ ys) (W'.setCell ⟨bo, 5, none⟩ (.slice A9 j c9)) ∧ W'.cell? ⟨bo, 5, none⟩ = some (.slice D os.length cD) ∧ W'.frozen? ⟨bo, 5, none⟩ = false := by
  have hl : (os ++ ys).length = j := by rw [List.length_append, hj]
  have nb := h.blk h.o (by decide) hg
  rw [← lcl_app8] at ho
  have oth : ∀ {b s m : Nat} {e : TypeId} {u : Value} {zs : List Value}, W.ownsRow b e s u m zs → e ≠ 29 → (40 : TypeId) ≠ e → (W'.setCell ⟨bo, 5, none⟩ (.slice A9 j c9)).ownsRow b e s u m zs := fun hu h1 h2 => by
    have h3 := own_apart hu h.o hg h1
    exact ownsRow_setCell_other h3 (a := ⟨bo, 5, none⟩) (own_ne h3 nb h2) _
  refine ⟨⟨(h.bl.trans hb).setCell (p := ⟨bo, 5, none⟩) h.hb _, ?_, ?_, ?_, ?_, fun e he => ?_, h.hb⟩, cell_of_row W' bo 5 _ 40 (0, 0) nb, unfrozen nb 5⟩
  · rw [hl]; exact set_heap nb _
  · exact oth h.v (by decide) (by decide)
  · exact oth h.r (by decide) (by decide)
  · rw [hl]; exact ownsRow_setCell_other ho (a := ⟨bo, 5, none⟩) (own_ne ho nb (by decide)) _
  · exact oth ((List.mem_append.1 he).elim (h.el e) (hel e)) (by decide) (by decide)
theorem Dn.keepO (h : Dn wb bo P st V cV R cR D cD vs rs os W) {b sz m i : Nat} {e : TypeId} {u y : Value} {xs : List Value} (ho : W.ownsRow b e sz u m xs) (h1 : e ≠ 29) (h2 : (40 : TypeId) ≠ e) (hg : W.grownBy W' (Value.slice D os.length cD).ownBlock) : (W'.setCell ⟨bo, i, none⟩ y).ownsRow b e sz u m xs := by
  have h3 := own_apart ho h.o hg h1
  exact ownsRow_setCell_other h3 (a := ⟨bo, i, none⟩) (own_ne h3 (h.blk h.o (by decide) hg) h2) _
theorem Dn.turnO (h : Dn wb bo P st V cV R cR D cD vs rs os W) {bt i : Nat} {y : Value} {cs : Array Value} (ht : W.heap[bt]? = some (.cells cs 75 (0, 0))) (hg : W.grownBy W' (Value.slice D os.length cD).ownBlock) : (W'.setCell ⟨bo, i, none⟩ y).heap[bt]? = some (.cells cs 75 (0, 0)) := by
  rw [Below.heap_setCell _ _ _ _ (fun e => ?_)]
  · exact (hg.block _ (lt_of_block ht) (fun e1 => own_ne h.o ht (by decide) e1.symm)).trans ht
  · have e : bt = bo := e
    subst e
    have := h.nb
    rw [ht] at this
    injection this with this
    injection this with _ this
    exact absurd this (by decide)
end
/-- A turn under way: what was done, what was sent, and the turn's own answer in block bt. -/
structure Tn (wb : World) (bo : Nat) (P st : Int) (V : Option Addr) (cV : Nat) (R : Option Addr) (cR : Nat) (vs : List Int) (rs : List Bool) (bt : Nat) (cs : Array Value) (AS : Option Addr) (cS : Nat) (se : List Ms) (AT : Option Addr) (cT : Nat) (tm : List Ms) (Lv : Value) (Ln : Nat) (Lx : List Value) (W : World) : Prop where
  p : Dn wb bo P st V cV R cR none 0 vs rs [] W
  t : W.heap[bt]? = some (.cells cs 75 (0, 0))
  so : W.ownsRow wb.heap.size 59 2 (.slice AS se.length cS) se.length (mc se)
  st' : W.ownsRow wb.heap.size 59 2 (.slice AT tm.length cT) tm.length (mc tm)
  hbt : wb.heap.size ≤ bt
  lv : W.ownsRow wb.heap.size 3 1 Lv Ln Lx
section
variable {wb : World} {bo : Nat} {P st : Int} {V : Option Addr} {cV : Nat} {R : Option Addr} {cR : Nat} {vs : List Int} {rs : List Bool} {bt : Nat} {cs : Array Value} {AS : Option Addr} {cS : Nat} {se : List Ms} {AT : Option Addr} {cT : Nat} {tm : List Ms} {Lv : Value} {Ln : Nat} {Lx : List Value} {W W' : World}
theorem Tn.next (h : Tn wb bo P st V cV R cR vs rs bt cs AS cS se AT cT tm Lv Ln Lx W) (hb : Below W.heap.size W W') : Tn wb bo P st V cV R cR vs rs bt cs AS cS se AT cT tm Lv Ln Lx W' :=
  ⟨h.p.next hb, (hb.block _ (lt_of_block h.t)).trans h.t, own_next h.so hb, own_next h.st' hb, h.hbt, own_next h.lv hb⟩
theorem Tn.putV (h : Tn wb bo P st V cV R cR vs rs bt cs AS cS se AT cT tm Lv Ln Lx W) {A9 : Option Addr} {c9 j : Nat} {x : Int} (hj : j = vs.length + 1) (ho : W'.ownsRow wb.heap.size 2 1 (.slice A9 j c9) j (vc vs ++ vc [x])) (hb : Below wb.heap.size W W') (hg : W.grownBy W' (Value.slice V vs.length cV).ownBlock) :
    Tn wb bo P st A9 c9 R cR (vs ++ [x]) rs bt cs AS cS se AT cT tm Lv Ln Lx (W'.setCell ⟨bo, 2, none⟩ (.slice A9 j c9)) ∧ W'.cell? ⟨bo, 2, none⟩ = some (.slice V vs.length cV) ∧ W'.frozen? ⟨bo, 2, none⟩ = false := by
  obtain ⟨h1, h2, h3⟩ := h.p.putV (ys := [x]) hj ho hb hg
  exact ⟨⟨h1, h.p.turnV h.t hg, h.p.keepV h.so (by decide) (by decide) hg, h.p.keepV h.st' (by decide) (by decide) hg, h.hbt, h.p.keepV h.lv (by decide) (by decide) hg⟩, h2, h3⟩
theorem Tn.putR (h : Tn wb bo P st V cV R cR vs rs bt cs AS cS se AT cT tm Lv Ln Lx W) {A9 : Option Addr} {c9 j : Nat} {x : Bool} (hj : j = rs.length + 1) (ho : W'.ownsRow wb.heap.size 4 1 (.slice A9 j c9) j (rc rs ++ rc [x])) (hb : Below wb.heap.size W W') (hg : W.grownBy W' (Value.slice R rs.length cR).ownBlock) :
    Tn wb bo P st V cV A9 c9 vs (rs ++ [x]) bt cs AS cS se AT cT tm Lv Ln Lx (W'.setCell ⟨bo, 3, none⟩ (.slice A9 j c9)) ∧ W'.cell? ⟨bo, 3, none⟩ = some (.slice R rs.length cR) ∧ W'.frozen? ⟨bo, 3, none⟩ = false := by
  obtain ⟨h1, h2, h3⟩ := h.p.putR (ys := [x]) hj ho hb hg
  exact ⟨⟨h1, h.p.turnR h.t hg, h.p.keepR h.so (by decide) (by decide) hg, h.p.keepR h.st' (by decide) (by decide) hg, h.hbt, h.p.keepR h.lv (by decide) (by decide) hg⟩, h2, h3⟩
/-- The turn's answer is put into its block. -/
theorem Tn.turn {u0 u1 u2 u3 : Value} (h : Tn wb bo P st V cV R cR vs rs bt #[u0, u1, u2, u3] AS cS se AT cT tm Lv Ln Lx W) (y0 y1 y2 y3 : Value) : Tn wb bo P st V cV R cR vs rs bt #[y0, y1, y2, y3] AS cS se AT cT tm Lv Ln Lx ((((W.setCell ⟨bt, 0, none⟩ y0).setCell ⟨bt, 1, none⟩ y1).setCell ⟨bt, 2, none⟩ y2).setCell ⟨bt, 3, none⟩ y3) := by
  have t1 := set_heap (i := 0) h.t y0
  have t2 := set_heap (i := 1) t1 y1
  have t3 := set_heap (i := 2) t2 y2
  have t4 := set_heap (i := 3) t3 y3
  have oth : ∀ {b s m : Nat} {e : TypeId} {v : Value} {zs : List Value}, W.ownsRow b e s v m zs → (75 : TypeId) ≠ e → ((((W.setCell ⟨bt, 0, none⟩ y0).setCell ⟨bt, 1, none⟩ y1).setCell ⟨bt, 2, none⟩ y2).setCell ⟨bt, 3, none⟩ y3).ownsRow b e s v m zs := fun hu hne => by
    have h1 := ownsRow_setCell_other hu (a := ⟨bt, 0, none⟩) (own_ne hu h.t hne) y0
    have h2 := ownsRow_setCell_other h1 (a := ⟨bt, 1, none⟩) (own_ne h1 t1 hne) y1
    have h3 := ownsRow_setCell_other h2 (a := ⟨bt, 2, none⟩) (own_ne h2 t2 hne) y2
    exact ownsRow_setCell_other h3 (a := ⟨bt, 3, none⟩) (own_ne h3 t3 hne) y3
  exact ⟨(((h.p.set h.t h.hbt).set t1 h.hbt).set t2 h.hbt).set t3 h.hbt, t4, oth h.so (by decide), oth h.st' (by decide), h.hbt, oth h.lv (by decide)⟩
end
theorem verts_val {N q P : Int} (hq1 : 1 ≤ q) (hq6 : q ≤ 6) (h0 : 0 ≤ P) (hPq : P < q) {k : Nat} (hk : k < (nv (vertsI N.toNat q P)).length) : vAt (nv (vertsI N.toNat q P)) k = ((P.toNat + k * q.toNat : Nat) : Int) := by
  have hk' : k < (verts N.toNat q.toNat P.toNat).length := by rw [nv_len, vertsI_eq hq1 h0] at hk; exact hk
  have h1 := (verts_spec N.toNat q.toNat P.toNat (by omega) (by omega) (by omega)).2 k hk'
  unfold vAt nv
  rw [List.getD_eq_getElem?_getD, List.getElem?_map, vertsI_eq hq1 h0, List.getElem?_eq_getElem hk', h1]
  rfl
/-- What the document's Do answers. -/
def RdPost (t : Pt × List (List Ms) × Int) (w : World) (r : Ending) (w' : World) : Prop :=
  Below w.heap.size w w' ∧ ∃ Q T A1 c1 A2 c2 A3 c3 D cD os, r = .returned (.agg #[.int .i64 Q, .int .i64 T.step, .slice A1 T.vals.length c1, .slice A2 T.rest.length c2, .slice A3 T.inn.length c3, .slice D os.length cD, .int .i64 t.2.2]) ∧ mkP Q T = t.1 ∧ os.map Le.ms = t.2.1 ∧ StL w' w'.heap.size T A1 c1 A2 c2 A3 c3 ∧ Lls w' w'.heap.size D cD os
theorem rd_no {t : Pt × List (List Ms) × Int} {e : Int} {w w' : World} (h : t = (noPt, [], e)) (hb : Below w.heap.size w w') : RdPost t w (.returned (.agg #[.int .i64 0, .int .i64 0, .slice none 0 0, .slice none 0 0, .slice none 0 0, .slice none 0 0, .int .i64 e])) w' := by
  subst h
  exact ⟨hb, 0, noSt, none, 0, none, 0, none, 0, none, 0, [], rfl, rfl, rfl, StL.no _ _, ⟨Lies.nil, Nat.le_refl _, fun e he => by cases he⟩⟩
end Go.Proofs.Ytcaccjfnibjbpaa
