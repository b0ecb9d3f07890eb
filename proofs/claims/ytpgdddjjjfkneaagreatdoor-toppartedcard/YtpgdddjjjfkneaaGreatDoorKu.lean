import Derived.Test.YtpgdddjjjfkneaaGreatDoorKt
import Derived.BigQuiet
import Derived.Deep.OwnRows
import Derived.BigRegion
import Derived.Deep.DeepCutAuto
import Derived.Deep.Cut
import Derived.Deep.LoopGhost
import Derived.Deep.RegionHeld3
/-
  The contracts of the document's SameVals, SameRest, Same, SameAnswer at what is the same; of great and wide. No condition but that the numbers are not too many.
-/
namespace Go.Proofs.YtpgdddjjjfkneaaGreatDoor
open Go.RowKit
set_option linter.unusedVariables false

/-- Two states stand boxed in the first two blocks behind w. -/
structure B2 (w : World) (S : St) (A1 : Option Addr) (c1 : Nat) (A2 : Option Addr) (c2 : Nat) (A3 : Option Addr) (c3 : Nat) (S' : St) (D1 : Option Addr) (d1 : Nat) (D2 : Option Addr) (d2 : Nat) (D3 : Option Addr) (d3 : Nat) (W : World) : Prop where
  z : w.heap.size + 2 ≤ W.heap.size
  a0 : W.cell? ⟨w.heap.size, 0, none⟩ = some (.int .i64 S.step)
  a1 : W.cell? ⟨w.heap.size, 1, none⟩ = some (.slice A1 S.vals.length c1)
  a2 : W.cell? ⟨w.heap.size, 2, none⟩ = some (.slice A2 S.rest.length c2)
  a3 : W.cell? ⟨w.heap.size, 3, none⟩ = some (.slice A3 S.inn.length c3)
  b0 : W.cell? ⟨w.heap.size + 1, 0, none⟩ = some (.int .i64 S'.step)
  b1 : W.cell? ⟨w.heap.size + 1, 1, none⟩ = some (.slice D1 S'.vals.length d1)
  b2 : W.cell? ⟨w.heap.size + 1, 2, none⟩ = some (.slice D2 S'.rest.length d2)
  b3 : W.cell? ⟨w.heap.size + 1, 3, none⟩ = some (.slice D3 S'.inn.length d3)
  bl : Below w.heap.size w W
section
variable {w : World} {S : St} {A1 : Option Addr} {c1 : Nat} {A2 : Option Addr} {c2 : Nat} {A3 : Option Addr} {c3 : Nat} {S' : St} {D1 : Option Addr} {d1 : Nat} {D2 : Option Addr} {d2 : Nat} {D3 : Option Addr} {d3 : Nat} {W W' : World}
theorem B2.next (h : B2 w S A1 c1 A2 c2 A3 c3 S' D1 d1 D2 d2 D3 d3 W) (hb : Below W.heap.size W W') : B2 w S A1 c1 A2 c2 A3 c3 S' D1 d1 D2 d2 D3 d3 W' :=
  have k : ∀ b o, b < w.heap.size + 2 → W'.cell? ⟨b, o, none⟩ = W.cell? ⟨b, o, none⟩ := fun b o hl => hb.cell (p := ⟨b, o, none⟩) (Nat.lt_of_lt_of_le hl h.z)
  ⟨Nat.le_trans h.z hb.size, (k _ _ (by omega)).trans h.a0, (k _ _ (by omega)).trans h.a1, (k _ _ (by omega)).trans h.a2, (k _ _ (by omega)).trans h.a3, (k _ _ (by omega)).trans h.b0, (k _ _ (by omega)).trans h.b1, (k _ _ (by omega)).trans h.b2, (k _ _ (by omega)).trans h.b3,
    h.bl.trans (hb.mono (by have := h.z; omega))⟩
end
theorem B2.init (w : World) (S : St) (A1 : Option Addr) (c1 : Nat) (A2 : Option Addr) (c2 : Nat) (A3 : Option Addr) (c3 : Nat) (S' : St) (D1 : Option Addr) (d1 : Nat) (D2 : Option Addr) (d2 : Nat) (D3 : Option Addr) (d3 : Nat) :
    B2 w S A1 c1 A2 c2 A3 c3 S' D1 d1 D2 d2 D3 d3 ((w.alloc (.cells #[.int .i64 S.step, .slice A1 S.vals.length c1, .slice A2 S.rest.length c2, .slice A3 S.inn.length c3] 39)).alloc (.cells #[.int .i64 S'.step, .slice D1 S'.vals.length d1, .slice D2 S'.rest.length d2, .slice D3 S'.inn.length d3] 39)) :=
  ⟨by simp, by simp [go_sem], by simp [go_sem], by simp [go_sem], by simp [go_sem], by simp [go_sem], by simp [go_sem], by simp [go_sem], by simp [go_sem], ((Below.refl _ _).alloc (Nat.le_refl _) _).alloc (by simp) _⟩
def wideB (S : St) : Bool := decide (100 < S.vals.length) || (decide (100 < S.rest.length) || decide (300 < S.inn.length))
theorem wide_no {S : St} (h : wideB S = false) : S.vals.length ≤ 100 ∧ S.rest.length ≤ 100 ∧ S.inn.length ≤ 300 := by
  unfold wideB at h
  simp only [Bool.or_eq_false_iff, decide_eq_false_iff_not] at h
  omega
end Go.Proofs.YtpgdddjjjfkneaaGreatDoor

/-
  The contract of Begin. No condition.
-/
namespace Go.Proofs.YtpgdddjjjfkneaaGreatDoor
open Go.ChangeShapes Go.WideShapes Go.ChangeAt Go.RowKit
set_option linter.unusedVariables false

theorem made_v (m : Nat) : (madeCells #[.int .i64 0] m).toList = vc (List.replicate m 0) := by rw [toList_madeCells_one]; simp [vc]
theorem made_r (m : Nat) : (madeCells #[.bool false] m).toList = rc (List.replicate m false) := by rw [toList_madeCells_one]; simp [rc]
theorem three (w5 : World) (a b c : Obj) : (((w5.alloc a).alloc b).alloc c).drew.heap[w5.heap.size]? = some a ∧ (((w5.alloc a).alloc b).alloc c).drew.heap[w5.heap.size + 1]? = some b ∧ (((w5.alloc a).alloc b).alloc c).drew.heap[w5.heap.size + 1 + 1]? = some c ∧ Below w5.heap.size w5 (((w5.alloc a).alloc b).alloc c).drew := by
  have e1 : (w5.alloc a).heap.size = w5.heap.size + 1 := by simp
  have e2 : ((w5.alloc a).alloc b).heap.size = w5.heap.size + 1 + 1 := by simp
  refine ⟨?_, ?_, ?_, ((((Below.refl _ _).alloc (Nat.le_refl _) _).alloc (by simp) _).alloc (by simp; omega) _).drew⟩
  · show (((w5.alloc a).alloc b).alloc c).heap[w5.heap.size]? = some a
    rw [Below.heap_alloc _ _ _ (by omega), Below.heap_alloc _ _ _ (by omega)]
    exact heap_alloc_new _ _
  · show (((w5.alloc a).alloc b).alloc c).heap[w5.heap.size + 1]? = some b
    rw [Below.heap_alloc _ _ _ (by omega), ← e1]
    exact heap_alloc_new _ _
  · show (((w5.alloc a).alloc b).alloc c).heap[w5.heap.size + 1 + 1]? = some c
    rw [← e2]
    exact heap_alloc_new _ _
end Go.Proofs.YtpgdddjjjfkneaaGreatDoor

/-
  The contracts of Run and At. No condition.
-/
namespace Go.Proofs.YtpgdddjjjfkneaaGreatDoor
open Go.ChangeShapes Go.WideShapes Go.ChangeAt Go.RowKit
set_option linter.unusedVariables false

/-- What does not lie in block b. -/
def Nb (b : Nat) (A : Option Addr) : Prop := ∀ ad, A = some ad → ad.block ≠ b
theorem Fr.nb {b b' : Nat} {A : Option Addr} (h : Fr b' A) (hb : b < b') : Nb b A := fun ad e => by have := h ad e; omega
/-- .. or is nothing. -/
def Nbl (b : Nat) (A : Option Addr) (xs : List Value) : Prop := xs = [] ∨ Nb b A
theorem Lies.nbl {w : World} {B s n : Nat} {A : Option Addr} {xs : List Value} (h : Lies w B s A n xs) {b : Nat} (hb : B ≤ b) : Nbl b A xs := by
  cases xs with
  | nil => exact .inl rfl
  | cons u r =>
    refine .inr fun ad e => ?_
    obtain ⟨ad', e', hB, _⟩ := h.2 0 u rfl
    rw [e] at e'
    injection e' with e'
    subst e'
    omega
theorem Lies.setN {w : World} {B s n : Nat} {A : Option Addr} {xs : List Value} (h : Lies w B s A n xs) {b i : Nat} (hb : Nbl b A xs) (u : Value) : Lies (w.setCell ⟨b, i, none⟩ u) B s A n xs :=
  ⟨h.1, fun j v hj => by
    obtain ⟨ad, e, hB, hc⟩ := h.2 j v hj
    refine ⟨ad, e, hB, ?_⟩
    rw [← hc]
    rcases hb with rfl | hb
    · simp at hj
    · exact World.cell?_of_block (w := w) (Below.heap_setCell _ _ _ _ (by rw [block_add]; exact hb ad e))⟩
theorem StL.setN {w : World} {B : Nat} {S : St} {A1 : Option Addr} {c1 : Nat} {A2 : Option Addr} {c2 : Nat} {A3 : Option Addr} {c3 : Nat} (h : StL w B S A1 c1 A2 c2 A3 c3) {b i : Nat} (h1 : Nbl b A1 (vc S.vals)) (h2 : Nbl b A2 (rc S.rest)) (h3 : Nbl b A3 (mc S.inn)) (u : Value) :
    StL (w.setCell ⟨b, i, none⟩ u) B S A1 c1 A2 c2 A3 c3 := ⟨h.v.setN h1 u, h.r.setN h2 u, h.m.setN h3 u, h.cv, h.cr, h.cm, h.ok⟩
end Go.Proofs.YtpgdddjjjfkneaaGreatDoor

/-
  Words for the memory of the document's own Begin and Step: a state in a block whose values and rests grow. The step law of an append onto a row of the call's own. No condition.
-/
namespace Go.Proofs.YtpgdddjjjfkneaaGreatDoor
open Go.RowKit
set_option linter.unusedVariables false

theorem step_own1 {P : Program} {ops : Array Oper} {o : Oper} {a : Act} {w : World} {K : Act → World → Prop} {Q : Exit → Act → World → Prop} {E : Prop}
    (hg : o.guard = none) (d x : Operand) (t : TypeId) (hop : o.op = Op.call { callee := Callee.builtin Builtin.append, args := #[d, x], argTypes := #[t, t] })
    (base : Nat) (e : TypeId) (i : TypeInfo) (z : Value) (size bytes : Nat) (ht : P.underlying t = some (.slice e)) (hi : P.info? e = some i) (hz : i.zero = some z) (hsize : i.size = size) (hby : i.bytes = bytes) (hzs : z.cells.size = size) (hsz : 0 < size)
    (A : Option Addr) (n c : Nat) (xs : List Value) (hd : a.eval d = .slice A n c) (hown : w.ownsRow base e size (.slice A n c) n xs)
    (B : Nat) (A2 : Option Addr) (m c2 : Nat) (news : List Value) (hx : a.eval x = .slice A2 m c2) (hl : Lies w B size A2 m news) (h1 : ∀ u ∈ news, u.oneCell' = true)
    (h63 : n + m ≤ maxLen) (hbytes : (n + m) * bytes ≤ 140737488355328) (hb : base ≤ w.heap.size)
    (h : ∀ A' c' w', w'.ownsRow base e size (.slice A' (n + m) c') (n + m) (xs ++ news) → Below base w w' → w.grownBy w' (Value.slice A n c).ownBlock → K (a.put o.dst (.slice A' (n + m) c')) w') :
    if Region.wanted o (yielded ops a.tmps) = true then Oper.wp P o a w K Q else E := by
  obtain ⟨A', c', w', hr, h2, h3, h4, _⟩ := run_app (P := P) w base t o.type e i z size bytes ht hi hz hsize hby hzs hsz A n c xs hown B A2 m c2 news hl h1 h63 hbytes hb
  exact step_app hg d x t t hop _ _ hd hx hr (h A' c' w' h2 h3 h4)
theorem lies_v (w : World) (x : Int) : Lies (w.alloc (.cells #[.int .i64 x] 2)) (w.heap.size + 1) 1 (some ⟨w.heap.size, 0, none⟩) 1 (vc [x]) := lies_cells w (vc [x]) 2 1 1 rfl
theorem lies_r (w : World) (x : Bool) : Lies (w.alloc (.cells #[.bool x] 4)) (w.heap.size + 1) 1 (some ⟨w.heap.size, 0, none⟩) 1 (rc [x]) := lies_cells w (rc [x]) 4 1 1 rfl
/-- A state under way: in block bo, its values and rests in rows of the call's own. -/
structure Rp (wb : World) (bo : Nat) (st1 : Int) (V : Option Addr) (cV : Nat) (R : Option Addr) (cR : Nat) (vs : List Int) (rs : List Bool) (W : World) : Prop where
  bl : Below wb.heap.size wb W
  nb : W.heap[bo]? = some (.cells #[.int .i64 st1, .slice V vs.length cV, .slice R rs.length cR, .slice none 0 0] 39 (0, 0))
  v : W.ownsRow wb.heap.size 2 1 (.slice V vs.length cV) vs.length (vc vs)
  r : W.ownsRow wb.heap.size 4 1 (.slice R rs.length cR) rs.length (rc rs)
  hb : wb.heap.size ≤ bo
section
variable {wb : World} {bo : Nat} {st1 : Int} {V : Option Addr} {cV : Nat} {R : Option Addr} {cR : Nat} {vs : List Int} {rs : List Bool} {W W' : World}
theorem Rp.lt (h : Rp wb bo st1 V cV R cR vs rs W) : bo < W.heap.size := lt_of_block h.nb
theorem Rp.next (h : Rp wb bo st1 V cV R cR vs rs W) (hb : Below W.heap.size W W') : Rp wb bo st1 V cV R cR vs rs W' :=
  ⟨h.bl.trans (hb.mono h.bl.size), (hb.block _ h.lt).trans h.nb, own_next h.v hb, own_next h.r hb, h.hb⟩
theorem Rp.start (wb : World) (st1 : Int) : Rp wb wb.heap.size st1 none 0 none 0 [] [] (wb.alloc (.cells #[.int .i64 st1, .slice none 0 0, .slice none 0 0, .slice none 0 0] 39)) :=
  ⟨below_alloc _ _, heap_alloc_new _ _, World.ownsRow_nil _ _ _ _, World.ownsRow_nil _ _ _ _, Nat.le_refl _⟩
theorem Rp.c1 (h : Rp wb bo st1 V cV R cR vs rs W) : W.cell? ⟨bo, 1, none⟩ = some (.slice V vs.length cV) := cell_of_row W bo 1 _ 39 (0, 0) h.nb
theorem Rp.c2 (h : Rp wb bo st1 V cV R cR vs rs W) : W.cell? ⟨bo, 2, none⟩ = some (.slice R rs.length cR) := cell_of_row W bo 2 _ 39 (0, 0) h.nb
/-- The block of the state stays while a row of the call's own grows. -/
theorem Rp.blk (h : Rp wb bo st1 V cV R cR vs rs W) {b s m : Nat} {e : TypeId} {u : Value} {xs : List Value} (ho : W.ownsRow b e s u m xs) (he : (39 : TypeId) ≠ e) (hg : W.grownBy W' u.ownBlock) :
    W'.heap[bo]? = some (.cells #[.int .i64 st1, .slice V vs.length cV, .slice R rs.length cR, .slice none 0 0] 39 (0, 0)) :=
  (hg.block _ h.lt (fun e1 => own_ne ho h.nb he e1.symm)).trans h.nb
theorem Rp.putV (h : Rp wb bo st1 V cV R cR vs rs W) {A9 : Option Addr} {c9 : Nat} {x : Int} (ho : W'.ownsRow wb.heap.size 2 1 (.slice A9 (vs.length + 1) c9) (vs.length + 1) (vc vs ++ vc [x])) (hb : Below wb.heap.size W W') (hg : W.grownBy W' (Value.slice V vs.length cV).ownBlock) :
    Rp wb bo st1 A9 c9 R cR (vs ++ [x]) rs (W'.setCell ⟨bo, 1, none⟩ (.slice A9 (vs.length + 1) c9)) := by
  have hl : (vs ++ [x]).length = vs.length + 1 := by simp
  have nb := h.blk h.v (by decide) hg
  rw [← vc_app] at ho
  refine ⟨(h.bl.trans hb).setCell (p := ⟨bo, 1, none⟩) h.hb _, ?_, ?_, ?_, h.hb⟩
  · rw [hl]; exact set_heap nb _
  · rw [hl]; exact ownsRow_setCell_other ho (a := ⟨bo, 1, none⟩) (own_ne ho nb (by decide)) _
  · have h2 := own_apart h.r h.v hg (by decide)
    exact ownsRow_setCell_other h2 (a := ⟨bo, 1, none⟩) (own_ne h2 nb (by decide)) _
theorem Rp.putR (h : Rp wb bo st1 V cV R cR vs rs W) {A9 : Option Addr} {c9 : Nat} {x : Bool} (ho : W'.ownsRow wb.heap.size 4 1 (.slice A9 (rs.length + 1) c9) (rs.length + 1) (rc rs ++ rc [x])) (hb : Below wb.heap.size W W') (hg : W.grownBy W' (Value.slice R rs.length cR).ownBlock) :
    Rp wb bo st1 V cV A9 c9 vs (rs ++ [x]) (W'.setCell ⟨bo, 2, none⟩ (.slice A9 (rs.length + 1) c9)) := by
  have hl : (rs ++ [x]).length = rs.length + 1 := by simp
  have nb := h.blk h.r (by decide) hg
  rw [← rc_app] at ho
  refine ⟨(h.bl.trans hb).setCell (p := ⟨bo, 2, none⟩) h.hb _, ?_, ?_, ?_, h.hb⟩
  · rw [hl]; exact set_heap nb _
  · have h2 := own_apart h.v h.r hg (by decide)
    exact ownsRow_setCell_other h2 (a := ⟨bo, 2, none⟩) (own_ne h2 nb (by decide)) _
  · rw [hl]; exact ownsRow_setCell_other ho (a := ⟨bo, 2, none⟩) (own_ne ho nb (by decide)) _
/-- What else is the call's own stays. -/
theorem Rp.keepV (h : Rp wb bo st1 V cV R cR vs rs W) {m i : Nat} {u y : Value} {xs : List Value} (ho : W.ownsRow wb.heap.size 118 2 u m xs) (hg : W.grownBy W' (Value.slice V vs.length cV).ownBlock) : (W'.setCell ⟨bo, i, none⟩ y).ownsRow wb.heap.size 118 2 u m xs := by
  have h2 := own_apart ho h.v hg (by decide)
  exact ownsRow_setCell_other h2 (a := ⟨bo, i, none⟩) (own_ne h2 (h.blk h.v (by decide) hg) (by decide)) _
theorem Rp.keepR (h : Rp wb bo st1 V cV R cR vs rs W) {m i : Nat} {u y : Value} {xs : List Value} (ho : W.ownsRow wb.heap.size 118 2 u m xs) (hg : W.grownBy W' (Value.slice R rs.length cR).ownBlock) : (W'.setCell ⟨bo, i, none⟩ y).ownsRow wb.heap.size 118 2 u m xs := by
  have h2 := own_apart ho h.r hg (by decide)
  exact ownsRow_setCell_other h2 (a := ⟨bo, i, none⟩) (own_ne h2 (h.blk h.r (by decide) hg) (by decide)) _
theorem Rp.grown (h : Rp wb bo st1 V cV R cR vs rs W) {m : Nat} {u : Value} {xs : List Value} (ho : W.ownsRow wb.heap.size 118 2 u m xs) (hg : W.grownBy W' u.ownBlock) : Rp wb bo st1 V cV R cR vs rs W' :=
  ⟨h.bl.grown hg h.bl.size (fun k hk => (ho.lt k hk).1), h.blk ho (by decide) hg, own_apart h.v ho hg (by decide), own_apart h.r ho hg (by decide), h.hb⟩
end

end Go.Proofs.YtpgdddjjjfkneaaGreatDoor

/-
  The contract of the document's Step. No condition but that the numbers are of 62 bits and not too many.
-/
namespace Go.Proofs.YtpgdddjjjfkneaaGreatDoor
open Go.ChangeShapes Go.WideShapes Go.ChangeAt Go.RowKit
set_option linter.unusedVariables false

/-- A superstep of the document under way: the new state in block bo, the turn in block bt, what was sent, what the turn sends. -/
structure Rq (wb : World) (bo : Nat) (st1 : Int) (V : Option Addr) (cV : Nat) (R : Option Addr) (cR : Nat) (vs : List Int) (rs : List Bool) (bt : Nat) (tc : Array Value) (AS : Option Addr) (cS : Nat) (xs : List Ms) (AT : Option Addr) (cT : Nat) (ts : List Ms) (W : World) : Prop where
  p : Rp wb bo st1 V cV R cR vs rs W
  t : W.heap[bt]? = some (.cells tc 75 (0, 0))
  so : W.ownsRow wb.heap.size 118 2 (.slice AS xs.length cS) xs.length (mc xs)
  st : W.ownsRow wb.heap.size 118 2 (.slice AT ts.length cT) ts.length (mc ts)
section
variable {wb : World} {bo : Nat} {st1 : Int} {V : Option Addr} {cV : Nat} {R : Option Addr} {cR : Nat} {vs : List Int} {rs : List Bool} {bt : Nat} {tc : Array Value} {AS : Option Addr} {cS : Nat} {xs : List Ms} {AT : Option Addr} {cT : Nat} {ts : List Ms} {W W' : World}
theorem Rq.next (h : Rq wb bo st1 V cV R cR vs rs bt tc AS cS xs AT cT ts W) (hb : Below W.heap.size W W') : Rq wb bo st1 V cV R cR vs rs bt tc AS cS xs AT cT ts W' :=
  ⟨h.p.next hb, (hb.block _ (lt_of_block h.t)).trans h.t, own_next h.so hb, own_next h.st hb⟩
theorem Rq.ne (h : Rq wb bo st1 V cV R cR vs rs bt tc AS cS xs AT cT ts W) : bt ≠ bo := by
  intro e
  have h1 := h.t
  rw [e, h.p.nb] at h1
  injection h1 with h1
  injection h1 with _ h1
  exact absurd h1 (by decide)
theorem Rq.putV (h : Rq wb bo st1 V cV R cR vs rs bt tc AS cS xs AT cT ts W) {A9 : Option Addr} {c9 : Nat} {x : Int} (ho : W'.ownsRow wb.heap.size 2 1 (.slice A9 (vs.length + 1) c9) (vs.length + 1) (vc vs ++ vc [x])) (hb : Below wb.heap.size W W') (hg : W.grownBy W' (Value.slice V vs.length cV).ownBlock) :
    Rq wb bo st1 A9 c9 R cR (vs ++ [x]) rs bt tc AS cS xs AT cT ts (W'.setCell ⟨bo, 1, none⟩ (.slice A9 (vs.length + 1) c9)) ∧ W'.cell? ⟨bo, 1, none⟩ = some (.slice V vs.length cV) ∧ W'.frozen? ⟨bo, 1, none⟩ = false := by
  have hn := h.p.blk h.p.v (by decide) hg
  refine ⟨⟨h.p.putV ho hb hg, ?_, h.p.keepV h.so hg, h.p.keepV h.st hg⟩, cell_of_row W' bo 1 _ 39 (0, 0) hn, unfrozen hn 1⟩
  rw [Below.heap_setCell _ _ _ _ h.ne]
  exact (hg.block _ (lt_of_block h.t) (fun e => own_ne h.p.v h.t (by decide) e.symm)).trans h.t
theorem Rq.putR (h : Rq wb bo st1 V cV R cR vs rs bt tc AS cS xs AT cT ts W) {A9 : Option Addr} {c9 : Nat} {x : Bool} (ho : W'.ownsRow wb.heap.size 4 1 (.slice A9 (rs.length + 1) c9) (rs.length + 1) (rc rs ++ rc [x])) (hb : Below wb.heap.size W W') (hg : W.grownBy W' (Value.slice R rs.length cR).ownBlock) :
    Rq wb bo st1 V cV A9 c9 vs (rs ++ [x]) bt tc AS cS xs AT cT ts (W'.setCell ⟨bo, 2, none⟩ (.slice A9 (rs.length + 1) c9)) ∧ W'.cell? ⟨bo, 2, none⟩ = some (.slice R rs.length cR) ∧ W'.frozen? ⟨bo, 2, none⟩ = false := by
  have hn := h.p.blk h.p.r (by decide) hg
  refine ⟨⟨h.p.putR ho hb hg, ?_, h.p.keepR h.so hg, h.p.keepR h.st hg⟩, cell_of_row W' bo 2 _ 39 (0, 0) hn, unfrozen hn 2⟩
  rw [Below.heap_setCell _ _ _ _ h.ne]
  exact (hg.block _ (lt_of_block h.t) (fun e => own_ne h.p.r h.t (by decide) e.symm)).trans h.t
end

end Go.Proofs.YtpgdddjjjfkneaaGreatDoor

/-
  Words for a list of states in memory, which grows. No condition.
-/
namespace Go.Proofs.YtpgdddjjjfkneaaGreatDoor
open Go.RowKit
set_option linter.unusedVariables false

/-- A state, and where its lists lie. -/
structure Se where
  S : St
  A1 : Option Addr
  c1 : Nat
  A2 : Option Addr
  c2 : Nat
  A3 : Option Addr
  c3 : Nat
def Se.cells (e : Se) : List Value := [.int .i64 e.S.step, .slice e.A1 e.S.vals.length e.c1, .slice e.A2 e.S.rest.length e.c2, .slice e.A3 e.S.inn.length e.c3]
def sc (ls : List Se) : List Value := ls.flatMap Se.cells
theorem sc_app (a b : List Se) : sc (a ++ b) = sc a ++ sc b := by unfold sc; simp
theorem Lies.grown {w w' : World} {s n g : Nat} {A : Option Addr} {xs : List Value} (h : Lies w w.heap.size s A n xs) (hg : w.grownBy w' (some g)) (hb : Nbl g A xs) : Lies w' w'.heap.size s A n xs :=
  ⟨h.1, fun j v hj => by
    obtain ⟨ad, e, hB, hc⟩ := h.2 j v hj
    refine ⟨ad, e, Nat.lt_of_lt_of_le hB hg.size, ?_⟩
    rw [← hc]
    rcases hb with rfl | hb
    · simp at hj
    · exact World.cell?_of_block (w := w) (hg.block _ (by rw [block_add]; exact hB) (by rw [block_add]; intro e2; exact hb ad e (by injection e2)))⟩
theorem StL.grown {w w' : World} {S : St} {A1 : Option Addr} {c1 : Nat} {A2 : Option Addr} {c2 : Nat} {A3 : Option Addr} {c3 : Nat} {g : Nat} (h : StL w w.heap.size S A1 c1 A2 c2 A3 c3) (hg : w.grownBy w' (some g)) (h1 : Nbl g A1 (vc S.vals)) (h2 : Nbl g A2 (rc S.rest)) (h3 : Nbl g A3 (mc S.inn)) :
    StL w' w'.heap.size S A1 c1 A2 c2 A3 c3 := ⟨h.v.grown hg h1, h.r.grown hg h2, h.m.grown hg h3, h.cv, h.cr, h.cm, h.ok⟩
/-- A state of the list: it lies in memory of the call's own, not in the list's block. -/
structure Sei (b g : Nat) (e : Se) (W : World) : Prop where
  st : StL W W.heap.size e.S e.A1 e.c1 e.A2 e.c2 e.A3 e.c3
  f1 : Fr b e.A1
  f2 : Fr b e.A2
  f3 : Fr b e.A3
  n1 : Nbl g e.A1 (vc e.S.vals)
  n2 : Nbl g e.A2 (rc e.S.rest)
  n3 : Nbl g e.A3 (mc e.S.inn)
structure Sls (wb : World) (g c : Nat) (ls : List Se) (W : World) : Prop where
  bl : Below wb.heap.size wb W
  own : W.ownsRow wb.heap.size 39 4 (.slice (some ⟨g, 0, none⟩) ls.length c) ls.length (sc ls)
  el : ∀ e ∈ ls, Sei wb.heap.size g e W
section
variable {wb : World} {g c : Nat} {ls : List Se} {W W' : World}
theorem Sls.next (h : Sls wb g c ls W) (hb : Below W.heap.size W W') : Sls wb g c ls W' :=
  ⟨h.bl.trans (hb.mono h.bl.size), own_next h.own hb, fun e he => by
    have := h.el e he
    exact ⟨this.st.next hb, this.f1, this.f2, this.f3, this.n1, this.n2, this.n3⟩⟩
theorem Sls.app (h : Sls wb g c ls W) {e : Se} (he : Sei wb.heap.size g e W) {A' : Option Addr} {c' : Nat} (ho : W'.ownsRow wb.heap.size 39 4 (.slice A' (ls.length + 1) c') (ls.length + 1) (sc ls ++ sc [e])) (hb : Below wb.heap.size W W') (hg : W.grownBy W' (some g)) (hw : (Value.slice A' (ls.length + 1) c').ownBlock = some g ∨ (Value.slice A' (ls.length + 1) c').ownBlock = some W.heap.size) :
    ∃ g', A' = some ⟨g', 0, none⟩ ∧ Sls wb g' c' (ls ++ [e]) W' := by
  obtain ⟨g', hA, hbg, hlt⟩ : ∃ g', A' = some ⟨g', 0, none⟩ ∧ wb.heap.size ≤ g' ∧ g' < W'.heap.size := by
    rcases ho.2 with ⟨hv, h0⟩ | ⟨g2, cap, cur, hv, hb2, hg2, _⟩
    · omega
    · injection hv with e1 e2 e3
      exact ⟨g2, e1, hb2, (Array.getElem?_eq_some_iff.1 hg2).1⟩
  subst hA
  refine ⟨g', rfl, h.bl.trans hb, ?_, ?_⟩
  · rw [sc_app, List.length_append]; exact ho
  · intro x hx
    have hx' : Sei wb.heap.size g x W := by
      rcases List.mem_append.1 hx with hx | hx
      · exact h.el x hx
      · rw [List.mem_singleton] at hx; subst hx; exact he
    have hgg : g' = g ∨ W.heap.size ≤ g' := by
      rcases hw with hw | hw
      · left; simpa [Value.ownBlock] using hw
      · right; have : g' = W.heap.size := by simpa [Value.ownBlock] using hw
        omega
    refine ⟨hx'.st.grown hg hx'.n1 hx'.n2 hx'.n3, hx'.f1, hx'.f2, hx'.f3, ?_, ?_, ?_⟩
    · rcases hgg with rfl | hgg
      · exact hx'.n1
      · exact hx'.st.v.nbl hgg
    · rcases hgg with rfl | hgg
      · exact hx'.n2
      · exact hx'.st.r.nbl hgg
    · rcases hgg with rfl | hgg
      · exact hx'.n3
      · exact hx'.st.m.nbl hgg
/-- A block ahead of all is written. -/
theorem Sls.set (h : Sls wb g c ls W) {b i : Nat} (hb : b < wb.heap.size) (u : Value) : (W.setCell ⟨b, i, none⟩ u).ownsRow wb.heap.size 39 4 (.slice (some ⟨g, 0, none⟩) ls.length c) ls.length (sc ls) ∧ ∀ e ∈ ls, Sei wb.heap.size g e (W.setCell ⟨b, i, none⟩ u) := by
  refine ⟨ownsRow_setCell_below h.own (a := ⟨b, i, none⟩) hb u, fun e he => ?_⟩
  have := h.el e he
  exact ⟨(this.st.set this.f1 this.f2 this.f3 hb u).size, this.f1, this.f2, this.f3, this.n1, this.n2, this.n3⟩
end

end Go.Proofs.YtpgdddjjjfkneaaGreatDoor

/-
  The document's examples ('knows'), and 'great'. No condition.
-/
namespace Go.Proofs.YtpgdddjjjfkneaaGreatDoor
open Go.ChangeShapes Go.WideShapes Go.ChangeAt Go.RowKit
set_option linter.unusedVariables false

/-- The examples' graph and job stand in memory. -/
structure Kn (w W : World) : Prop where
  z : w.heap.size + 3 ≤ W.heap.size
  g0 : W.cell? ⟨w.heap.size + 1, 0, none⟩ = some (.int .i64 2)
  g1 : W.cell? ⟨w.heap.size + 1, 1, none⟩ = some (.slice (some ⟨w.heap.size, 0, none⟩) 2 2)
  j0 : W.cell? ⟨w.heap.size + 1 + 1, 0, none⟩ = some (.int .i64 1)
  j1 : W.cell? ⟨w.heap.size + 1 + 1, 1, none⟩ = some (.int .i64 0)
  j2 : W.cell? ⟨w.heap.size + 1 + 1, 2, none⟩ = some (.int .i64 9)
  j3 : W.cell? ⟨w.heap.size + 1 + 1, 3, none⟩ = some (.int .i64 1)
  L : Lies W W.heap.size 3 (some ⟨w.heap.size, 0, none⟩) 2 (ec twoE)
  bl : Below w.heap.size w W
theorem Kn.next {w W W' : World} (h : Kn w W) (hb : Below W.heap.size W W') : Kn w W' :=
  have k : ∀ b o, b < w.heap.size + 3 → W'.cell? ⟨b, o, none⟩ = W.cell? ⟨b, o, none⟩ := fun b o hl => hb.cell (p := ⟨b, o, none⟩) (Nat.lt_of_lt_of_le hl h.z)
  ⟨Nat.le_trans h.z hb.size, (k _ _ (by omega)).trans h.g0, (k _ _ (by omega)).trans h.g1, (k _ _ (by omega)).trans h.j0, (k _ _ (by omega)).trans h.j1, (k _ _ (by omega)).trans h.j2, (k _ _ (by omega)).trans h.j3, h.L.next hb, h.bl.trans (hb.mono (by have := h.z; omega))⟩
theorem Kn.init (w : World) : Kn w (((w.alloc (.cells #[.int .i64 0, .int .i64 1, .int .i64 7, .int .i64 1, .int .i64 0, .int .i64 5] 80)).alloc (.cells #[.int .i64 2, .slice (some ⟨w.heap.size, 0, none⟩) 2 2] 27)).alloc (.cells #[.int .i64 1, .int .i64 0, .int .i64 9, .int .i64 1] 23)) := by
  have hl := lies_cells w (ec twoE) 80 2 3 rfl
  refine ⟨by simp, by simp [go_sem], by simp [go_sem], by simp [go_sem], by simp [go_sem], by simp [go_sem], by simp [go_sem], ?_, (((Below.refl _ _).alloc (Nat.le_refl _) _).alloc (by simp) _).alloc (by simp; omega) _⟩
  exact ((hl.more (B' := (w.alloc (.cells (ec twoE).toArray 80)).heap.size) (by simp)).next (below_alloc _ _)).next (below_alloc _ _)
end Go.Proofs.YtpgdddjjjfkneaaGreatDoor

/-
  A state that came in, as it reads in memory: its lists may be of any length. No condition.
-/
namespace Go.Proofs.YtpgdddjjjfkneaaGreatDoor
open Go.RowKit
set_option linter.unusedVariables false
structure StI (w : World) (S : St) (A1 : Option Addr) (c1 : Nat) (A2 : Option Addr) (c2 : Nat) (A3 : Option Addr) (c3 : Nat) : Prop where
  st : bd S.step
  v : Lies w w.heap.size 1 A1 S.vals.length (vc S.vals)
  r : Lies w w.heap.size 1 A2 S.rest.length (rc S.rest)
  m : Lies w w.heap.size 2 A3 S.inn.length (mc S.inn)
  cv : S.vals.length ≤ c1
  cr : S.rest.length ≤ c2
  cm : S.inn.length ≤ c3
  bv : ∀ x ∈ S.vals, bd x
  bm : ∀ e ∈ S.inn, bd e.2
theorem StI.ok {w : World} {S : St} {A1 : Option Addr} {c1 : Nat} {A2 : Option Addr} {c2 : Nat} {A3 : Option Addr} {c3 : Nat} (h : StI w S A1 c1 A2 c2 A3 c3) (hw : wideB S = false) : StL w w.heap.size S A1 c1 A2 c2 A3 c3 := by
  obtain ⟨h1, h2, h3⟩ := wide_no hw
  exact ⟨h.v, h.r, h.m, h.cv, h.cr, h.cm, ⟨h.st, h.bv, h.bm, by omega, by omega, by omega⟩⟩
end Go.Proofs.YtpgdddjjjfkneaaGreatDoor


