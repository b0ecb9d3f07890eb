import Derived.Test.YtpgdddjjjfkneaaGreatDoorPtB
import Derived.Test.YtpgdddjjjfkneaaGreatDoorPtO
import Derived.BigQuiet
import Derived.Deep.RegionHeld3
import Derived.Deep.DeepCutAuto
/-
  Lists of messages that grow side by side, in an array of the call's own (work's outbox); a partition under way whose lists stay as long as they are; the contracts of box.Join, work.own and work.Quiet. No condition but that the numbers are not too many.
-/
namespace Go.Proofs.YtpgdddjjjfkneaaGreatDoor
open Go.ChangeShapes Go.WideShapes Go.ChangeAt Go.RowKit
set_option linter.unusedVariables false

def Le.v (e : Le) : Value := .slice e.A e.ms.length e.c
def noLe : Le := ⟨none, 0, []⟩
theorem lcl_v (ls : List Le) (k : Nat) (h : k < ls.length) : (lcl ls)[k]? = some ls[k].v := lcl_at ls k h
/-- Rows of messages of the call's own, apart from one another. -/
def Rows8 (b : Nat) (L : List Le) (W : World) : Prop :=
  (∀ i (h : i < L.length), W.ownsRow b 118 2 L[i].v L[i].ms.length (mc L[i].ms)) ∧ ∀ i j (hi : i < L.length) (hj : j < L.length), i ≠ j → ∀ g, L[i].v.ownBlock = some g → L[j].v.ownBlock ≠ some g
theorem Rows8.put {b : Nat} {L : List Le} {W W1 : World} (h : Rows8 b L W) (i : Nat) (hi : i < L.length) (e : Le) (ho : W1.ownsRow b 118 2 e.v e.ms.length (mc e.ms)) (hg : W.grownBy W1 L[i].v.ownBlock) (hf : e.v.ownBlock = L[i].v.ownBlock ∨ e.v.ownBlock = some W.heap.size) : Rows8 b (L.set i e) W1 := by
  refine ⟨fun j hj => ?_, fun a c ha hc hne g hgb => ?_⟩
  · rw [List.length_set] at hj
    by_cases hij : i = j
    · subst hij; rw [List.getElem_set_self]; exact ho
    · rw [List.getElem_set_ne hij]
      refine (h.1 j hj).kept hg ?_
      cases hv : L[j].v.ownBlock with
      | none => exact .inl rfl
      | some g =>
        refine .inr fun e1 => ?_
        exact h.2 j i hj hi (fun e2 => hij e2.symm) g hv e1.symm
  · rw [List.length_set] at ha hc
    have hlt : ∀ k (hk : k < L.length), L[k].v.ownBlock ≠ some W.heap.size := fun k hk e1 => by have := ((h.1 k hk).lt _ e1).2; omega
    by_cases hia : i = a
    · subst hia
      rw [List.getElem_set_self] at hgb
      rw [List.getElem_set_ne hne]
      rcases hf with hf | hf
      · exact h.2 i c hi hc hne g (hf.symm.trans hgb)
      · intro e1
        have : g = W.heap.size := by rw [hf] at hgb; injection hgb with e2; exact e2.symm
        subst this
        exact hlt c hc e1
    · rw [List.getElem_set_ne hia] at hgb
      by_cases hic : i = c
      · subst hic
        rw [List.getElem_set_self]
        rcases hf with hf | hf
        · rw [hf]; exact h.2 a i ha hi hne g hgb
        · rw [hf]; intro e1
          injection e1 with e1
          subst e1
          exact hlt a ha hgb
      · rw [List.getElem_set_ne hic]; exact h.2 a c ha hc hne g hgb
theorem Rows8.next {b : Nat} {L : List Le} {W W' : World} (h : Rows8 b L W) (hb : Below W.heap.size W W') : Rows8 b L W' := ⟨fun i hi => own_next (h.1 i hi) hb, h.2⟩
theorem Rows8.set {b : Nat} {L : List Le} {W : World} (h : Rows8 b L W) {g k : Nat} {u : Value} {cur : Array Value} {t : TypeId} {fr : Nat × Nat} (hg : W.heap[g]? = some (.cells cur t fr)) (h1 : t ≠ 118) : Rows8 b L (W.setCell ⟨g, k, none⟩ u) :=
  ⟨fun i hi => ownsRow_setCell_other (h.1 i hi) (a := ⟨g, k, none⟩) (own_ne (h.1 i hi) hg h1) _, h.2⟩
/-- One row more, made by a call. -/
theorem Rows8.add {b : Nat} {L : List Le} {W W' : World} (h : Rows8 b L W) (hbb : b ≤ W.heap.size) (hb : Below W.heap.size W W') (t : Le) (ho : W'.ownsRow W.heap.size 118 2 t.v t.ms.length (mc t.ms)) : Rows8 b (L ++ [t]) W' := by
  have h' := h.next hb
  refine ⟨fun i hi => ?_, fun i j hi hj hne g hg => ?_⟩
  · rw [List.length_append, List.length_singleton] at hi
    by_cases hl : i < L.length
    · simp only [List.getElem_append_left hl]; exact h'.1 i hl
    · obtain rfl : i = L.length := by omega
      simp only [List.getElem_concat_length]; exact ho.lower hbb
  · rw [List.length_append, List.length_singleton] at hi hj
    by_cases hl : i < L.length
    · simp only [List.getElem_append_left hl] at hg
      by_cases hl2 : j < L.length
      · simp only [List.getElem_append_left hl2]; exact h'.2 i j hl hl2 hne g hg
      · obtain rfl : j = L.length := by omega
        simp only [List.getElem_concat_length]
        intro e1
        have := (ho.lt g e1).1
        have := ((h.1 i hl).lt g hg).2
        omega
    · obtain rfl : i = L.length := by omega
      simp only [List.getElem_concat_length] at hg
      have hl2 : j < L.length := by omega
      simp only [List.getElem_append_left hl2]
      intro e1
      have := (ho.lt g hg).1
      have := ((h.1 j hl2).lt g e1).2
      omega
theorem Rows8.less {b : Nat} {L T : List Le} {W : World} (h : Rows8 b (L ++ T) W) : Rows8 b L W := by
  refine ⟨fun i hi => ?_, fun i j hi hj hne g hg => ?_⟩
  · have := h.1 i (by rw [List.length_append]; omega)
    simp only [List.getElem_append_left hi] at this; exact this
  · have := h.2 i j (by rw [List.length_append]; omega) (by rw [List.length_append]; omega) hne g
    simp only [List.getElem_append_left hi, List.getElem_append_left hj] at this
    exact this hg
/-- The lists ls stand in the array of block bs; ts are rows beside them. -/
structure Ob (wb : World) (bs : Nat) (ls ts : List Le) (W : World) : Prop where
  bl : Below wb.heap.size wb W
  nb : W.heap[bs]? = some (.cells (lcl ls).toArray 104 (0, 0))
  rw8 : Rows8 wb.heap.size (ls ++ ts) W
  hb : wb.heap.size ≤ bs
section
variable {wb : World} {bs : Nat} {ls ts : List Le} {W W' : World}
theorem Ob.lt (h : Ob wb bs ls ts W) : bs < W.heap.size := lt_of_block h.nb
theorem Ob.next (h : Ob wb bs ls ts W) (hb : Below W.heap.size W W') : Ob wb bs ls ts W' :=
  ⟨h.bl.trans (hb.mono h.bl.size), (hb.block _ h.lt).trans h.nb, h.rw8.next hb, h.hb⟩
theorem Ob.start (hb : Below wb.heap.size wb W) : Ob wb W.heap.size (List.replicate 6 noLe) [] (W.alloc (.cells #[.slice none 0 0, .slice none 0 0, .slice none 0 0, .slice none 0 0, .slice none 0 0, .slice none 0 0] 104)) := by
  have hx : ∀ i (h : i < (List.replicate 6 noLe ++ []).length), (List.replicate 6 noLe ++ [])[i] = noLe := fun i h => by simp only [List.append_nil, List.getElem_replicate]
  refine ⟨hb.alloc hb.size _, heap_alloc_new _ _, ⟨fun i hi => ?_, fun i j hi hj hne g hg => ?_⟩, hb.size⟩
  · rw [hx]; exact World.ownsRow_nil _ _ _ _
  · rw [hx] at hg; cases hg
theorem Ob.set (h : Ob wb bs ls ts W) {g k : Nat} {u : Value} {cur : Array Value} {t : TypeId} {fr : Nat × Nat} (hg : W.heap[g]? = some (.cells cur t fr)) (h1 : t ≠ 118) (h2 : t ≠ 104) (hb : wb.heap.size ≤ g) : Ob wb bs ls ts (W.setCell ⟨g, k, none⟩ u) := by
  refine ⟨h.bl.setCell (p := ⟨g, k, none⟩) hb _, ?_, h.rw8.set hg h1, h.hb⟩
  rw [Below.heap_setCell _ _ _ _ (fun e => ?_)]
  · exact h.nb
  · have e : bs = g := e
    subst e
    have := h.nb
    rw [hg] at this
    injection this with this
    injection this with _ this
    exact h2 this
theorem Ob.cell (h : Ob wb bs ls ts W) (i : Nat) (hi : i < ls.length) : W.cell? ⟨bs, i, none⟩ = some ls[i].v := by
  refine (cell_of_row W bs i _ 104 (0, 0) h.nb).trans ?_
  rw [List.getElem?_toArray]
  exact lcl_v ls i hi
theorem Ob.row (h : Ob wb bs ls ts W) (i : Nat) (hi : i < ls.length) : W.ownsRow wb.heap.size 118 2 ls[i].v ls[i].ms.length (mc ls[i].ms) := h.rw8.less.1 i hi
theorem Ob.add (h : Ob wb bs ls [] W) (hb : Below W.heap.size W W') (t : Le) (ho : W'.ownsRow W.heap.size 118 2 t.v t.ms.length (mc t.ms)) : Ob wb bs ls [t] W' := by
  have h' := h.next hb
  refine ⟨h'.bl, h'.nb, ?_, h.hb⟩
  have hr := h.rw8
  rw [List.append_nil] at hr
  exact hr.add h.bl.size hb t ho
theorem Ob.less (h : Ob wb bs ls ts W) : Ob wb bs ls [] W := ⟨h.bl, h.nb, by rw [List.append_nil]; exact h.rw8.less, h.hb⟩
theorem Ob.last {t : Le} (h : Ob wb bs ls [t] W) : W.ownsRow wb.heap.size 118 2 t.v t.ms.length (mc t.ms) := by
  have := h.rw8.1 ls.length (by simp)
  simpa using this
/-- The array's block stays while a row of messages grows. -/
theorem Ob.blk (h : Ob wb bs ls ts W) {b n : Nat} {v : Value} {xs : List Value} (ho : W.ownsRow b 118 2 v n xs) (hg : W.grownBy W' v.ownBlock) : W'.heap[bs]? = some (.cells (lcl ls).toArray 104 (0, 0)) :=
  (hg.block _ h.lt (fun e1 => own_ne ho h.nb (by decide) e1.symm)).trans h.nb
/-- A row of the array has grown, and is put back. -/
theorem Ob.put (h : Ob wb bs ls ts W) (i : Nat) (hi : i < ls.length) {A : Option Addr} {c k : Nat} {m : Ms} (hk : k = ls[i].ms.length + 1) (ho : W'.ownsRow wb.heap.size 118 2 (.slice A k c) k (mc ls[i].ms ++ mc [m])) (hb : Below wb.heap.size W W') (hg : W.grownBy W' ls[i].v.ownBlock)
    (hf : (Value.slice A k c).ownBlock = ls[i].v.ownBlock ∨ (Value.slice A k c).ownBlock = some W.heap.size) :
    Ob wb bs (ls.set i ⟨A, c, ls[i].ms ++ [m]⟩) ts (W'.setCell ⟨bs, i, none⟩ (.slice A k c)) ∧ W'.cell? ⟨bs, i, none⟩ = some ls[i].v ∧ W'.frozen? ⟨bs, i, none⟩ = false := by
  have hl : (ls[i].ms ++ [m]).length = k := by rw [hk, List.length_append]; rfl
  have nb := h.blk (h.row i hi) hg
  have hv : (⟨A, c, ls[i].ms ++ [m]⟩ : Le).v = .slice A k c := by unfold Le.v; dsimp only; rw [hl]
  have hgi : (ls ++ ts)[i]'(by rw [List.length_append]; omega) = ls[i] := List.getElem_append_left hi
  have hr := h.rw8.put (W1 := W') i (by rw [List.length_append]; omega) ⟨A, c, ls[i].ms ++ [m]⟩ (by rw [hv]; dsimp only; rw [hl, mc_append]; exact ho) (by rw [hgi]; exact hg) (by rw [hgi, hv]; exact hf)
  refine ⟨⟨(h.bl.trans hb).setCell (p := ⟨bs, i, none⟩) h.hb _, ?_, ?_, h.hb⟩, ?_, unfrozen nb i⟩
  · rw [set_heap nb]
    congr 2
    rw [List.setIfInBounds_toArray]
    congr 1
    unfold lcl
    rw [List.map_set]
    congr 1
    exact hv.symm
  · rw [← List.set_append_left _ _ hi]
    exact hr.set nb (by decide)
  · refine (cell_of_row W' bs i _ 104 (0, 0) nb).trans ?_
    rw [List.getElem?_toArray]
    exact lcl_v ls i hi
end
/-- The lists hold the messages of l by their homes. -/
def Bk (a : Nat) (l : List Ms) (ls : List Le) : Prop := ls.length = 6 ∧ ∀ h (hh : h < ls.length), ls[h].ms = l.filter (toHome a h)
theorem Bk.nil (a : Nat) : Bk a [] (List.replicate 6 noLe) := ⟨rfl, fun h hh => by rw [List.getElem_replicate]; rfl⟩
theorem Bk.put {a : Nat} {l : List Ms} {ls : List Le} (h : Bk a l ls) {i : Nat} (hi : i < ls.length) {m : Ms} (h0 : 0 ≤ m.1) (hm : m.1.toNat % a = i) (A : Option Addr) (c : Nat) : Bk a (l ++ [m]) (ls.set i ⟨A, c, ls[i].ms ++ [m]⟩) := by
  refine ⟨by rw [List.length_set]; exact h.1, fun j hj => ?_⟩
  rw [List.length_set] at hj
  rw [List.filter_append]
  by_cases hij : i = j
  · subst hij
    rw [List.getElem_set_self]
    dsimp only
    rw [h.2 i hi, List.filter_cons_of_pos (by unfold toHome; simp [h0, hm])]; rfl
  · rw [List.getElem_set_ne hij, h.2 j hj, List.filter_cons_of_neg (by unfold toHome; simp [hm, hij])]; simp
theorem Bk.len {a : Nat} {l : List Ms} {ls : List Le} (h : Bk a l ls) (i : Nat) (hi : i < ls.length) : ls[i].ms.length ≤ l.length := by rw [h.2 i hi]; exact List.length_filter_le _ _
/-- A partition under way whose values and rests stay as many as they are: in block bn. -/
structure Sq (wb : World) (bn : Nat) (P st : Int) (V : Option Addr) (cV : Nat) (R : Option Addr) (cR n : Nat) (vs : List Int) (rs : List Bool) (W : World) : Prop where
  bl : Below wb.heap.size wb W
  nb : W.heap[bn]? = some (.cells #[.int .i64 P, .int .i64 st, .slice V n cV, .slice R n cR, .slice none 0 0] 64 (0, 0))
  v : W.ownsRow wb.heap.size 2 1 (.slice V n cV) n (vc vs)
  r : W.ownsRow wb.heap.size 4 1 (.slice R n cR) n (rc rs)
  hbn : wb.heap.size ≤ bn
section
variable {wb : World} {bn : Nat} {P st : Int} {V : Option Addr} {cV : Nat} {R : Option Addr} {cR n : Nat} {vs : List Int} {rs : List Bool} {W W' : World} {gV gR : Nat}
theorem Sq.lt (h : Sq wb bn P st V cV R cR n vs rs W) : bn < W.heap.size := lt_of_block h.nb
theorem Sq.next (h : Sq wb bn P st V cV R cR n vs rs W) (hb : Below W.heap.size W W') : Sq wb bn P st V cV R cR n vs rs W' :=
  ⟨h.bl.trans (hb.mono h.bl.size), (hb.block _ h.lt).trans h.nb, own_next h.v hb, own_next h.r hb, h.hbn⟩
theorem Sq.blocks (h : Sq wb bn P st (some ⟨gV, 0, none⟩) cV (some ⟨gR, 0, none⟩) cR n vs rs W) : (∃ cur, W.heap[gV]? = some (.cells cur 2)) ∧ ∃ cur, W.heap[gR]? = some (.cells cur 4) := by
  constructor
  · rcases h.v.2 with ⟨hv, _⟩ | ⟨g, cap, cur, hv, _, hh, _⟩
    · injection hv with e1; cases e1
    · injection hv with e1; injection e1 with e1; injection e1 with e1; subst e1; exact ⟨cur, hh⟩
  · rcases h.r.2 with ⟨hv, _⟩ | ⟨g, cap, cur, hv, _, hh, _⟩
    · injection hv with e1; cases e1
    · injection hv with e1; injection e1 with e1; injection e1 with e1; subst e1; exact ⟨cur, hh⟩
theorem Sq.gr (h : Sq wb bn P st (some ⟨gV, 0, none⟩) cV (some ⟨gR, 0, none⟩) cR n vs rs W) : gV ≠ gR ∧ gV ≠ bn ∧ gR ≠ bn ∧ wb.heap.size ≤ gV ∧ wb.heap.size ≤ gR := by
  have h1 := own_ne h.v h.nb (by decide)
  have h2 := own_ne h.r h.nb (by decide)
  have h3 := (h.v.lt gV rfl)
  have h4 := (h.r.lt gR rfl)
  obtain ⟨⟨cu, hu⟩, _⟩ := h.blocks
  refine ⟨fun e => ?_, fun e => h1 (by rw [e]; rfl), fun e => h2 (by rw [e]; rfl), h3.1, h4.1⟩
  subst e
  exact own_ne h.r hu (by decide) rfl
theorem Sq.grown {m : Nat} {v : Value} {xs : List Value} (h : Sq wb bn P st V cV R cR n vs rs W) (ho : W.ownsRow wb.heap.size 118 2 v m xs) (hg : W.grownBy W' v.ownBlock) : Sq wb bn P st V cV R cR n vs rs W' :=
  ⟨h.bl.grown hg (h.bl.size) (fun k hk => (ho.lt k hk).1), (hg.block _ h.lt (fun e => own_ne ho h.nb (by decide) e.symm)).trans h.nb, own_apart h.v ho hg (by decide), own_apart h.r ho hg (by decide), h.hbn⟩
/-- A cell of the array is written. -/
theorem Sq.arr (h : Sq wb bn P st V cV R cR n vs rs W) {bs k : Nat} {cur : Array Value} {fr : Nat × Nat} {u : Value} (hg : W.heap[bs]? = some (.cells cur 104 fr)) (hb : wb.heap.size ≤ bs) : Sq wb bn P st V cV R cR n vs rs (W.setCell ⟨bs, k, none⟩ u) := by
  refine ⟨h.bl.setCell (p := ⟨bs, k, none⟩) hb _, ?_, ownsRow_setCell_other h.v (a := ⟨bs, k, none⟩) (own_ne h.v hg (by decide)) _, ownsRow_setCell_other h.r (a := ⟨bs, k, none⟩) (own_ne h.r hg (by decide)) _, h.hbn⟩
  rw [Below.heap_setCell _ _ _ _ (fun e => ?_)]
  · exact h.nb
  · have e : bn = bs := e
    subst e
    have := h.nb
    rw [hg] at this
    injection this with this
    injection this with _ this
    exact absurd this (by decide)
theorem Sq.set (h : Sq wb bn P st (some ⟨gV, 0, none⟩) cV (some ⟨gR, 0, none⟩) cR n vs rs W) (k : Nat) (x : Int) (b : Bool) : Sq wb bn P st (some ⟨gV, 0, none⟩) cV (some ⟨gR, 0, none⟩) cR n (vs.set k x) (rs.set k b) ((W.setCell ⟨gV, k, none⟩ (.int .i64 x)).setCell ⟨gR, k, none⟩ (.bool b)) := by
  obtain ⟨n1, n2, n3, n4, n5⟩ := h.gr
  have v1 := (h.v.stored k (.int .i64 x)).1
  rw [vc_set] at v1
  have r1 := (ownsRow_setCell_other h.r (a := ⟨gV, k, none⟩) (fun e => n1 (by simpa [Value.ownBlock] using e.symm)) (.int .i64 x))
  have r2 := (r1.stored k (.bool b)).1
  rw [rc_set] at r2
  refine ⟨(h.bl.setCell (p := ⟨gV, k, none⟩) n4 _).setCell (p := ⟨gR, k, none⟩) n5 _, ?_, ownsRow_setCell_other v1 (a := ⟨gR, k, none⟩) (fun e => n1 (by simpa [Value.ownBlock] using e)) _, r2, h.hbn⟩
  rw [Below.heap_setCell _ _ _ _ (fun e => n3 e.symm), Below.heap_setCell _ _ _ _ (fun e => n2 e.symm)]
  exact h.nb
/-- The array and what stands beside it stay, while a value and a rest are written. -/
theorem Sq.ob (h : Sq wb bn P st (some ⟨gV, 0, none⟩) cV (some ⟨gR, 0, none⟩) cR n vs rs W) {bs : Nat} {ls ts : List Le} (ho : Ob wb bs ls ts W) (k : Nat) (x : Int) (b : Bool) : Ob wb bs ls ts ((W.setCell ⟨gV, k, none⟩ (.int .i64 x)).setCell ⟨gR, k, none⟩ (.bool b)) := by
  obtain ⟨n1, n2, n3, n4, n5⟩ := h.gr
  obtain ⟨⟨cu, hu⟩, cv, hv⟩ := h.blocks
  have h1 := ho.set (k := k) (u := .int .i64 x) hu (by decide) (by decide) n4
  refine h1.set (cur := cv) (t := 4) (fr := (0, 0)) ?_ (by decide) (by decide) n5
  rw [Below.heap_setCell _ _ _ _ (fun e => n1 (Eq.symm e))]
  exact hv
theorem Sq.new (hb : Below wb.heap.size wb W) (hv : W.ownsRow wb.heap.size 2 1 (.slice V n cV) n (vc vs)) (hr : W.ownsRow wb.heap.size 4 1 (.slice R n cR) n (rc rs)) :
    Sq wb W.heap.size P st V cV R cR n vs rs (W.alloc (.cells #[.int .i64 P, .int .i64 st, .slice V n cV, .slice R n cR, .slice none 0 0] 64)) :=
  ⟨hb.alloc hb.size _, heap_alloc_new _ _, own_next hv (below_alloc _ _), own_next hr (below_alloc _ _), hb.size⟩
theorem Sq.old (hb : Below wb.heap.size wb W) (hv : W.ownsRow wb.heap.size 2 1 (.slice V n cV) n (vc vs)) (hr : W.ownsRow wb.heap.size 4 1 (.slice R n cR) n (rc rs))
    (hz : W.heap[bn]? = some (.cells #[.int .i64 0, .int .i64 0, .slice none 0 0, .slice none 0 0, .slice none 0 0] 64 (0, 0))) (hbn : wb.heap.size ≤ bn) :
    Sq wb bn P st V cV R cR n vs rs (((((W.setCell ⟨bn, 0, none⟩ (.int .i64 P)).setCell ⟨bn, 1, none⟩ (.int .i64 st)).setCell ⟨bn, 2, none⟩ (.slice V n cV)).setCell ⟨bn, 3, none⟩ (.slice R n cR)).setCell ⟨bn, 4, none⟩ (.slice none 0 0)) := by
  have n1 := own_ne hv hz (by decide)
  have n2 := own_ne hr hz (by decide)
  refine ⟨((((hb.setCell (p := ⟨bn, 0, none⟩) hbn _).setCell (p := ⟨bn, 1, none⟩) hbn _).setCell (p := ⟨bn, 2, none⟩) hbn _).setCell (p := ⟨bn, 3, none⟩) hbn _).setCell (p := ⟨bn, 4, none⟩) hbn _, ?_, ?_, ?_, hbn⟩
  · exact set_heap (set_heap (set_heap (set_heap (set_heap hz _) _) _) _) _
  · exact ownsRow_setCell_other (ownsRow_setCell_other (ownsRow_setCell_other (ownsRow_setCell_other (ownsRow_setCell_other hv (a := ⟨bn, 0, none⟩) n1 _) (a := ⟨bn, 1, none⟩) n1 _) (a := ⟨bn, 2, none⟩) n1 _) (a := ⟨bn, 3, none⟩) n1 _) (a := ⟨bn, 4, none⟩) n1 _
  · exact ownsRow_setCell_other (ownsRow_setCell_other (ownsRow_setCell_other (ownsRow_setCell_other (ownsRow_setCell_other hr (a := ⟨bn, 0, none⟩) n2 _) (a := ⟨bn, 1, none⟩) n2 _) (a := ⟨bn, 2, none⟩) n2 _) (a := ⟨bn, 3, none⟩) n2 _) (a := ⟨bn, 4, none⟩) n2 _
end
theorem step_own3 {P : Program} {ops : Array Oper} {o : Oper} {a : Act} {w : World} {K : Act → World → Prop} {Q : Exit → Act → World → Prop} {E : Prop}
    (hg : o.guard = none) (d x : Operand) (t : TypeId) (hop : o.op = Op.call { callee := Callee.builtin Builtin.append, args := #[d, x], argTypes := #[t, t] })
    (base : Nat) (e : TypeId) (i : TypeInfo) (z : Value) (size bytes : Nat) (ht : P.underlying t = some (.slice e)) (hi : P.info? e = some i) (hz : i.zero = some z) (hsize : i.size = size) (hby : i.bytes = bytes) (hzs : z.cells.size = size) (hsz : 0 < size)
    (A : Option Addr) (n c : Nat) (xs : List Value) (hd : a.eval d = .slice A n c) (hown : w.ownsRow base e size (.slice A n c) n xs)
    (B : Nat) (A2 : Option Addr) (m c2 : Nat) (news : List Value) (hx : a.eval x = .slice A2 m c2) (hl : Lies w B size A2 m news) (h1 : ∀ u ∈ news, u.oneCell' = true)
    (h63 : n + m ≤ maxLen) (hbytes : (n + m) * bytes ≤ 140737488355328) (hb : base ≤ w.heap.size)
    (h : ∀ A' c' w', w'.ownsRow base e size (.slice A' (n + m) c') (n + m) (xs ++ news) → Below base w w' → w.grownBy w' (Value.slice A n c).ownBlock →
      ((Value.slice A' (n + m) c').ownBlock = (Value.slice A n c).ownBlock ∨ (Value.slice A' (n + m) c').ownBlock = some w.heap.size) → K (a.put o.dst (.slice A' (n + m) c')) w') :
    if Region.wanted o (yielded ops a.tmps) = true then Oper.wp P o a w K Q else E := by
  obtain ⟨A', c', w', hr, h2, h3, h4, h5⟩ := run_app (P := P) w base t o.type e i z size bytes ht hi hz hsize hby hzs hsz A n c xs hown B A2 m c2 news hl h1 h63 hbytes hb
  exact step_app hg d x t t hop _ _ hd hx hr (h A' c' w' h2 h3 h4 h5)
theorem lies_m (w : World) (m : Ms) : Lies (w.alloc (.cells #[.int .i64 m.1, .int .i64 m.2] 118)) (w.heap.size + 1) 2 (some ⟨w.heap.size, 0, none⟩) 1 (mc [m]) := lies_cells w (mc [m]) 118 1 2 rfl
/-- Lists of messages, in the words of box. -/
def toLs (ls : List Le) : List Ls := ls.map fun e => (e.A, e.ms.length, e.c, e.ms)
theorem toLs_cat (ls : List Le) : lcat (toLs ls) = lcatl ls := by unfold lcat toLs lcatl; rw [List.flatMap_map]
theorem Lls.ll {w : World} {B : Nat} {A : Option Addr} {c : Nat} {ls : List Le} (h : Lls w B A c ls) : LL w B A ls.length (toLs ls) := by
  refine ⟨?_, fun x hx => ?_⟩
  · have e : lc (toLs ls) = lcl ls := by unfold lc toLs lcl; rw [List.map_map]; rfl
    rw [e]; exact h.L
  · unfold toLs at hx
    obtain ⟨e, he, rfl⟩ := List.mem_map.1 hx
    exact h.el e he
set_option maxHeartbeats 1000000 in
theorem bjoin_any (A : Option Addr) (c : Nat) (ls : List Le) (w : World) (hA : Lls w w.heap.size A c ls) (hn : ls.length ≤ 1000000) (hs : (lcatl ls).length ≤ 1000000) :
    Calls Tryz.prog 43 #[.slice A ls.length c] w (MlPost (msort (lcatl ls)) w) := by
  have HA := Lib.hid hA.ll
  have HS := Lib.hid (show (lcat (toLs ls)).length ≤ 1000000 by rw [toLs_cat]; exact hs)
  clear hA
  go_enter Tryz.func43, Tryz.ntmps43
  go_wp2_with fail
  refine (sorted_any A ls.length c (toLs ls) _ HA.out hn HS.out).mono ?_
  rw [toLs_cat]
  rintro e w1 ⟨A1, c1, rfl, ho1, hb1⟩
  have HO1 := Lib.hid ho1
  have HB1 := Lib.hid hb1
  clear ho1 hb1
  go_wp2_with fail
  go_ret
  exact ⟨A1, c1, rfl, HO1.out, HB1.out⟩
/-- Is a message to a vertex whose home is P? -/
def ownB (N q P : Int) (m : Ms) : Bool := decide (m.1 < N) && decide (homeI q m.1 = P)
structure Cl (bg bj bp : Nat) (N : Int) (p s l q P : Int) (W : World) : Prop where
  z : bg < W.heap.size ∧ bj < W.heap.size ∧ bp < W.heap.size
  g0 : W.cell? ⟨bg, 0, none⟩ = some (.int .i64 N)
  j0 : W.cell? ⟨bj, 0, none⟩ = some (.int .i64 p)
  j1 : W.cell? ⟨bj, 1, none⟩ = some (.int .i64 s)
  j2 : W.cell? ⟨bj, 2, none⟩ = some (.int .i64 l)
  j3 : W.cell? ⟨bj, 3, none⟩ = some (.int .i64 q)
  p0 : W.cell? ⟨bp, 0, none⟩ = some (.int .i64 P)
theorem Cl.next {bg bj bp : Nat} {N : Int} {p s l q P : Int} {W W' : World} (h : Cl bg bj bp N p s l q P W) (hb : Below W.heap.size W W') : Cl bg bj bp N p s l q P W' :=
  have k : ∀ b o, b < W.heap.size → W'.cell? ⟨b, o, none⟩ = W.cell? ⟨b, o, none⟩ := fun b o hl => hb.cell (p := ⟨b, o, none⟩) hl
  ⟨⟨Nat.lt_of_lt_of_le h.z.1 hb.size, Nat.lt_of_lt_of_le h.z.2.1 hb.size, Nat.lt_of_lt_of_le h.z.2.2 hb.size⟩, (k _ _ h.z.1).trans h.g0, (k _ _ h.z.2.1).trans h.j0, (k _ _ h.z.2.1).trans h.j1, (k _ _ h.z.2.1).trans h.j2, (k _ _ h.z.2.1).trans h.j3, (k _ _ h.z.2.2).trans h.p0⟩
set_option maxRecDepth 20000 in
set_option maxHeartbeats 1000000 in
theorem own1_any (bg bj bp : Nat) (N p s l q P : Int) (m : Ms) (w : World) (h : Cl bg bj bp N p s l q P w) :
    Calls Tryz.prog 87 #[.agg #[.int .i64 m.1, .int .i64 m.2], .pointer (some ⟨bg, 0, none⟩), .pointer (some ⟨bj, 0, none⟩), .pointer (some ⟨bp, 0, none⟩)] w fun e w' => e = .returned (.bool (!ownB N q P m)) ∧ Below w.heap.size w w' := by
  have mixed : Tryz.prog.follows .mixedOrders = true := by kernel_rfl
  obtain ⟨m1, m2⟩ := m
  have HB := Lib.hid (below_alloc w (.cells #[.int .i64 m1, .int .i64 m2] 118))
  have HC := Lib.hid (h.next HB.out)
  have d0 : (w.alloc (.cells #[.int .i64 m1, .int .i64 m2] 118)).cell? ⟨w.heap.size, 0, none⟩ = some (.int .i64 m1) := by simp [go_sem]
  have HSZ := Lib.hid (show w.heap.size < (w.alloc (.cells #[.int .i64 m1, .int .i64 m2] 118)).heap.size by simp)
  clear h
  go_enter Tryz.func87, Tryz.ntmps87
  go_upto_region 1 with fail
  generalize w.alloc (.cells #[.int .i64 m1, .int .i64 m2] 118) = w4 at HB HC d0 HSZ ⊢
  have g0 := HC.out.g0
  by_cases h1 : N ≤ m1
  · have HF := Lib.hid (show ownB N q P (m1, m2) = false by unfold ownB; rw [decide_eq_false (show ¬ m1 < N by omega)]; rfl)
    go_quiet (fail)
    go_wp2_with fail
    go_ret
    exact ⟨ret_bool (by rw [HF.out]; rfl), below_to_drewN HB.out _⟩
  · have CH := Lib.hid (fun (W : World) (hb : Below w4.heap.size w4 W) => home_any p s l q m1 W)
    have HF := Lib.hid (show ∀ W : World, Below w4.heap.size w4 W → W.cell? ⟨bg, 0, none⟩ = some (.int .i64 N) ∧ W.cell? ⟨bj, 0, none⟩ = some (.int .i64 p) ∧ W.cell? ⟨bj, 1, none⟩ = some (.int .i64 s) ∧ W.cell? ⟨bj, 2, none⟩ = some (.int .i64 l) ∧ W.cell? ⟨bj, 3, none⟩ = some (.int .i64 q) ∧ W.cell? ⟨bp, 0, none⟩ = some (.int .i64 P) ∧ W.cell? ⟨w.heap.size, 0, none⟩ = some (.int .i64 m1) ∧ Below w4.heap.size w4 W by
      intro W hb
      have h := HC.out.next hb
      exact ⟨h.g0, h.j0, h.j1, h.j2, h.j3, h.p0, (hb.cell (p := ⟨w.heap.size, 0, none⟩) HSZ.out).trans d0, hb⟩)
    have q0 := HF.out w4.drew (Below.refl _ _).drew
    have HT := Lib.hid (show (homeI q m1 != P) = !ownB N q P (m1, m2) by
      unfold ownB; rw [decide_eq_true (show m1 < N by omega)]; by_cases hh : homeI q m1 = P <;> simp [hh])
    generalize homeI q m1 = hm at CH HT
    clear d0 g0
    go_region_held3 (fun w' => w'.cell? ⟨bg, 0, none⟩ = some (.int .i64 N) ∧ w'.cell? ⟨bj, 0, none⟩ = some (.int .i64 p) ∧ w'.cell? ⟨bj, 1, none⟩ = some (.int .i64 s) ∧ w'.cell? ⟨bj, 2, none⟩ = some (.int .i64 l) ∧ w'.cell? ⟨bj, 3, none⟩ = some (.int .i64 q) ∧ w'.cell? ⟨bp, 0, none⟩ = some (.int .i64 P) ∧ w'.cell? ⟨w.heap.size, 0, none⟩ = some (.int .i64 m1) ∧ Below w4.heap.size w4 w')
      (first | exact q1 | exact q0)
      (first | ((go_at_call 79); (with_reducible refine (CH.out _ (by first | exact q1.2.2.2.2.2.2.2 | exact q0.2.2.2.2.2.2.2)).mono ?_); rintro e w5 ⟨rfl, hb2⟩; have q1 := HF.out w5 (((by first | exact q1.2.2.2.2.2.2.2 | exact q0.2.2.2.2.2.2.2) : Below w4.heap.size w4 _).trans (hb2.mono (((by first | exact q1.2.2.2.2.2.2.2 | exact q0.2.2.2.2.2.2.2) : Below w4.heap.size w4 _)).size))))
    all_goals
      go_wp2_with fail
      go_ret
      exact ⟨ret_bool HT.out, HB.out.trans (q1.2.2.2.2.2.2.2.mono HB.out.size)⟩
theorem allM_take (f : Ms → Bool) (l : List Ms) (k : Nat) (h : k < l.length) : (l.take (k + 1)).all f = ((l.take k).all f && f (mAt l k)) := by
  rw [List.take_succ_eq_append_getElem h, List.all_append, mAt_get l k h]; simp
theorem allM_no (f : Ms → Bool) (l : List Ms) (k : Nat) (h : k < l.length) (hf : f (mAt l k) = false) : l.all f = false := by
  rw [List.all_eq_false]
  exact ⟨l[k], List.getElem_mem h, by rw [← mAt_get l k h]; simp [hf]⟩
def IfRel (f : Ms → Bool) (l : List Ms) (w : World) (i : Value) (W : World) : Prop := ∃ k : Nat, i = .int .i64 k ∧ k ≤ l.length ∧ Hid ((l.take k).all f = true) ∧ Hid (Below w.heap.size w W)
set_option maxRecDepth 20000 in
set_option maxHeartbeats 1000000 in
theorem indexf_any (bg bj bp : Nat) (N p s l q P : Int) (A : Option Addr) (c : Nat) (ms : List Ms) (w : World) (h : Cl bg bj bp N p s l q P w) (hA : Lies w w.heap.size 2 A ms.length (mc ms)) (hn : ms.length ≤ 1000000) :
    Calls Tryz.prog 108 #[.slice A ms.length c, .func (.func 87) #[] #[.pointer (some ⟨bg, 0, none⟩), .pointer (some ⟨bj, 0, none⟩), .pointer (some ⟨bp, 0, none⟩)]] w fun e w' => (∃ i : Int, e = .returned (.int .i64 i) ∧ decide (0 ≤ i) = !ms.all (ownB N q P)) ∧ Below w.heap.size w w' := by
  have HC := Lib.hid h
  have HA := Lib.hid hA
  clear h hA
  go_enter Tryz.func108, Tryz.ntmps108
  go_wp2_with fail
  go_loopw [8] (fun i W => IfRel (ownB N q P) ms w i W) (fun i W => ms.length - (intOf i).toNat)
  case atStart => exact ⟨0, rfl, Nat.zero_le _, Lib.hid rfl, Lib.hid (Below.refl _ _)⟩
  case round =>
    obtain ⟨k, rfl, hk, HP, HB⟩ := hrel
    by_cases hlt : k < ms.length
    · obtain ⟨ad, rfl, hadb, e0, e1⟩ := (HA.out.next HB.out).ms k hlt
      have hkl : (k : Int) < (ms.length : Int) := by omega
      have HT := Lib.hid (allM_take (ownB N q P) ms k hlt)
      have HN := Lib.hid (allM_no (ownB N q P) ms k hlt)
      have C1 := Lib.hid (own1_any bg bj bp N p s l q P (mAt ms k) wr (HC.out.next HB.out))
      generalize mAt ms k = m at *
      go_wp2_with fail
      refine C1.out.mono ?_
      rintro e w1 ⟨rfl, hb1⟩
      have HB1 := Lib.hid (HB.out.trans (hb1.mono HB.out.size))
      clear hb1 e0 e1 hadb
      cases ho : ownB N q P m with
      | true =>
        have HT1 := Lib.hid (show (ms.take (k + 1)).all (ownB N q P) = true by rw [HT.out, HP.out, ho]; rfl)
        clear ho
        go_wp2_with fail
        go_roundw
        case rel => exact ⟨k + 1, by go_num, by omega, HT1, HB1⟩
        case measure => simp [intOf]; omega
      | false =>
        have HT1 := Lib.hid (HN.out ho)
        clear ho
        go_wp2_with fail
        go_ret
        exact ⟨⟨k, rfl, by rw [HT1.out]; simp⟩, HB1.out⟩
    · have hk' : k = ms.length := by omega
      subst hk'
      have HT := Lib.hid (show ms.all (ownB N q P) = true by have := HP.out; rw [List.take_length] at this; exact this)
      clear HP
      go_wp2_with fail
      go_ret
      exact ⟨⟨-1, rfl, by rw [HT.out]; rfl⟩, HB.out⟩
set_option maxRecDepth 20000 in
set_option maxHeartbeats 1000000 in
theorem containsf_any (bg bj bp : Nat) (N p s l q P : Int) (A : Option Addr) (c : Nat) (ms : List Ms) (w : World) (h : Cl bg bj bp N p s l q P w) (hA : Lies w w.heap.size 2 A ms.length (mc ms)) (hn : ms.length ≤ 1000000) :
    Calls Tryz.prog 86 #[.slice A ms.length c, .func (.func 87) #[] #[.pointer (some ⟨bg, 0, none⟩), .pointer (some ⟨bj, 0, none⟩), .pointer (some ⟨bp, 0, none⟩)]] w fun e w' => e = .returned (.bool (!ms.all (ownB N q P))) ∧ Below w.heap.size w w' := by
  have HC := Lib.hid (indexf_any bg bj bp N p s l q P A c ms w h hA hn)
  clear h hA
  go_enter Tryz.func86, Tryz.ntmps86
  go_wp2_with fail
  refine HC.out.mono ?_
  rintro e w1 ⟨⟨i, rfl, hi⟩, hb1⟩
  have HI := Lib.hid hi
  have HB := Lib.hid hb1
  clear hi hb1
  go_wp2_with fail
  go_ret
  exact ⟨ret_bool HI.out, HB.out⟩
set_option maxRecDepth 20000 in
set_option maxHeartbeats 1000000 in
theorem owns_any (N : Int) (B : Option Addr) (n d : Nat) (p s l q P : Int) (A : Option Addr) (c : Nat) (ms : List Ms) (w : World) (hA : Lies w w.heap.size 2 A ms.length (mc ms)) (hn : ms.length ≤ 1000000) :
    Calls Tryz.prog 44 #[.agg #[.int .i64 N, .slice B n d], .agg #[.int .i64 p, .int .i64 s, .int .i64 l, .int .i64 q], .int .i64 P, .slice A ms.length c] w fun e w' => e = .returned (.bool (ms.all (ownB N q P))) ∧ Below w.heap.size w w' := by
  obtain ⟨w3, hw3⟩ : ∃ w3, w3 = ((w.alloc (.cells #[.int .i64 N, .slice B n d] 27)).alloc (.cells #[.int .i64 p, .int .i64 s, .int .i64 l, .int .i64 q] 23)).alloc (.cells #[.int .i64 P] 3) := ⟨_, rfl⟩
  have HB := Lib.hid (show Below w.heap.size w w3 by rw [hw3]; exact ((((Below.refl _ _).alloc (Nat.le_refl _) _).alloc (by simp) _).alloc (by simp <;> omega) _))
  have HC := Lib.hid (containsf_any w.heap.size (w.heap.size + 1) (w.heap.size + 1 + 1) N p s l q P A c ms w3 (by rw [hw3]; exact ⟨⟨by simp <;> omega, by simp <;> omega, by simp <;> omega⟩, by simp [go_sem], by simp [go_sem], by simp [go_sem], by simp [go_sem], by simp [go_sem], by simp [go_sem]⟩) (hA.next HB.out) hn)
  clear hA
  go_enter Tryz.func44, Tryz.ntmps44
  go_upto_region 1 with fail
  rw [← hw3]
  clear hw3
  go_wp2_with fail
  refine HC.out.mono ?_
  rintro e w1 ⟨rfl, hb1⟩
  have HB1 := Lib.hid (HB.out.trans (hb1.mono HB.out.size))
  clear hb1
  go_wp2_with fail
  go_ret
  exact ⟨ret_bool (by simp), HB1.out⟩
end Go.Proofs.YtpgdddjjjfkneaaGreatDoor


