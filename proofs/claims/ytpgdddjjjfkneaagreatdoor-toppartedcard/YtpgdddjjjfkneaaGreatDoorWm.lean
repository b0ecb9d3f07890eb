import Derived.Test.YtpgdddjjjfkneaaGreatDoorKu
import Derived.Test.YtpgdddjjjfkneaaGreatDoorPtO
import Derived.Test.YtpgdddjjjfkneaaGreatDoorPtE
/-
  Words for what partitions send one another: lists of lists of messages that grow side by side, a list of partitions that grows beside them, and what lies in no block that is written. No condition.
-/
namespace Go.Proofs.YtpgdddjjjfkneaaGreatDoor
open Go.ChangeShapes Go.WideShapes Go.ChangeAt Go.RowKit
set_option linter.unusedVariables false

/-- A list of lists of messages, and where its slice leads. -/
structure Li where
  A : Option Addr
  c : Nat
  ls : List Le
def Li.v (x : Li) : Value := .slice x.A x.ls.length x.c
def noLi : Li := ⟨none, 0, []⟩
def licl (L : List Li) : List Value := L.map Li.v
theorem licl_at (L : List Li) (k : Nat) (h : k < L.length) : (licl L)[k]? = some L[k].v := by unfold licl; simp [List.getElem?_eq_getElem h]
theorem lcl_app (a b : List Le) : lcl (a ++ b) = lcl a ++ lcl b := by unfold lcl; simp
/-- Rows of the call's own, apart from one another. -/
def RowsL (b : Nat) (L : List Li) (W : World) : Prop :=
  (∀ i (h : i < L.length), W.ownsRow b 37 1 L[i].v L[i].ls.length (lcl L[i].ls)) ∧ ∀ i j (hi : i < L.length) (hj : j < L.length), i ≠ j → ∀ g, L[i].v.ownBlock = some g → L[j].v.ownBlock ≠ some g
theorem RowsL.put {b : Nat} {L : List Li} {W W1 : World} (h : RowsL b L W) (i : Nat) (hi : i < L.length) (e : Li) (ho : W1.ownsRow b 37 1 e.v e.ls.length (lcl e.ls)) (hg : W.grownBy W1 L[i].v.ownBlock) (hf : e.v.ownBlock = L[i].v.ownBlock ∨ e.v.ownBlock = some W.heap.size) : RowsL b (L.set i e) W1 := by
  refine ⟨fun j hj => ?_, fun a c ha hc hne g hgb => ?_⟩
  · rw [List.length_set] at hj
    by_cases hij : i = j
    · subst hij; rw [List.getElem_set_self]; exact ho
    · rw [List.getElem_set_ne hij]
      refine (h.1 j hj).kept hg ?_
      cases hv : L[j].v.ownBlock with
      | none => exact .inl rfl
      | some g =>
        refine .inr fun e1 => ?_
        exact h.2 j i hj hi (fun e2 => hij e2.symm) g hv e1.symm
  · rw [List.length_set] at ha hc
    have hlt : ∀ k (hk : k < L.length), L[k].v.ownBlock ≠ some W.heap.size := fun k hk e1 => by have := ((h.1 k hk).lt _ e1).2; omega
    by_cases hia : i = a
    · subst hia
      rw [List.getElem_set_self] at hgb
      rw [List.getElem_set_ne hne]
      rcases hf with hf | hf
      · exact h.2 i c hi hc hne g (hf.symm.trans hgb)
      · intro e1
        have : g = W.heap.size := by rw [hf] at hgb; injection hgb with e2; exact e2.symm
        subst this
        exact hlt c hc e1
    · rw [List.getElem_set_ne hia] at hgb
      by_cases hic : i = c
      · subst hic
        rw [List.getElem_set_self]
        rcases hf with hf | hf
        · rw [hf]; exact h.2 a i ha hi hne g hgb
        · rw [hf]; intro e1
          injection e1 with e1
          subst e1
          exact hlt a ha hgb
      · rw [List.getElem_set_ne hic]; exact h.2 a c ha hc hne g hgb
theorem RowsL.next {b : Nat} {L : List Li} {W W' : World} (h : RowsL b L W) (hb : Below W.heap.size W W') : RowsL b L W' := ⟨fun i hi => own_next (h.1 i hi) hb, h.2⟩
theorem RowsL.set {b : Nat} {L : List Li} {W : World} (h : RowsL b L W) {g k : Nat} {u : Value} {cur : Array Value} {t : TypeId} {fr : Nat × Nat} (hg : W.heap[g]? = some (.cells cur t fr)) (h1 : t ≠ 37) : RowsL b L (W.setCell ⟨g, k, none⟩ u) :=
  ⟨fun i hi => ownsRow_setCell_other (h.1 i hi) (a := ⟨g, k, none⟩) (own_ne (h.1 i hi) hg h1) _, h.2⟩
/-- The blocks that are written. -/
def Wr (g : Nat) (D : Value) (L : List Li) (b : Nat) : Prop := b = g ∨ D.ownBlock = some b ∨ ∃ i, ∃ h : i < L.length, L[i].v.ownBlock = some b
/-- The lists L stand in the array of block g; D is a list of partitions beside them. -/
structure Mo (wb : World) (g : Nat) (D : Value) (nd : Nat) (xd : List Value) (L : List Li) (W : World) : Prop where
  bl : Below wb.heap.size wb W
  nb : W.heap[g]? = some (.cells (licl L).toArray 65 (0, 0))
  hg : wb.heap.size ≤ g
  rw8 : RowsL wb.heap.size L W
  did : W.ownsRow wb.heap.size 64 5 D nd xd
/-- What lies in memory, in no block that is written. -/
def Fx (g : Nat) (D : Value) (L : List Li) (W : World) (s n : Nat) (A : Option Addr) (xs : List Value) : Prop := Lies W W.heap.size s A n xs ∧ ∀ b, Wr g D L b → Nbl b A xs
section
variable {wb W W' : World} {g nd s n : Nat} {D : Value} {xd : List Value} {L : List Li} {A : Option Addr} {xs : List Value}
theorem Mo.glt (h : Mo wb g D nd xd L W) : g < W.heap.size := lt_of_block h.nb
theorem Mo.lt (h : Mo wb g D nd xd L W) {b : Nat} (hb : Wr g D L b) : b < W.heap.size := by
  rcases hb with rfl | hb | ⟨i, hi, hb⟩
  · exact h.glt
  · exact (h.did.lt b hb).2
  · exact ((h.rw8.1 i hi).lt b hb).2
theorem Mo.next (h : Mo wb g D nd xd L W) (hb : Below W.heap.size W W') : Mo wb g D nd xd L W' :=
  ⟨h.bl.trans (hb.mono h.bl.size), (hb.block _ h.glt).trans h.nb, h.hg, h.rw8.next hb, own_next h.did hb⟩
theorem Fx.next (h : Fx g D L W s n A xs) (hb : Below W.heap.size W W') : Fx g D L W' s n A xs := ⟨h.1.next hb, h.2⟩
theorem Fx.new (h : Mo wb g D nd xd L W) (hl : Lies W' W'.heap.size s A n xs) (hf : Fr W.heap.size A) : Fx g D L W' s n A xs := ⟨hl, fun b hw => .inr (hf.nb (h.lt hw))⟩
theorem Mo.cell (h : Mo wb g D nd xd L W) (i : Nat) (hi : i < L.length) : W.cell? ⟨g, i, none⟩ = some L[i].v := by
  refine (cell_of_row W g i _ 65 (0, 0) h.nb).trans ?_
  rw [List.getElem?_toArray]
  exact licl_at L i hi
/-- The list of partitions has grown. -/
theorem Mo.app (h : Mo wb g D nd xd L W) {D' : Value} {nd' : Nat} {xd' : List Value} (ho : W'.ownsRow wb.heap.size 64 5 D' nd' xd') (hb : Below wb.heap.size W W') (hg : W.grownBy W' D.ownBlock) : Mo wb g D' nd' xd' L W' :=
  ⟨h.bl.trans hb, (hg.block _ h.glt (fun e1 => own_ne h.did h.nb (by decide) e1.symm)).trans h.nb, h.hg, ⟨fun i hi => own_apart (h.rw8.1 i hi) h.did hg (by decide), h.rw8.2⟩, ho⟩
theorem Fx.grown {o : Option Nat} (f : Fx g D L W s n A xs) (hg : W.grownBy W' o) (ho : ∀ b, o = some b → Wr g D L b) : Lies W' W'.heap.size s A n xs := by
  cases o with
  | none => exact f.1.next ((Below.refl _ _).grown hg (Nat.le_refl _) (fun k hk => by cases hk))
  | some b => exact f.1.grown hg (f.2 b (ho b rfl))
theorem Fx.app (f : Fx g D L W s n A xs) {D' : Value} (hg : W.grownBy W' D.ownBlock) (hw : D'.ownBlock = D.ownBlock ∨ D'.ownBlock = some W.heap.size) : Fx g D' L W' s n A xs := by
  refine ⟨f.grown hg (fun b hb => .inr (.inl hb)), fun b hb => ?_⟩
  rcases hb with hb | hb | hb
  · exact f.2 b (.inl hb)
  · rcases hw with hw | hw
    · exact f.2 b (.inr (.inl (hw.symm.trans hb)))
    · rw [hw] at hb
      injection hb with hb
      subst hb
      exact f.1.nbl (Nat.le_refl _)
  · exact f.2 b (.inr (.inr hb))
/-- One of the lists has grown, and is put back. -/
theorem Mo.put (h : Mo wb g D nd xd L W) (i : Nat) (hi : i < L.length) (x : Li) (ho : W'.ownsRow wb.heap.size 37 1 x.v x.ls.length (lcl x.ls)) (hb : Below wb.heap.size W W') (hg : W.grownBy W' L[i].v.ownBlock)
    (hf : x.v.ownBlock = L[i].v.ownBlock ∨ x.v.ownBlock = some W.heap.size) :
    Mo wb g D nd xd (L.set i x) (W'.setCell ⟨g, i, none⟩ x.v) ∧ W'.cell? ⟨g, i, none⟩ = some L[i].v ∧ W'.frozen? ⟨g, i, none⟩ = false := by
  have nb := (hg.block _ h.glt (fun e1 => own_ne (h.rw8.1 i hi) h.nb (by decide) e1.symm)).trans h.nb
  have hr := h.rw8.put i hi x ho hg hf
  have hd := own_apart h.did (h.rw8.1 i hi) hg (by decide)
  refine ⟨⟨(h.bl.trans hb).setCell (p := ⟨g, i, none⟩) h.hg _, ?_, h.hg, hr.set nb (by decide), ownsRow_setCell_other hd (a := ⟨g, i, none⟩) (own_ne hd nb (by decide)) _⟩, ?_, unfrozen nb i⟩
  · rw [set_heap nb]
    congr 2
    rw [List.setIfInBounds_toArray]
    congr 1
    unfold licl
    rw [List.map_set]
  · refine (cell_of_row W' g i _ 65 (0, 0) nb).trans ?_
    rw [List.getElem?_toArray]
    exact licl_at L i hi
theorem Fx.put (f : Fx g D L W s n A xs) (i : Nat) (hi : i < L.length) (x : Li) (hg : W.grownBy W' L[i].v.ownBlock)
    (hf : x.v.ownBlock = L[i].v.ownBlock ∨ x.v.ownBlock = some W.heap.size) : Fx g D (L.set i x) (W'.setCell ⟨g, i, none⟩ x.v) s n A xs := by
  have hl := f.grown hg (fun b hb => .inr (.inr ⟨i, hi, hb⟩))
  have hsz : (W'.setCell ⟨g, i, none⟩ x.v).heap.size = W'.heap.size := by simp [World.setCell]
  refine ⟨by rw [hsz]; exact hl.setN (f.2 g (.inl rfl)) _, fun b hb => ?_⟩
  rcases hb with hb | hb | ⟨j, hj, hb⟩
  · exact f.2 b (.inl hb)
  · exact f.2 b (.inr (.inl hb))
  · rw [List.length_set] at hj
    by_cases hij : i = j
    · subst hij
      rw [List.getElem_set_self] at hb
      rcases hf with hf | hf
      · exact f.2 b (.inr (.inr ⟨i, hi, hf.symm.trans hb⟩))
      · rw [hf] at hb
        injection hb with hb
        subst hb
        exact f.1.nbl (Nat.le_refl _)
    · rw [List.getElem_set_ne hij] at hb
      exact f.2 b (.inr (.inr ⟨j, hj, hb⟩))
end
/-- A partition's lists lie so. -/
def FxP (g : Nat) (D : Value) (L : List Li) (W : World) (e : Pe) : Prop :=
  Fx g D L W 1 e.S.vals.length e.A1 (vc e.S.vals) ∧ Fx g D L W 1 e.S.rest.length e.A2 (rc e.S.rest) ∧ Fx g D L W 2 e.S.inn.length e.A3 (mc e.S.inn) ∧ e.S.vals.length ≤ e.c1 ∧ e.S.rest.length ≤ e.c2 ∧ e.S.inn.length ≤ e.c3 ∧ Ok e.S
def FxL (g : Nat) (D : Value) (L : List Li) (W : World) (e : Le) : Prop := Fx g D L W 2 e.ms.length e.A (mc e.ms)
section
variable {wb W W' : World} {g nd : Nat} {D : Value} {xd : List Value} {L : List Li} {e : Pe} {x : Le}
theorem FxP.st (h : FxP g D L W e) : StL W W.heap.size e.S e.A1 e.c1 e.A2 e.c2 e.A3 e.c3 := ⟨h.1.1, h.2.1.1, h.2.2.1.1, h.2.2.2.1, h.2.2.2.2.1, h.2.2.2.2.2.1, h.2.2.2.2.2.2⟩
theorem FxP.next (h : FxP g D L W e) (hb : Below W.heap.size W W') : FxP g D L W' e := ⟨h.1.next hb, h.2.1.next hb, h.2.2.1.next hb, h.2.2.2⟩
theorem FxP.app (h : FxP g D L W e) {D' : Value} (hg : W.grownBy W' D.ownBlock) (hw : D'.ownBlock = D.ownBlock ∨ D'.ownBlock = some W.heap.size) : FxP g D' L W' e := ⟨h.1.app hg hw, h.2.1.app hg hw, h.2.2.1.app hg hw, h.2.2.2⟩
theorem FxP.put (h : FxP g D L W e) (i : Nat) (hi : i < L.length) (x : Li) (hg : W.grownBy W' L[i].v.ownBlock) (hf : x.v.ownBlock = L[i].v.ownBlock ∨ x.v.ownBlock = some W.heap.size) : FxP g D (L.set i x) (W'.setCell ⟨g, i, none⟩ x.v) e :=
  ⟨h.1.put i hi x hg hf, h.2.1.put i hi x hg hf, h.2.2.1.put i hi x hg hf, h.2.2.2⟩
theorem FxP.new (h : Mo wb g D nd xd L W) (hs : StL W' W'.heap.size e.S e.A1 e.c1 e.A2 e.c2 e.A3 e.c3) (f1 : Fr W.heap.size e.A1) (f2 : Fr W.heap.size e.A2) (f3 : Fr W.heap.size e.A3) : FxP g D L W' e :=
  ⟨Fx.new h hs.v f1, Fx.new h hs.r f2, Fx.new h hs.m f3, hs.cv, hs.cr, hs.cm, hs.ok⟩
end
end Go.Proofs.YtpgdddjjjfkneaaGreatDoor

