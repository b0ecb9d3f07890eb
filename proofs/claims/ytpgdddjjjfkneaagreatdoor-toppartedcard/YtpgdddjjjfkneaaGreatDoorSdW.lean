import Derived.Test.YtpgdddjjjfkneaaGreatDoorWo
import Derived.Test.YtpgdddjjjfkneaaGreatDoorLawS
import Derived.Test.YtpgdddjjjfkneaaGreatDoorKu
import Derived.Test.YtpgdddjjjfkneaaGreatDoorWkM
/-
  Words for a list of partitions that is written in place, beside lists of lists of messages that grow; what a superstep in partitions is asked for. No condition.
-/
namespace Go.Proofs.YtpgdddjjjfkneaaGreatDoor
open Go.ChangeShapes Go.WideShapes Go.ChangeAt Go.RowKit
set_option linter.unusedVariables false

/-- What a superstep in partitions answers: the next state, or that a number was too great. -/
def SdPost (N : Int) (es : List Ed) (p s l q : Int) (S : St) (w : World) (r : Ending) (w' : World) : Prop :=
  Below w.heap.size w w' ∧
  (((stepR N es p s l q S).2 = 0 ∧ rightB N es p s l q (stepR N es p s l q S).1 = true ∧ ∃ X1 x1 X2 x2 X3 x3, r = .returned (.tuple #[.agg #[.int .i64 (stepR N es p s l q S).1.step, .slice X1 (stepR N es p s l q S).1.vals.length x1, .slice X2 (stepR N es p s l q S).1.rest.length x2, .slice X3 (stepR N es p s l q S).1.inn.length x3], .bool false, .bool true]) ∧
      StL w' w'.heap.size (stepR N es p s l q S).1 X1 x1 X2 x2 X3 x3 ∧ Fr w.heap.size X1 ∧ Fr w.heap.size X2 ∧ Fr w.heap.size X3) ∨
   ((stepR N es p s l q S).2 = 8 ∧ r = .returned (.tuple #[.agg #[.int .i64 0, .slice none 0 0, .slice none 0 0, .slice none 0 0], .bool true, .bool true])))
/-- What 'stepped' does. -/
def StepsOk : Prop := ∀ (N : Int) (A : Option Addr) (n c : Nat) (es : List Ed) (p s l q : Int) (S : St) (A1 : Option Addr) (c1 : Nat) (A2 : Option Addr) (c2 : Nat) (A3 : Option Addr) (c3 : Nat) (w : World), Lies w w.heap.size 3 A n (ec es) → n ≤ c → n ≤ maxLen → StL w w.heap.size S A1 c1 A2 c2 A3 c3 →
  rightB N es p s l q S = true → ¬ S.step = 40 → NN p S →
  Calls Tryz.prog 11 #[.agg #[.int .i64 N, .slice A n c], .agg #[.int .i64 p, .int .i64 s, .int .i64 l, .int .i64 q], .agg #[.int .i64 S.step, .slice A1 S.vals.length c1, .slice A2 S.rest.length c2, .slice A3 S.inn.length c3]] w (SdPost N es p s l q S w)
def BkT (b : Nat) (cs : Array Value) (t : TypeId) (W : World) : Prop := W.heap[b]? = some (.cells cs t (0, 0))
theorem BkT.next {b : Nat} {cs : Array Value} {t : TypeId} {W W' : World} (h : BkT b cs t W) (hb : Below W.heap.size W W') : BkT b cs t W' := (hb.block _ (lt_of_block h)).trans h
theorem BkT.cell {b : Nat} {cs : Array Value} {t : TypeId} {W : World} (h : BkT b cs t W) (i : Nat) : W.cell? ⟨b, i, none⟩ = cs[i]? := cell_of_row W b i cs t (0, 0) h
theorem set_size (W : World) (a : Addr) (u : Value) : (W.setCell a u).heap.size = W.heap.size := by simp [World.setCell]
section
variable {wb W W' : World} {g gl dc nd s n : Nat} {cur : List Pe} {L : List Li} {A : Option Addr} {xs xd : List Value}
theorem Fx.setD {D : Value} (f : Fx g D L W s n A xs) (h : D.ownBlock = some gl) (i : Nat) (u : Value) : Fx g D L (W.setCell ⟨gl, i, none⟩ u) s n A xs :=
  ⟨by rw [set_size]; exact f.1.setN (f.2 gl (.inr (.inl h))) u, f.2⟩
theorem FxP.setD {D : Value} {e : Pe} (f : FxP g D L W e) (h : D.ownBlock = some gl) (i : Nat) (u : Value) : FxP g D L (W.setCell ⟨gl, i, none⟩ u) e :=
  ⟨f.1.setD h i u, f.2.1.setD h i u, f.2.2.1.setD h i u, f.2.2.2⟩
theorem Lo.setD {D : Value} {DO : Option Addr} {os : List Le} (f : Lo g D L DO os W) (h : D.ownBlock = some gl) (i : Nat) (u : Value) : Lo g D L DO os (W.setCell ⟨gl, i, none⟩ u) :=
  ⟨f.row.setD h i u, fun e he => Fx.setD (f.el e he) h i u⟩
theorem own_cells {e : TypeId} {b c : Nat} (h : W.ownsRow b e s (.slice (some ⟨gl, 0, none⟩) n c) n xs) : ∃ cs, W.heap[gl]? = some (.cells cs e) := by
  rcases h.2 with ⟨hv, _⟩ | ⟨g', cap, cs, hv, _, hg, _⟩
  · cases hv
  · injection hv with e1 _ _
    injection e1 with e1
    injection e1 with e1 _ _
    subst e1
    exact ⟨cs, hg⟩
theorem Mo.setD (h : Mo wb g (.slice (some ⟨gl, 0, none⟩) nd dc) nd xd L W) (i : Nat) (u : Value) : Mo wb g (.slice (some ⟨gl, 0, none⟩) nd dc) nd (xd.set i u) L (W.setCell ⟨gl, i, none⟩ u) := by
  have hne : g ≠ gl := fun e1 => own_ne h.did h.nb (by decide) (by rw [e1]; rfl)
  obtain ⟨cs, hcs⟩ := own_cells h.did
  exact ⟨h.bl.setCell (p := ⟨gl, i, none⟩) (h.did.lt gl rfl).1 _, (Below.heap_setCell W ⟨gl, i, none⟩ u g hne).trans h.nb, h.hg, h.rw8.set hcs (by decide), (h.did.stored i u).1⟩
/-- A partition is put into its place. -/
theorem Lw.setP (h : Lw wb g (some ⟨gl, 0, none⟩) dc cur L W) (k : Nat) {e : Pe} (he : FxP g (.slice (some ⟨gl, 0, none⟩) cur.length dc) L W e) :
    Lw wb g (some ⟨gl, 0, none⟩) dc (cur.set k e) L (((((W.setCell ⟨gl, k * 5, none⟩ (.int .i64 e.P)).setCell ⟨gl, k * 5 + 1, none⟩ (.int .i64 e.S.step)).setCell ⟨gl, k * 5 + 2, none⟩ (.slice e.A1 e.S.vals.length e.c1)).setCell ⟨gl, k * 5 + 3, none⟩ (.slice e.A2 e.S.rest.length e.c2)).setCell ⟨gl, k * 5 + 4, none⟩ (.slice e.A3 e.S.inn.length e.c3)) := by
  have h1 := ((((h.mo.setD (k * 5) (.int .i64 e.P)).setD (k * 5 + 1) (.int .i64 e.S.step)).setD (k * 5 + 2) (.slice e.A1 e.S.vals.length e.c1)).setD (k * 5 + 3) (.slice e.A2 e.S.rest.length e.c2)).setD (k * 5 + 4) (.slice e.A3 e.S.inn.length e.c3)
  rw [pc_set] at h1
  have hl : (cur.set k e).length = cur.length := List.length_set ..
  refine ⟨by rw [hl]; exact h1, fun x hx => ?_, fun x hx y hy => ?_⟩
  · rw [hl]
    have hx' : FxP g (.slice (some ⟨gl, 0, none⟩) cur.length dc) L W x := by
      rcases List.mem_or_eq_of_mem_set hx with hx | rfl
      · exact h.fp x hx
      · exact he
    exact ((((hx'.setD rfl _ _).setD rfl _ _).setD rfl _ _).setD rfl _ _).setD rfl _ _
  · rw [hl]
    exact Fx.setD (Fx.setD (Fx.setD (Fx.setD (Fx.setD (h.fl x hx y hy) rfl _ _) rfl _ _) rfl _ _) rfl _ _) rfl _ _
theorem Lo.setP {D : Value} {DO : Option Addr} {os : List Le} (f : Lo g D L DO os W) (h : D.ownBlock = some gl) (k : Nat) (e : Pe) :
    Lo g D L DO os (((((W.setCell ⟨gl, k * 5, none⟩ (.int .i64 e.P)).setCell ⟨gl, k * 5 + 1, none⟩ (.int .i64 e.S.step)).setCell ⟨gl, k * 5 + 2, none⟩ (.slice e.A1 e.S.vals.length e.c1)).setCell ⟨gl, k * 5 + 3, none⟩ (.slice e.A2 e.S.rest.length e.c2)).setCell ⟨gl, k * 5 + 4, none⟩ (.slice e.A3 e.S.inn.length e.c3)) :=
  ((((f.setD h _ _).setD h _ _).setD h _ _).setD h _ _).setD h _ _
/-- The cells of a place. -/
theorem Lw.cells (h : Lw wb g (some ⟨gl, 0, none⟩) dc cur L W) (k : Nat) (hk : k < cur.length) : (∀ j, j < 5 → ∃ v, W.cell? ⟨gl, k * 5 + j, none⟩ = some v) ∧ ∀ o, W.frozen? ⟨gl, o, none⟩ = false := by
  refine ⟨fun j hj => ?_, fun o => h.mo.did.frozenAt o⟩
  have h1 := h.mo.did.cellAt (k * 5 + j) (by omega)
  have hl : k * 5 + j < (pc cur).length := by have := h.mo.did.1; omega
  exact ⟨(pc cur)[k * 5 + j], h1.trans (List.getElem?_eq_getElem hl)⟩
theorem Lw.start2 {w wS : World} {ls : List Pe} (h : Psp w gl ls wS) (m : Nat) (hm : m ≤ 6) : Lw w wS.heap.size (some ⟨gl, 0, none⟩) ls.length ls (List.replicate m noLi) (wS.alloc (.cells (madeCells #[.slice none 0 0] m) 65)) := by
  have hx : ∀ i (h : i < (List.replicate m noLi).length), (List.replicate m noLi)[i] = noLi := fun i h => List.getElem_replicate ..
  have hba := below_alloc wS (.cells (madeCells #[.slice none 0 0] m) 65)
  refine ⟨⟨h.bl.trans (hba.mono h.bl.size), ?_, h.bl.size, ⟨fun i hi => ?_, fun i j hi hj hne b hb => ?_⟩, own_next h.own hba⟩, fun e he => ?_, fun x hxm e he => ?_⟩
  · rw [heap_alloc_new]
    congr 2
    apply Array.toList_inj.1
    rw [toList_madeCells_one]
    simp [licl, noLi, Li.v]
  · rw [hx]; exact World.ownsRow_nil _ _ _ _
  · rw [hx] at hb; cases hb
  · obtain ⟨hs, b1, b2, b3⟩ := h.el e he
    have key : ∀ {s n : Nat} {A : Option Addr} {xs : List Value}, Lies wS wS.heap.size s A n xs → Nbl gl A xs → Fx wS.heap.size (.slice (some ⟨gl, 0, none⟩) ls.length ls.length) (List.replicate m noLi) (wS.alloc (.cells (madeCells #[.slice none 0 0] m) 65)) s n A xs := fun hl hb => by
      refine ⟨hl.next hba, fun b hw => ?_⟩
      rcases hw with rfl | hw | ⟨i, hi, hw⟩
      · exact hl.nbl (Nat.le_refl _)
      · injection hw with hw
        subst hw
        exact hb
      · rw [hx] at hw; cases hw
    exact ⟨key hs.v b1, key hs.r b2, key hs.m b3, hs.cv, hs.cr, hs.cm, hs.ok⟩
  · rw [(List.mem_replicate.1 hxm).2] at he; cases he
end
theorem take_set {cur : List Pe} {i : Nat} (h : i < cur.length) (e : Pe) : (cur.set i e).take (i + 1) = cur.take i ++ [e] := by
  apply List.ext_getElem
  · rw [List.length_take, List.length_set, List.length_append, List.length_take, List.length_singleton]; omega
  · intro j h1 h2
    rw [List.length_take, List.length_set] at h1
    rw [List.getElem_take, List.getElem_set]
    by_cases hij : i = j
    · subst hij
      rw [if_pos rfl, List.getElem_append_right (by rw [List.length_take]; omega)]
      simp
    · rw [if_neg hij, List.getElem_append_left (by rw [List.length_take]; omega), List.getElem_take]
/-- From place k on a list of partitions is as f says. -/
def From (f : Nat → Pt) (k : Nat) (cur : List Pe) : Prop := ∀ j (h : j < cur.length), k ≤ j → mkP cur[j].P cur[j].S = f j
theorem From.set {f : Nat → Pt} {k : Nat} {cur : List Pe} (h : From f k cur) (e : Pe) : From f (k + 1) (cur.set k e) := fun j hj hk => by
  rw [List.length_set] at hj
  have e1 : (cur.set k e)[j] = cur[j] := by rw [List.getElem_set, if_neg (by omega)]
  rw [e1]
  exact h j hj (by omega)
def D1Rel2 (N : Int) (es : List Ed) (p s l q : Int) (S : St) (m : Nat) (wb : World) (g gl : Nat) (i : Value) (W : World) : Prop :=
  ∃ (k : Nat) (cur : List Pe) (L : List Li), i = .int .i64 k ∧ k ≤ m ∧ Hid (cur.length = m) ∧ Hid (From (cutP N.toNat q.toNat S) k cur) ∧ Hid (Lm N es p s l q S k (cur.take k) L) ∧ Hid (Lw wb g (some ⟨gl, 0, none⟩) m cur L W)
def D2Rel2 (N : Int) (es : List Ed) (p s l q : Int) (S : St) (m k : Nat) (wb : World) (g gl : Nat) (cur : List Pe) (DO : Option Addr) (os : List Le) (i : Value) (W : World) : Prop :=
  ∃ (j : Nat) (L : List Li), i = .int .i64 j ∧ j ≤ m ∧ Hid (Lk N es p s l q S k j (cur.take (k + 1)) L) ∧ Hid (Lw wb g (some ⟨gl, 0, none⟩) m cur L W) ∧ Hid (Lo g (.slice (some ⟨gl, 0, none⟩) cur.length m) L DO os W)
def T1Rel2 (N : Int) (es : List Ed) (p s l q : Int) (S : St) (m : Nat) (wb : World) (g gl : Nat) (L : List Li) (i : Value) (W : World) : Prop :=
  ∃ (k : Nat) (cur : List Pe), i = .int .i64 k ∧ k ≤ m ∧ Hid (cur.length = m) ∧ Hid (From (fun j => doX N es p s l q (cutP N.toNat q.toNat S j)) k cur) ∧ Hid (Lt N es p s l q S k (cur.take k)) ∧ Hid (Lw wb g (some ⟨gl, 0, none⟩) m cur L W)
end Go.Proofs.YtpgdddjjjfkneaaGreatDoor
