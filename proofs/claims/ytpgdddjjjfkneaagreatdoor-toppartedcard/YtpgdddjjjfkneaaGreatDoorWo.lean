import Derived.Test.YtpgdddjjjfkneaaGreatDoorWm
import Derived.Test.YtpgdddjjjfkneaaGreatDoorWkM
import Derived.Deep.OwnRows
/-
  What partitions that do their superstep one behind the other leave: those done, and what each is sent, in numbers and in memory. No condition.
-/
namespace Go.Proofs.YtpgdddjjjfkneaaGreatDoor
open Go.ChangeShapes Go.WideShapes Go.ChangeAt Go.RowKit
set_option linter.unusedVariables false

section
variable {N : Int} {es : List Ed} {p s l q : Int} {S : St}
/-- What partition i of the state does. -/
def dI (N : Int) (es : List Ed) (p s l q : Int) (S : St) (i : Nat) : Pt × List (List Ms) × Int := doR N es p s l q (cutP N.toNat q.toNat S i)
/-- What it takes. -/
def tI (N : Int) (es : List Ed) (p s l q : Int) (S : St) (i : Nat) : Pt × Int := takeR N es p s l q (doX N es p s l q (cutP N.toNat q.toNat S i)) (insK N es p s l q S i)
structure Lm (N : Int) (es : List Ed) (p s l q : Int) (S : St) (i : Nat) (did : List Pe) (L : List Li) : Prop where
  dl : did.length = i
  dx : ∀ j (h : j < did.length), did[j].x = (dI N es p s l q S j).1
  ll : L.length = q.toNat
  lm : ∀ k (h : k < L.length), L[k].ls.map Le.ms = (List.range i).map fun j => (dI N es p s l q S j).2.1.getD k []
  ok : ∀ j, j < i → (dI N es p s l q S j).2.2 = 0
structure Lk (N : Int) (es : List Ed) (p s l q : Int) (S : St) (i k : Nat) (did : List Pe) (L : List Li) : Prop where
  dl : did.length = i + 1
  dx : ∀ j (h : j < did.length), did[j].x = (dI N es p s l q S j).1
  ll : L.length = q.toNat
  lm : ∀ j (h : j < L.length), L[j].ls.map Le.ms = ((List.range i).map fun x => (dI N es p s l q S x).2.1.getD j []) ++ if j < k then [(dI N es p s l q S i).2.1.getD j []] else []
  ok : ∀ j, j < i + 1 → (dI N es p s l q S j).2.2 = 0
theorem Lm.start : Lm N es p s l q S 0 [] (List.replicate q.toNat noLi) :=
  ⟨rfl, fun j h => absurd h (Nat.not_lt_zero _), List.length_replicate .., fun k h => by rw [List.getElem_replicate]; rfl, fun j h => absurd h (Nat.not_lt_zero _)⟩
theorem Lm.done {i : Nat} {did : List Pe} {L : List Li} (h : Lm N es p s l q S i did L) {e : Pe} (he : e.x = (dI N es p s l q S i).1) (h0 : (dI N es p s l q S i).2.2 = 0) : Lk N es p s l q S i 0 (did ++ [e]) L := by
  refine ⟨by rw [List.length_append, h.dl]; rfl, fun j hj => ?_, h.ll, fun j hj => by rw [if_neg (Nat.not_lt_zero _), List.append_nil]; exact h.lm j hj, fun j hj => ?_⟩
  · rw [List.length_append, List.length_singleton] at hj
    by_cases hl : j < did.length
    · rw [List.getElem_append_left hl]; exact h.dx j hl
    · obtain rfl : j = did.length := by omega
      rw [List.getElem_concat_length rfl, he, h.dl]
  · by_cases hl : j < i
    · exact h.ok j hl
    · obtain rfl : j = i := by omega
      exact h0
theorem Lk.put {i k : Nat} {did : List Pe} {L : List Li} (h : Lk N es p s l q S i k did L) (hk : k < L.length) {x : Le} (hx : x.ms = (dI N es p s l q S i).2.1.getD k []) (A : Option Addr) (c : Nat) : Lk N es p s l q S i (k + 1) did (L.set k ⟨A, c, L[k].ls ++ [x]⟩) := by
  refine ⟨h.dl, h.dx, by rw [List.length_set]; exact h.ll, fun j hj => ?_, h.ok⟩
  rw [List.length_set] at hj
  by_cases hjk : k = j
  · subst hjk
    rw [List.getElem_set_self, if_pos (Nat.lt_succ_self _)]
    show (L[k].ls ++ [x]).map Le.ms = _
    rw [List.map_append, h.lm k hk, if_neg (Nat.lt_irrefl _), List.append_nil]
    show _ ++ [x.ms] = _
    rw [hx]
  · rw [List.getElem_set_ne hjk, h.lm j hj]
    congr 1
    by_cases hlt : j < k
    · rw [if_pos hlt, if_pos (by omega)]
    · rw [if_neg hlt, if_neg (by omega)]
theorem Lk.all {i k : Nat} {did : List Pe} {L : List Li} (h : Lk N es p s l q S i k did L) (hk : L.length ≤ k) : Lm N es p s l q S (i + 1) did L := by
  refine ⟨h.dl, h.dx, h.ll, fun j hj => ?_, h.ok⟩
  rw [h.lm j hj, if_pos (by omega), List.range_succ, List.map_append]
  rfl
theorem lcatl_of {ls : List Le} {n : Nat} {f : Nat → List Ms} (h : ls.map Le.ms = (List.range n).map f) : lcatl ls = (List.range n).flatMap f := by
  unfold lcatl
  rw [List.flatMap_def, h, ← List.flatMap_def]
/-- What came to partition k, when all are done. -/
theorem Lm.ins {did : List Pe} {L : List Li} (h : Lm N es p s l q S q.toNat did L) (hD : Did N es p s l q S) {k : Nat} (hk : k < L.length) : lcatl L[k].ls = insK N es p s l q S k := by
  rw [lcatl_of (h.lm k hk)]
  unfold insK
  rw [List.flatMap_def, List.flatMap_def]
  congr 1
  apply List.map_congr_left
  intro j hj
  have hj := List.mem_range.1 hj
  unfold dI
  rw [hD.eq j hj]
  have hk' : k < q.toNat := by rw [← h.ll]; exact hk
  simp [List.getD_eq_getElem?_getD, List.getElem?_range hk']
theorem Lm.did_x {did : List Pe} {L : List Li} (h : Lm N es p s l q S q.toNat did L) (hD : Did N es p s l q S) {k : Nat} (hk : k < did.length) : did[k].x = doX N es p s l q (cutP N.toNat q.toNat S k) := by
  rw [h.dx k hk]
  unfold dI
  rw [hD.eq k (by rw [← h.dl]; exact hk)]
end
/-- In memory. -/
structure Lw (wb : World) (g : Nat) (DA : Option Addr) (dc : Nat) (did : List Pe) (L : List Li) (W : World) : Prop where
  mo : Mo wb g (.slice DA did.length dc) did.length (pc did) L W
  fp : ∀ e ∈ did, FxP g (.slice DA did.length dc) L W e
  fl : ∀ x ∈ L, ∀ e ∈ x.ls, FxL g (.slice DA did.length dc) L W e
section
variable {wb W W' : World} {g dc : Nat} {DA : Option Addr} {did : List Pe} {L : List Li}
theorem Lw.next (h : Lw wb g DA dc did L W) (hb : Below W.heap.size W W') : Lw wb g DA dc did L W' :=
  ⟨h.mo.next hb, fun e he => (h.fp e he).next hb, fun x hx e he => Fx.next (h.fl x hx e he) hb⟩
theorem Lw.start (wb : World) (m : Nat) (hm : m ≤ 6) : Lw wb wb.heap.size none 0 [] (List.replicate m noLi) (wb.alloc (.cells (madeCells #[.slice none 0 0] m) 65)) := by
  have hx : ∀ i (h : i < (List.replicate m noLi).length), (List.replicate m noLi)[i] = noLi := fun i h => List.getElem_replicate ..
  refine ⟨⟨below_alloc _ _, ?_, Nat.le_refl _, ⟨fun i hi => ?_, fun i j hi hj hne b hb => ?_⟩, World.ownsRow_nil _ _ _ _⟩, fun e he => (by cases he), fun x hxm e he => ?_⟩
  · rw [heap_alloc_new]
    congr 2
    apply Array.toList_inj.1
    rw [toList_madeCells_one]
    simp [licl, noLi, Li.v]
  · rw [hx]; exact World.ownsRow_nil _ _ _ _
  · rw [hx] at hb; cases hb
  · rw [(List.mem_replicate.1 hxm).2] at he; cases he
theorem Lw.app (h : Lw wb g DA dc did L W) {e : Pe} (he : FxP g (.slice DA did.length dc) L W e) {A' : Option Addr} {c' : Nat}
    (ho : W'.ownsRow wb.heap.size 64 5 (.slice A' (did.length + 1) c') (did.length + 1) (pc did ++ pc [e])) (hb : Below wb.heap.size W W') (hg : W.grownBy W' (Value.slice DA did.length dc).ownBlock)
    (hw : (Value.slice A' (did.length + 1) c').ownBlock = (Value.slice DA did.length dc).ownBlock ∨ (Value.slice A' (did.length + 1) c').ownBlock = some W.heap.size) : Lw wb g A' c' (did ++ [e]) L W' := by
  have hl : (did ++ [e]).length = did.length + 1 := by simp
  refine ⟨?_, fun x hx => ?_, fun x hx y hy => ?_⟩
  · rw [hl, pc_app]; exact h.mo.app ho hb hg
  · rw [hl]
    rcases List.mem_append.1 hx with hx | hx
    · exact (h.fp x hx).app hg hw
    · rw [List.mem_singleton] at hx; subst hx; exact he.app hg hw
  · rw [hl]; exact Fx.app (h.fl x hx y hy) hg hw
theorem Lw.put (h : Lw wb g DA dc did L W) (k : Nat) (hk : k < L.length) {x : Le} (hx : FxL g (.slice DA did.length dc) L W x) {n : Nat} (hn : n = L[k].ls.length + 1) {A' : Option Addr} {c' : Nat}
    (ho : W'.ownsRow wb.heap.size 37 1 (.slice A' n c') n (lcl L[k].ls ++ lcl [x])) (hb : Below wb.heap.size W W') (hg : W.grownBy W' L[k].v.ownBlock)
    (hw : (Value.slice A' n c').ownBlock = L[k].v.ownBlock ∨ (Value.slice A' n c').ownBlock = some W.heap.size) :
    Lw wb g DA dc did (L.set k ⟨A', c', L[k].ls ++ [x]⟩) (W'.setCell ⟨g, k, none⟩ (.slice A' n c')) ∧ W'.cell? ⟨g, k, none⟩ = some L[k].v ∧ W'.frozen? ⟨g, k, none⟩ = false := by
  have hl : (L[k].ls ++ [x]).length = n := by rw [hn, List.length_append]; rfl
  have hv : (⟨A', c', L[k].ls ++ [x]⟩ : Li).v = .slice A' n c' := by unfold Li.v; dsimp only; rw [hl]
  have hm := h.mo.put k hk ⟨A', c', L[k].ls ++ [x]⟩ (by rw [hv]; dsimp only; rw [hl, lcl_app]; exact ho) hb hg (by rw [hv]; exact hw)
  have fpx : ∀ e, FxP g (.slice DA did.length dc) L W e → FxP g (.slice DA did.length dc) (L.set k ⟨A', c', L[k].ls ++ [x]⟩) (W'.setCell ⟨g, k, none⟩ (.slice A' n c')) e := fun e he => by
    have := he.put k hk ⟨A', c', L[k].ls ++ [x]⟩ hg (by rw [hv]; exact hw)
    rw [hv] at this; exact this
  have flx : ∀ e, FxL g (.slice DA did.length dc) L W e → FxL g (.slice DA did.length dc) (L.set k ⟨A', c', L[k].ls ++ [x]⟩) (W'.setCell ⟨g, k, none⟩ (.slice A' n c')) e := fun e he => by
    have := Fx.put he k hk ⟨A', c', L[k].ls ++ [x]⟩ hg (by rw [hv]; exact hw)
    rw [hv] at this; exact this
  rw [hv] at hm
  refine ⟨⟨hm.1, fun e he => fpx e (h.fp e he), fun y hy e he => ?_⟩, hm.2⟩
  rcases List.mem_or_eq_of_mem_set hy with hy | rfl
  · exact flx e (h.fl y hy e he)
  · rcases List.mem_append.1 he with he | he
    · exact flx e (h.fl _ (List.getElem_mem hk) e he)
    · rw [List.mem_singleton] at he; subst he; exact flx e hx
theorem Fx.putw {s n m : Nat} {A : Option Addr} {xs : List Value} {D : Value} (f : Fx g D L W s m A xs) (k : Nat) (hk : k < L.length) {x : Le} (hn : n = L[k].ls.length + 1) {A' : Option Addr} {c' : Nat} (hg : W.grownBy W' L[k].v.ownBlock)
    (hw : (Value.slice A' n c').ownBlock = L[k].v.ownBlock ∨ (Value.slice A' n c').ownBlock = some W.heap.size) : Fx g D (L.set k ⟨A', c', L[k].ls ++ [x]⟩) (W'.setCell ⟨g, k, none⟩ (.slice A' n c')) s m A xs := by
  have hl : (L[k].ls ++ [x]).length = n := by rw [hn, List.length_append]; rfl
  have hv : (⟨A', c', L[k].ls ++ [x]⟩ : Li).v = .slice A' n c' := by unfold Li.v; dsimp only; rw [hl]
  have := Fx.put f k hk ⟨A', c', L[k].ls ++ [x]⟩ hg (by rw [hv]; exact hw)
  rw [hv] at this; exact this
theorem Lw.row (h : Lw wb g DA dc did L W) (k : Nat) (hk : k < L.length) : W.ownsRow wb.heap.size 37 1 (.slice L[k].A L[k].ls.length L[k].c) L[k].ls.length (lcl L[k].ls) := h.mo.rw8.1 k hk
theorem Lw.lls (h : Lw wb g DA dc did L W) (k : Nat) (hk : k < L.length) : Lls W W.heap.size L[k].A L[k].c L[k].ls :=
  ⟨Lies.of_own (h.row k hk), own_cap (h.row k hk), fun e he => (h.fl _ (List.getElem_mem hk) e he).1⟩
theorem Lw.pls (h : Lw wb g DA dc did L W) : Pls W W.heap.size DA dc did :=
  ⟨Lies.of_own h.mo.did, own_cap h.mo.did, fun e he => (h.fp e he).st⟩
theorem Lw.cell (h : Lw wb g DA dc did L W) (k : Nat) (hk : k < L.length) : W.cell? ⟨g, k, none⟩ = some (.slice L[k].A L[k].ls.length L[k].c) := h.mo.cell k hk
end
/-- What Do answered, beside what is kept. -/
structure Lo (g : Nat) (D : Value) (L : List Li) (DO : Option Addr) (os : List Le) (W : World) : Prop where
  row : Fx g D L W 1 os.length DO (lcl os)
  el : ∀ e ∈ os, FxL g D L W e
end Go.Proofs.YtpgdddjjjfkneaaGreatDoor

