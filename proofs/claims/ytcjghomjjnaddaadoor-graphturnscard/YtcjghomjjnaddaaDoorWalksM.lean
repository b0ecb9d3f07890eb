/-
  The contract of readEdge: a line of an edge is read, and the edge put to its place. Conditions: the edges so far rise, at most 80; the line has at most 4000 bytes.
-/
import Derived.Test.YtcjghomjjnaddaaDoorWalksL
namespace Go.Proofs.YtcjghomjjnaddaaDoor
open Go.RowKit
set_option linter.unusedVariables false

/-- An edge put to its place among rising ones. -/
def insE : List Ed → Ed → List Ed
  | [], e => [e]
  | x :: r, e => if ltE x e then x :: insE r e else e :: x :: r
def hasE (es : List Ed) (e : Ed) : Bool := es.any fun x => x.1 == e.1 && x.2.1 == e.2.1

theorem eAt_cons (x : Ed) (r : List Ed) (k : Nat) : eAt (x :: r) (k + 1) = eAt r k := by simp [eAt]
theorem eAt_zero (x : Ed) (r : List Ed) : eAt (x :: r) 0 = x := by simp [eAt]

theorem put_ins : ∀ (es : List Ed) (e : Ed) (p : Nat), Place es e p p → putAt es p e = insE es e
  | [], e, p, h => by
    obtain ⟨_, h2, _, _⟩ := h
    have : p = 0 := by simpa using h2
    subst this; rfl
  | x :: r, e, 0, h => by
    have := h.2.2.2 0 (Nat.le_refl _) (by simp)
    rw [eAt_zero] at this
    unfold putAt insE
    rw [if_neg this]; rfl
  | x :: r, e, p + 1, h => by
    obtain ⟨_, h2, h3, h4⟩ := h
    have hx := h3 0 (by omega)
    rw [eAt_zero] at hx
    unfold insE
    rw [if_pos hx, ← put_ins r e p ⟨Nat.le_refl _, by simpa using h2, fun k hk => by have := h3 (k + 1) (by omega); rwa [eAt_cons] at this, fun k hk hk2 => by have := h4 (k + 1) (by omega) (by simpa using hk2); rwa [eAt_cons] at this⟩]
    rfl

theorem has_iff {es : List Ed} {e : Ed} {p : Nat} (hr : Rises es) (hp : Place es e p p) : hasE es e = true ↔ p < es.length ∧ keyE (eAt es p) e := by
  unfold hasE
  rw [List.any_eq_true]
  constructor
  · rintro ⟨x, hx, hk⟩
    obtain ⟨k, hkl, rfl⟩ := List.mem_iff_getElem.1 hx
    have hk' : keyE (eAt es k) e := by
      simp only [Bool.and_eq_true, beq_iff_eq] at hk
      have : eAt es k = es[k] := by simp [eAt, hkl]
      rw [this]; exact hk
    obtain ⟨_, h2, h3, h4⟩ := hp
    have hkp : p ≤ k := by
      rcases Nat.lt_or_ge k p with h | h
      · have := h3 k h
        unfold ltE at this; unfold keyE at hk'; omega
      · exact h
    have hpk : k = p := by
      rcases Nat.lt_or_ge p k with h | h
      · have h5 := hr p k h hkl
        have h6 := h4 p (Nat.le_refl _) (by omega)
        unfold ltE at h5 h6; unfold keyE at hk'; omega
      · omega
    subst hpk
    exact ⟨hkl, hk'⟩
  · rintro ⟨h1, h2⟩
    have : eAt es p = es[p] := by simp [eAt, h1]
    refine ⟨es[p], List.getElem_mem h1, ?_⟩
    rw [this] at h2
    simp only [Bool.and_eq_true, beq_iff_eq]
    exact h2

/-- A line of an edge: the error, and the edges then. -/
def readE (N : Int) (es : List Ed) (l : List UInt8) : Int × List Ed :=
  match edgeNums l with
  | none => (2, es)
  | some e => if 80 ≤ es.length then (3, es) else if edge1 N e.1 e.2.1 e.2.2 = 0 then (if hasE es e then (5, es) else (0, insE es e)) else (edge1 N e.1 e.2.1 e.2.2, es)

def RePost (base : Nat) (N : Int) (q : Int × List Ed) (w : World) (r : Ending) (w' : World) : Prop :=
  Below base w w' ∧ ∃ A' c', r = .returned (.tuple #[.agg #[.int .i64 N, .slice A' q.2.length c'], .int .i64 q.1]) ∧ w'.ownsRow base 42 3 (.slice A' q.2.length c') q.2.length (ec q.2)

theorem own_set {w : World} {base s n : Nat} {e : TypeId} {v : Value} {xs : List Value} (h : w.ownsRow base e s v n xs) (b k : Nat) (u : Value) (hne : v.ownBlock ≠ some b) : (w.setCell ⟨b, k, none⟩ u).ownsRow base e s v n xs :=
  h.kept (row := some b) ⟨rfl, rfl, rfl, by simp [World.setCell], fun i hi hn => Below.heap_setCell w ⟨b, k, none⟩ u i (fun e => hn (by rw [e]))⟩ (.inr hne)

theorem own_blk_ne {w : World} {base : Nat} {e t : TypeId} {size n g : Nat} {v : Value} {xs : List Value} {cs : Array Value} (h : w.ownsRow base e size v n xs) (hg : w.heap[g]? = some (.cells cs t (0, 0))) (hne : e ≠ t) : v.ownBlock ≠ some g := by
  rcases h.2 with ⟨rfl, _⟩ | ⟨g', cap, cur, rfl, _, hh, _⟩
  · simp [Value.ownBlock]
  · intro he
    have : g' = g := by simpa [Value.ownBlock] using he
    subst this
    rw [hg] at hh
    injection hh with hh
    injection hh with _ ht
    exact hne ht.symm

theorem bcell {W w1 : World} (hb : Below W.heap.size W w1) : (∀ b o, b < W.heap.size → w1.cell? ⟨b, o, none⟩ = W.cell? ⟨b, o, none⟩) ∧ (∀ b o, b < W.heap.size → w1.frozen? ⟨b, o, none⟩ = W.frozen? ⟨b, o, none⟩) :=
  ⟨fun b o h => hb.cell (p := ⟨b, o, none⟩) h, fun b o h => hb.frozen (p := ⟨b, o, none⟩) h⟩

set_option maxHeartbeats 1000000 in
set_option maxRecDepth 100000 in
theorem readEdge_any (base : Nat) (N : Int) (A : Option Addr) (n c : Nat) (es : List Ed) (s : ByteArray) (w : World) (hown : w.ownsRow base 42 3 (.slice A n c) n (ec es)) (hbase : base ≤ w.heap.size) (hr : Rises es) (hn : n ≤ 80) (hs : s.size ≤ 4000) :
    Calls Tryd.prog 28 #[.agg #[.int .i64 N, .slice A n c], .string s] w (RePost base N (readE N es s.data.toList) w) := by
  have hes : es.length = n := by have := hown.1; rw [ec_length] at this; omega
  subst hes
  have HR : Hid (readE N es s.data.toList = _) := Lib.hid (by unfold readE; rfl)
  obtain ⟨w0, hw0⟩ : ∃ w0, w0 = (w.alloc (.cells #[.int .i64 N, .slice A es.length c] 24)).alloc (.cells #[.int .i64 0, .slice none 0 0] 24) := ⟨_, rfl⟩
  have hb0 : Below w.heap.size w w0 := by rw [hw0]; exact ((Below.refl _ _).alloc (Nat.le_refl _) _).alloc (by simp) _
  have hz0 : w0.heap.size = w.heap.size + 2 := by rw [hw0]; simp
  have k0 : w0.cell? ⟨w.heap.size, 0, none⟩ = some (.int .i64 N) := by rw [hw0]; simp [go_sem]
  have k1 : w0.cell? ⟨w.heap.size, 1, none⟩ = some (.slice A es.length c) := by rw [hw0]; simp [go_sem]
  have k2 : w0.cell? ⟨w.heap.size + 1, 0, none⟩ = some (.int .i64 0) := by rw [hw0]; simp [go_sem]
  have k3 : w0.cell? ⟨w.heap.size + 1, 1, none⟩ = some (.slice none 0 0) := by rw [hw0]; simp [go_sem]
  have k4 : ∀ o, w0.frozen? ⟨w.heap.size + 1, o, none⟩ = false := fun o => by rw [hw0]; simp [go_sem]
  have q0 : w0.heap[w.heap.size]? = some (.cells #[.int .i64 N, .slice A es.length c] 24 (0, 0)) := by rw [hw0]; exact (Below.heap_alloc _ _ _ (by simp)).trans (heap_alloc_new w _)
  have q1 : w0.heap[w.heap.size + 1]? = some (.cells #[.int .i64 0, .slice none 0 0] 24 (0, 0)) := by rw [hw0]; have := heap_alloc_new (w.alloc (.cells #[.int .i64 N, .slice A es.length c] 24)) (.cells #[.int .i64 0, .slice none 0 0] 24); simpa using this
  have k5 : w0.frozen? ⟨w.heap.size, 1, none⟩ = false := by rw [hw0]; simp [go_sem]
  go_enter Tryd.func28, Tryd.ntmps28
  go_wp2_with fail
  rw [← hw0]
  refine (edgeNumbers_any s _ hs).mono ?_
  rintro r w1 ⟨hb1, hcase⟩
  have hz1 : w.heap.size + 2 ≤ w1.heap.size := by have := hb1.size; omega
  have c0 : w1.cell? ⟨w.heap.size, 0, none⟩ = some (.int .i64 N) := (hb1.cell (p := ⟨w.heap.size, 0, none⟩) (by show w.heap.size < _; omega)).trans k0
  have c1 : w1.cell? ⟨w.heap.size, 1, none⟩ = some (.slice A es.length c) := (hb1.cell (p := ⟨w.heap.size, 1, none⟩) (by show w.heap.size < _; omega)).trans k1
  have c2 : w1.cell? ⟨w.heap.size + 1, 0, none⟩ = some (.int .i64 0) := (hb1.cell (p := ⟨w.heap.size + 1, 0, none⟩) (by show w.heap.size + 1 < _; omega)).trans k2
  have c3 : w1.cell? ⟨w.heap.size + 1, 1, none⟩ = some (.slice none 0 0) := (hb1.cell (p := ⟨w.heap.size + 1, 1, none⟩) (by show w.heap.size + 1 < _; omega)).trans k3
  have c4 : w1.frozen? ⟨w.heap.size + 1, 0, none⟩ = false := (hb1.frozen (p := ⟨w.heap.size + 1, 0, none⟩) (by show w.heap.size + 1 < _; omega)).trans (k4 0)
  have c6 : w1.frozen? ⟨w.heap.size, 1, none⟩ = false := (hb1.frozen (p := ⟨w.heap.size, 1, none⟩) (by show w.heap.size < _; omega)).trans k5
  have c5 : w1.frozen? ⟨w.heap.size + 1, 1, none⟩ = false := (hb1.frozen (p := ⟨w.heap.size + 1, 1, none⟩) (by show w.heap.size + 1 < _; omega)).trans (k4 1)
  have Q0 := Lib.hid ((hb1.block w.heap.size (by omega)).trans q0)
  have Q1 := Lib.hid ((hb1.block (w.heap.size + 1) (by omega)).trans q1)
  clear q0 q1
  have hb01 : Below w.heap.size w w1 := hb0.trans (hb1.mono (by omega))
  clear k0 k1 k2 k3 k4 k5 hb1 hb0 hz0
  clear hw0
  have al : ∀ (W : World) (o : Obj) (b k : Nat), b < W.heap.size → (W.alloc o).cell? ⟨b, k, none⟩ = W.cell? ⟨b, k, none⟩ := fun W o b k h => World.cell?_alloc_lt W o ⟨b, k, none⟩ h
  have fl : ∀ (W : World) (o : Obj) (b k : Nat), b < W.heap.size → (W.alloc o).frozen? ⟨b, k, none⟩ = W.frozen? ⟨b, k, none⟩ := fun W o b k h => (below_alloc W o).frozen (p := ⟨b, k, none⟩) h
  have l0 : w.heap.size < w1.heap.size := by omega
  have l1 : w.heap.size + 1 < w1.heap.size := by omega
  have fin : ∀ (W : World) (q : Int), Below w.heap.size w W → RePost base N (q, es) w (.returned (.tuple #[.agg #[.int .i64 N, .slice A es.length c], .int .i64 q])) W := fun W q hb => ⟨hb.mono hbase, A, c, rfl, own_next hown hb⟩
  have FIN := Lib.hid fin
  have HOWN := Lib.hid hown
  have HRI := Lib.hid hr
  clear fin hown hr
  rcases hcase with ⟨x, y, z, he, rfl⟩ | ⟨x, y, z, he, rfl⟩
  · have HE := Lib.hid (show readE N es s.data.toList = if 80 ≤ es.length then (3, es) else if edge1 N x y z = 0 then (if hasE es (x, y, z) then (5, es) else (0, insE es (x, y, z))) else (edge1 N x y z, es) by rw [HR.out, he])
    clear he HR
    by_cases h80 : 80 ≤ es.length
    · have H1 := Lib.hid (show readE N es s.data.toList = (3, es) by rw [HE.out, if_pos h80])
      clear HE
      go_wp2_with fail
      exact bodyPost_ret (v := .tuple #[.agg #[.int .i64 N, .slice A es.length c], .int .i64 3]) (by simp [results, Tryd.results28, go_sem, c2, c3, al, l1]) rfl (by rw [H1.out]; exact FIN.out _ 3 (((hb01.setCell (p := ⟨w.heap.size + 1, 0, none⟩) (by simp) _).setCell (p := ⟨w.heap.size + 1, 1, none⟩) (by simp) _).alloc (by simp; omega) _))
    by_cases hx : edge1 N x y z = 0
    · have HE2 := Lib.hid (show readE N es s.data.toList = if hasE es (x, y, z) then (5, es) else (0, insE es (x, y, z)) by rw [HE.out, if_neg h80, if_pos hx])
      have HX := Lib.hid hx
      clear HE hx
      go_wp2_with fail
      refine (checkEdge_any _ _ _ _ _).mono ?_
      rintro e w' ⟨rfl, rfl⟩
      rw [HX.out]
      go_wp2_with fail
      obtain ⟨w2, hw2⟩ : ∃ w2, w2 = (w1.alloc (.cells #[.int .i64 x, .int .i64 y, .int .i64 z] 70)).alloc (.cells #[.int .i64 x, .int .i64 y, .int .i64 z] 42) := ⟨_, rfl⟩
      have hb02 : Below w.heap.size w w2 := by rw [hw2]; exact (hb01.alloc (by omega) _).alloc (by simp; omega) _
      have hb12 : Below w1.heap.size w1 w2 := by rw [hw2]; exact ((Below.refl _ _).alloc (Nat.le_refl _) _).alloc (by simp) _
      have hz2 : w1.heap.size + 2 = w2.heap.size := by rw [hw2]; simp
      have e0 : w2.cell? ⟨w1.heap.size + 1, 0, none⟩ = some (.int .i64 x) := by rw [hw2]; simp [go_sem]
      have e1 : w2.cell? ⟨w1.heap.size + 1, 1, none⟩ = some (.int .i64 y) := by rw [hw2]; simp [go_sem]
      have e2 : w2.cell? ⟨w1.heap.size + 1, 2, none⟩ = some (.int .i64 z) := by rw [hw2]; simp [go_sem]
      rw [← hw2]
      clear hw2
      have hA := Lies.of_own (own_next HOWN.out hb02)
      refine (search_any A es.length c es (x, y, z) w2 hA (own_cap HOWN.out) hn HRI.out).mono ?_
      rintro r w3 ⟨hb23, p, hp, hcase⟩
      have hb03 : Below w.heap.size w w3 := hb02.trans (hb23.mono hb02.size)
      have hb13 : Below w1.heap.size w1 w3 := hb12.trans (hb23.mono hb12.size)
      have hz3 : w1.heap.size + 2 ≤ w3.heap.size := by have := hb23.size; omega
      have d0 : w3.cell? ⟨w.heap.size, 0, none⟩ = some (.int .i64 N) := (hb13.cell (p := ⟨w.heap.size, 0, none⟩) l0).trans c0
      have d1 : w3.cell? ⟨w.heap.size, 1, none⟩ = some (.slice A es.length c) := (hb13.cell (p := ⟨w.heap.size, 1, none⟩) l0).trans c1
      have d2 : w3.cell? ⟨w.heap.size + 1, 0, none⟩ = some (.int .i64 0) := (hb13.cell (p := ⟨w.heap.size + 1, 0, none⟩) l1).trans c2
      have d3 : w3.cell? ⟨w.heap.size + 1, 1, none⟩ = some (.slice none 0 0) := (hb13.cell (p := ⟨w.heap.size + 1, 1, none⟩) l1).trans c3
      have d4 : w3.frozen? ⟨w.heap.size + 1, 0, none⟩ = false := (hb13.frozen (p := ⟨w.heap.size + 1, 0, none⟩) l1).trans c4
      have d5 : w3.frozen? ⟨w.heap.size + 1, 1, none⟩ = false := (hb13.frozen (p := ⟨w.heap.size + 1, 1, none⟩) l1).trans c5
      have d6 : w3.frozen? ⟨w.heap.size, 1, none⟩ = false := (hb13.frozen (p := ⟨w.heap.size, 1, none⟩) l0).trans c6
      have g0 : w3.cell? ⟨w1.heap.size + 1, 0, none⟩ = some (.int .i64 x) := (hb23.cell (p := ⟨w1.heap.size + 1, 0, none⟩) (by show w1.heap.size + 1 < _; omega)).trans e0
      have g1 : w3.cell? ⟨w1.heap.size + 1, 1, none⟩ = some (.int .i64 y) := (hb23.cell (p := ⟨w1.heap.size + 1, 1, none⟩) (by show w1.heap.size + 1 < _; omega)).trans e1
      have g2 : w3.cell? ⟨w1.heap.size + 1, 2, none⟩ = some (.int .i64 z) := (hb23.cell (p := ⟨w1.heap.size + 1, 2, none⟩) (by show w1.heap.size + 1 < _; omega)).trans e2
      have R0 := Lib.hid ((hb13.block w.heap.size l0).trans Q0.out)
      have R1 := Lib.hid ((hb13.block (w.heap.size + 1) l1).trans Q1.out)
      have m0 : w.heap.size < w3.heap.size := by omega
      have m1 : w.heap.size + 1 < w3.heap.size := by omega
      have hH := has_iff HRI.out hp
      have HP := Lib.hid hp
      clear c0 c1 c2 c3 c4 c5 c6 e0 e1 e2 hb23 hb12 hb13 hb02 hA hp hz2
      rcases hcase with ⟨rfl, hlt, hk⟩ | ⟨rfl, hk⟩
      · have H1 := Lib.hid (show readE N es s.data.toList = (5, es) by rw [HE2.out, if_pos (hH.2 ⟨hlt, hk⟩)])
        clear HE2 hH hk
        go_wp2_with fail
        exact bodyPost_ret (v := .tuple #[.agg #[.int .i64 N, .slice A es.length c], .int .i64 5]) (by simp [results, Tryd.results28, go_sem, d2, d3]) rfl (by rw [H1.out]; exact FIN.out _ 5 ((hb03.setCell (p := ⟨w.heap.size + 1, 0, none⟩) (by simp) _).setCell (p := ⟨w.heap.size + 1, 1, none⟩) (by simp) _))
      · have H1 := Lib.hid (show readE N es s.data.toList = (0, putAt es p (x, y, z)) by
          rw [HE2.out, if_neg (fun h => hk (hH.1 h).1 (hH.1 h).2), put_ins es _ p HP.out])
        have hpl : p ≤ es.length := HP.out.2.1
        clear HE2 hH hk
        go_wp2_with fail
        obtain ⟨w4, hw4⟩ : ∃ w4, w4 = w3.alloc (.cells #[.int .i64 x, .int .i64 y, .int .i64 z] 42) := ⟨_, rfl⟩
        have hb04 : Below w.heap.size w w4 := by rw [hw4]; exact hb03.alloc (by omega) _
        have hv : w4.heap[w3.heap.size]? = some (.cells #[.int .i64 x, .int .i64 y, .int .i64 z] 42 (0, 0)) := by rw [hw4]; exact heap_alloc_new w3 _
        have hb34 : Below w3.heap.size w3 w4 := by rw [hw4]; exact below_alloc _ _
        have hz4 : w3.heap.size + 1 = w4.heap.size := by rw [hw4]; simp
        rw [← hw4]
        clear hw4
        have hown4 := own_next HOWN.out hb04
        have hlt4 := HOWN.out.lt
        refine (insert_any base A es.length c p w3.heap.size es (x, y, z) w4 hown4 (by omega) hv (fun ad h => by
          have := (hlt4 ad.block (by rw [h]; rfl)).2
          omega) hpl hn).mono ?_
        rintro r w5 ⟨hgr, A', c', rfl, ho5⟩
        have bH : w5.heap[w.heap.size]? = w3.heap[w.heap.size]? := (hgr.block w.heap.size (by omega) (fun h => by have := (hlt4 w.heap.size h.symm).2; omega)).trans (hb34.block _ m0)
        have bH1 : w5.heap[w.heap.size + 1]? = w3.heap[w.heap.size + 1]? := (hgr.block (w.heap.size + 1) (by omega) (fun h => by have := (hlt4 (w.heap.size + 1) h.symm).2; omega)).trans (hb34.block _ m1)
        have f0 : w5.cell? ⟨w.heap.size, 0, none⟩ = some (.int .i64 N) := (World.cell?_of_block bH).trans d0
        have f1 : w5.cell? ⟨w.heap.size, 1, none⟩ = some (.slice A es.length c) := (World.cell?_of_block bH).trans d1
        have f2 : w5.cell? ⟨w.heap.size + 1, 0, none⟩ = some (.int .i64 0) := (World.cell?_of_block bH1).trans d2
        have f3 : w5.cell? ⟨w.heap.size + 1, 1, none⟩ = some (.slice none 0 0) := (World.cell?_of_block bH1).trans d3
        have f4 : w5.frozen? ⟨w.heap.size + 1, 0, none⟩ = false := by rw [← d4]; simp only [World.frozen?, bH1]
        have f5 : w5.frozen? ⟨w.heap.size + 1, 1, none⟩ = false := by rw [← d5]; simp only [World.frozen?, bH1]
        have f6 : w5.frozen? ⟨w.heap.size, 1, none⟩ = false := by rw [← d6]; simp only [World.frozen?, bH]
        have hb5 : Below base w w5 := (hb04.mono hbase).grown hgr (by omega) (fun k hk => (hlt4 k hk).1)
        have hz5 : w.heap.size + 2 ≤ w5.heap.size := by have := hgr.size; omega
        have HO5 := Lib.hid ho5
        have HN0 := Lib.hid (own_blk_ne ho5 (bH.trans R0.out) (by decide))
        have HN1 := Lib.hid (own_blk_ne ho5 (bH1.trans R1.out) (by decide))
        have n1 : w.heap.size < w5.heap.size := by omega
        have n2 : w.heap.size + 1 < w5.heap.size := by omega
        clear d0 d1 d2 d3 d4 d5 d6 g0 g1 g2 bH bH1 hgr ho5 hown4 hv hb34 hb03 hb04 hlt4
        go_wp2_with fail
        exact bodyPost_ret (v := .tuple #[.agg #[.int .i64 N, .slice A' (putAt es p (x, y, z)).length c'], .int .i64 0]) (by simp [results, Tryd.results28, go_sem, f2, f3]) rfl (by
          rw [H1.out]
          refine ⟨((hb5.setCell (p := ⟨w.heap.size, 1, none⟩) hbase _).setCell (p := ⟨w.heap.size + 1, 0, none⟩) (by show base ≤ w.heap.size + 1; omega) _).setCell (p := ⟨w.heap.size + 1, 1, none⟩) (by show base ≤ w.heap.size + 1; omega) _, A', c', rfl, ?_⟩
          exact own_set (own_set (own_set HO5.out _ _ _ HN0.out) _ _ _ HN1.out) _ _ _ HN1.out)
    · have H1 := Lib.hid (show readE N es s.data.toList = (edge1 N x y z, es) by rw [HE.out, if_neg h80, if_neg hx])
      have hx1 : (edge1 N x y z != 0) = true := by simpa using hx
      clear HE hx
      go_wp2_with fail
      refine (checkEdge_any _ _ _ _ _).mono ?_
      rintro e w' ⟨rfl, rfl⟩
      go_wp2_with fail
      exact bodyPost_ret (v := .tuple #[.agg #[.int .i64 N, .slice A es.length c], .int .i64 (edge1 N x y z)]) (by simp [results, Tryd.results28, go_sem, c2, c3, al, l1]) rfl (by rw [H1.out]; exact FIN.out _ _ (((hb01.setCell (p := ⟨w.heap.size + 1, 0, none⟩) (by simp) _).setCell (p := ⟨w.heap.size + 1, 1, none⟩) (by simp) _).alloc (by simp; omega) _))
  · have H1 := Lib.hid (show readE N es s.data.toList = (2, es) by rw [HR.out, he])
    clear he HR
    go_wp2_with fail
    exact bodyPost_ret (v := .tuple #[.agg #[.int .i64 N, .slice A es.length c], .int .i64 2]) (by simp [results, Tryd.results28, go_sem, c2, c3, al, l1]) rfl (by rw [H1.out]; exact FIN.out _ 2 (((hb01.setCell (p := ⟨w.heap.size + 1, 0, none⟩) (by simp) _).setCell (p := ⟨w.heap.size + 1, 1, none⟩) (by simp) _).alloc (by simp; omega) _))
end Go.Proofs.YtcjghomjjnaddaaDoor
