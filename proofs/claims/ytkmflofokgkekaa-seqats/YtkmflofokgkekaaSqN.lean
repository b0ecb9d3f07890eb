/-
  Words for a list of states in memory, which grows. No condition.
-/
import Derived.Test.YtkmflofokgkekaaSqI
namespace Go.Proofs.Ytkmflofokgkekaa
open Go.RowKit
set_option linter.unusedVariables false

/-- A state, and where its lists lie. -/
structure Se where
  S : St
  A1 : Option Addr
  c1 : Nat
  A2 : Option Addr
  c2 : Nat
  A3 : Option Addr
  c3 : Nat
def Se.cells (e : Se) : List Value := [.int .i64 e.S.step, .slice e.A1 e.S.vals.length e.c1, .slice e.A2 e.S.rest.length e.c2, .slice e.A3 e.S.inn.length e.c3]
def sc (ls : List Se) : List Value := ls.flatMap Se.cells
theorem sc_len (ls : List Se) : (sc ls).length = ls.length * 4 := by
  unfold sc
  induction ls with
  | nil => rfl
  | cons e r ih => simp only [List.flatMap_cons, List.length_append, ih, List.length_cons]; simp [Se.cells]; omega
theorem sc_app (a b : List Se) : sc (a ++ b) = sc a ++ sc b := by unfold sc; simp
theorem sc_one (ls : List Se) : ∀ u ∈ sc ls, u.oneCell' = true := by
  intro u hu
  unfold sc at hu
  obtain ⟨e, _, he⟩ := List.mem_flatMap.1 hu
  simp [Se.cells] at he
  rcases he with rfl | rfl | rfl | rfl <;> rfl
theorem sc_at (ls : List Se) (k : Nat) (h : k < ls.length) : (sc ls)[k * 4]? = some (.int .i64 ls[k].S.step) ∧ (sc ls)[k * 4 + 1]? = some (.slice ls[k].A1 ls[k].S.vals.length ls[k].c1) ∧ (sc ls)[k * 4 + 2]? = some (.slice ls[k].A2 ls[k].S.rest.length ls[k].c2) ∧ (sc ls)[k * 4 + 3]? = some (.slice ls[k].A3 ls[k].S.inn.length ls[k].c3) := by
  induction ls generalizing k with
  | nil => simp at h
  | cons e r ih =>
    cases k with
    | zero => simp [sc, Se.cells]
    | succ k =>
      have := ih k (by simpa using h)
      have e0 : (k + 1) * 4 = k * 4 + 4 := by omega
      have e1 : k * 4 + 4 + 1 = k * 4 + 1 + 4 := by omega
      have e2 : k * 4 + 4 + 2 = k * 4 + 2 + 4 := by omega
      have e3 : k * 4 + 4 + 3 = k * 4 + 3 + 4 := by omega
      rw [e0, e1, e2, e3]
      exact this
/-- The cells of a state in a list. -/
theorem Lies.se {w : World} {B : Nat} {A : Option Addr} {ls : List Se} (h : Lies w B 4 A ls.length (sc ls)) (k : Nat) (hk : k < ls.length) :
    ∃ ad, A = some ad ∧ ad.block < B ∧ w.cell? (ad.add (k * 4)) = some (.int .i64 ls[k].S.step) ∧ w.cell? ⟨(ad.add (k * 4)).block, (ad.add (k * 4)).off + 1, none⟩ = some (.slice ls[k].A1 ls[k].S.vals.length ls[k].c1) ∧
      w.cell? ⟨(ad.add (k * 4)).block, (ad.add (k * 4)).off + 2, none⟩ = some (.slice ls[k].A2 ls[k].S.rest.length ls[k].c2) ∧ w.cell? ⟨(ad.add (k * 4)).block, (ad.add (k * 4)).off + 3, none⟩ = some (.slice ls[k].A3 ls[k].S.inn.length ls[k].c3) := by
  obtain ⟨a0, a1, a2, a3⟩ := sc_at ls k hk
  obtain ⟨ad, e, hb, c0⟩ := h.2 _ _ a0
  obtain ⟨ad1, e1, _, c1⟩ := h.2 _ _ a1
  obtain ⟨ad2, e2, _, c2⟩ := h.2 _ _ a2
  obtain ⟨ad3, e3, _, c3⟩ := h.2 _ _ a3
  rw [e] at e1 e2 e3
  injection e1 with e1
  injection e2 with e2
  injection e3 with e3
  subst e1 e2 e3
  rw [← add_add] at c1 c2 c3
  exact ⟨ad, e, hb, c0, c1, c2, c3⟩

theorem Lies.grown {w w' : World} {s n g : Nat} {A : Option Addr} {xs : List Value} (h : Lies w w.heap.size s A n xs) (hg : w.grownBy w' (some g)) (hb : Nbl g A xs) : Lies w' w'.heap.size s A n xs :=
  ⟨h.1, fun j v hj => by
    obtain ⟨ad, e, hB, hc⟩ := h.2 j v hj
    refine ⟨ad, e, Nat.lt_of_lt_of_le hB hg.size, ?_⟩
    rw [← hc]
    rcases hb with rfl | hb
    · simp at hj
    · exact World.cell?_of_block (w := w) (hg.block _ (by rw [block_add]; exact hB) (by rw [block_add]; intro e2; exact hb ad e (by injection e2)))⟩
theorem StL.grown {w w' : World} {S : St} {A1 : Option Addr} {c1 : Nat} {A2 : Option Addr} {c2 : Nat} {A3 : Option Addr} {c3 : Nat} {g : Nat} (h : StL w w.heap.size S A1 c1 A2 c2 A3 c3) (hg : w.grownBy w' (some g)) (h1 : Nbl g A1 (vc S.vals)) (h2 : Nbl g A2 (rc S.rest)) (h3 : Nbl g A3 (mc S.inn)) :
    StL w' w'.heap.size S A1 c1 A2 c2 A3 c3 := ⟨h.v.grown hg h1, h.r.grown hg h2, h.m.grown hg h3, h.cv, h.cr, h.cm, h.ok⟩

/-- A state of the list: it lies in memory of the call's own, not in the list's block. -/
structure Sei (b g : Nat) (e : Se) (W : World) : Prop where
  st : StL W W.heap.size e.S e.A1 e.c1 e.A2 e.c2 e.A3 e.c3
  f1 : Fr b e.A1
  f2 : Fr b e.A2
  f3 : Fr b e.A3
  n1 : Nbl g e.A1 (vc e.S.vals)
  n2 : Nbl g e.A2 (rc e.S.rest)
  n3 : Nbl g e.A3 (mc e.S.inn)
structure Sls (wb : World) (g c : Nat) (ls : List Se) (W : World) : Prop where
  bl : Below wb.heap.size wb W
  own : W.ownsRow wb.heap.size 31 4 (.slice (some ⟨g, 0, none⟩) ls.length c) ls.length (sc ls)
  el : ∀ e ∈ ls, Sei wb.heap.size g e W
section
variable {wb : World} {g c : Nat} {ls : List Se} {W W' : World}
theorem Sls.next (h : Sls wb g c ls W) (hb : Below W.heap.size W W') : Sls wb g c ls W' :=
  ⟨h.bl.trans (hb.mono h.bl.size), own_next h.own hb, fun e he => by
    have := h.el e he
    exact ⟨this.st.next hb, this.f1, this.f2, this.f3, this.n1, this.n2, this.n3⟩⟩
theorem Sls.app (h : Sls wb g c ls W) {e : Se} (he : Sei wb.heap.size g e W) {A' : Option Addr} {c' : Nat} (ho : W'.ownsRow wb.heap.size 31 4 (.slice A' (ls.length + 1) c') (ls.length + 1) (sc ls ++ sc [e])) (hb : Below wb.heap.size W W') (hg : W.grownBy W' (some g)) (hw : (Value.slice A' (ls.length + 1) c').ownBlock = some g ∨ (Value.slice A' (ls.length + 1) c').ownBlock = some W.heap.size) :
    ∃ g', A' = some ⟨g', 0, none⟩ ∧ Sls wb g' c' (ls ++ [e]) W' := by
  obtain ⟨g', hA, hbg, hlt⟩ : ∃ g', A' = some ⟨g', 0, none⟩ ∧ wb.heap.size ≤ g' ∧ g' < W'.heap.size := by
    rcases ho.2 with ⟨hv, h0⟩ | ⟨g2, cap, cur, hv, hb2, hg2, _⟩
    · omega
    · injection hv with e1 e2 e3
      exact ⟨g2, e1, hb2, (Array.getElem?_eq_some_iff.1 hg2).1⟩
  subst hA
  refine ⟨g', rfl, h.bl.trans hb, ?_, ?_⟩
  · rw [sc_app, List.length_append]; exact ho
  · intro x hx
    have hx' : Sei wb.heap.size g x W := by
      rcases List.mem_append.1 hx with hx | hx
      · exact h.el x hx
      · rw [List.mem_singleton] at hx; subst hx; exact he
    have hgg : g' = g ∨ W.heap.size ≤ g' := by
      rcases hw with hw | hw
      · left; simpa [Value.ownBlock] using hw
      · right; have : g' = W.heap.size := by simpa [Value.ownBlock] using hw
        omega
    refine ⟨hx'.st.grown hg hx'.n1 hx'.n2 hx'.n3, hx'.f1, hx'.f2, hx'.f3, ?_, ?_, ?_⟩
    · rcases hgg with rfl | hgg
      · exact hx'.n1
      · exact hx'.st.v.nbl hgg
    · rcases hgg with rfl | hgg
      · exact hx'.n2
      · exact hx'.st.r.nbl hgg
    · rcases hgg with rfl | hgg
      · exact hx'.n3
      · exact hx'.st.m.nbl hgg
/-- A block ahead of all is written. -/
theorem Sls.set (h : Sls wb g c ls W) {b i : Nat} (hb : b < wb.heap.size) (u : Value) : (W.setCell ⟨b, i, none⟩ u).ownsRow wb.heap.size 31 4 (.slice (some ⟨g, 0, none⟩) ls.length c) ls.length (sc ls) ∧ ∀ e ∈ ls, Sei wb.heap.size g e (W.setCell ⟨b, i, none⟩ u) := by
  refine ⟨ownsRow_setCell_below h.own (a := ⟨b, i, none⟩) hb u, fun e he => ?_⟩
  have := h.el e he
  exact ⟨(this.st.set this.f1 this.f2 this.f3 hb u).size, this.f1, this.f2, this.f3, this.n1, this.n2, this.n3⟩
end

theorem wpList_app3 {P : Program} (w : World) {ops : Array Oper} {rest : List Oper} {o : Oper} {a : Act} {Q : Exit → Act → World → Prop} (hgd : o.guard = none) (s x : Operand) (t : TypeId)
    (ho : o.op = .call { callee := .builtin .append, args := #[s, x], argTypes := #[t, t] })
    (base : Nat) (e : TypeId) (i : TypeInfo) (z : Value) (size bytes : Nat) (ht : P.underlying t = some (.slice e)) (hi : P.info? e = some i) (hz : i.zero = some z)
    (hsize : i.size = size) (hby : i.bytes = bytes) (hzs : z.cells.size = size) (hsz : 0 < size)
    (A : Option Addr) (n c : Nat) (xs : List Value) (hs : a.eval s = .slice A n c) (hown : w.ownsRow base e size (.slice A n c) n xs)
    (B : Nat) (A2 : Option Addr) (m c2 : Nat) (news : List Value) (hx : a.eval x = .slice A2 m c2) (hl : Lies w B size A2 m news) (h1 : ∀ u ∈ news, u.oneCell' = true)
    (h63 : n + m ≤ maxLen) (hbytes : (n + m) * bytes ≤ 140737488355328) (hbase : base ≤ w.heap.size)
    (h : ∀ A' c' w', w'.ownsRow base e size (.slice A' (n + m) c') (n + m) (xs ++ news) → Below base w w' → w.grownBy w' (Value.slice A n c).ownBlock →
      ((Value.slice A' (n + m) c').ownBlock = (Value.slice A n c).ownBlock ∨ (Value.slice A' (n + m) c').ownBlock = some w.heap.size) → wpList P ops Q rest (a.put o.dst (.slice A' (n + m) c')) w') :
    wpList P ops Q (o :: rest) a w := by
  refine wpList_plain hgd fun K hK => ?_
  obtain ⟨A', c', w', hr, h2, h3, h4, h5⟩ := run_app (P := P) w base t o.type e i z size bytes ht hi hz hsize hby hzs hsz A n c xs hown B A2 m c2 news hl h1 h63 hbytes hbase
  unfold Oper.wp execOp
  simp only [ho, resolve, invoke, builtin, Sem.run_bind, Sem.run_pure, Result.andThen_ok, List.map_toArray, List.map_cons, List.map_nil, hs, hx, hr]
  exact hK _ _ (h A' c' w' h2 h3 h4 h5)

end Go.Proofs.Ytkmflofokgkekaa
