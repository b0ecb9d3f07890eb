import Derived.Test.YtpgdddjjjfkneaaGreatDoorPtE
import Derived.Deep.RegionLaw
import Derived.BigRegion
import Derived.BigQuiet
import Derived.Deep.RegionHeld3
import Derived.Deep.OwnRows
import Derived.Deep.Cut
import Derived.Deep.DeepCutAuto
/-
  The contract of the document's own Cut. No condition but that the numbers are not too many.
-/
namespace Go.Proofs.YtpgdddjjjfkneaaGreatDoor
open Go.ChangeShapes Go.WideShapes Go.ChangeAt Go.RowKit
set_option linter.unusedVariables false

end Go.Proofs.YtpgdddjjjfkneaaGreatDoor

/-
  The contracts of the document's own Split, Same and SameAll. No condition but that the numbers are not too many.
-/
namespace Go.Proofs.YtpgdddjjjfkneaaGreatDoor
open Go.ChangeShapes Go.WideShapes Go.ChangeAt Go.RowKit
set_option linter.unusedVariables false

/-- A list of partitions of the call's own, which grows. -/
structure Psq (wb : World) (A : Option Addr) (c : Nat) (ls : List Pe) (W : World) : Prop where
  bl : Below wb.heap.size wb W
  own : W.ownsRow wb.heap.size 64 5 (.slice A ls.length c) ls.length (pc ls)
  el : ∀ e ∈ ls, StL W W.heap.size e.S e.A1 e.c1 e.A2 e.c2 e.A3 e.c3 ∧ ∀ g, (Value.slice A ls.length c).ownBlock = some g → Nbl g e.A1 (vc e.S.vals) ∧ Nbl g e.A2 (rc e.S.rest) ∧ Nbl g e.A3 (mc e.S.inn)
section
variable {wb : World} {A : Option Addr} {c : Nat} {ls : List Pe} {W W' : World}
theorem Psq.next (h : Psq wb A c ls W) (hb : Below W.heap.size W W') : Psq wb A c ls W' :=
  ⟨h.bl.trans (hb.mono h.bl.size), own_next h.own hb, fun e he => ⟨(h.el e he).1.next hb, (h.el e he).2⟩⟩
theorem Psq.no (wb : World) : Psq wb none 0 [] wb := ⟨Below.refl _ _, World.ownsRow_nil _ _ _ _, fun e he => by cases he⟩
theorem Psq.app (h : Psq wb A c ls W) {e : Pe} (he : StL W W.heap.size e.S e.A1 e.c1 e.A2 e.c2 e.A3 e.c3) (hf : ∀ g, (Value.slice A ls.length c).ownBlock = some g → Nbl g e.A1 (vc e.S.vals) ∧ Nbl g e.A2 (rc e.S.rest) ∧ Nbl g e.A3 (mc e.S.inn)) {A' : Option Addr} {c' : Nat}
    (ho : W'.ownsRow wb.heap.size 64 5 (.slice A' (ls.length + 1) c') (ls.length + 1) (pc ls ++ pc [e])) (hb : Below wb.heap.size W W') (hg : W.grownBy W' (Value.slice A ls.length c).ownBlock) (hw : (Value.slice A' (ls.length + 1) c').ownBlock = (Value.slice A ls.length c).ownBlock ∨ (Value.slice A' (ls.length + 1) c').ownBlock = some W.heap.size) :
    Psq wb A' c' (ls ++ [e]) W' := by
  have hl : (ls ++ [e]).length = ls.length + 1 := by simp
  refine ⟨h.bl.trans hb, by rw [hl, pc_app]; exact ho, fun x hx => ?_⟩
  have hx' : StL W W.heap.size x.S x.A1 x.c1 x.A2 x.c2 x.A3 x.c3 ∧ ∀ g, (Value.slice A ls.length c).ownBlock = some g → Nbl g x.A1 (vc x.S.vals) ∧ Nbl g x.A2 (rc x.S.rest) ∧ Nbl g x.A3 (mc x.S.inn) := by
    rcases List.mem_append.1 hx with hx | hx
    · exact h.el x hx
    · rw [List.mem_singleton] at hx; subst hx; exact ⟨he, hf⟩
  refine ⟨?_, fun g hgo => ?_⟩
  · cases ho1 : (Value.slice A ls.length c).ownBlock with
    | none =>
      rw [ho1] at hg
      exact hx'.1.next ((Below.refl _ _).grown hg (Nat.le_refl _) (fun k hk => by cases hk))
    | some g =>
      rw [ho1] at hg
      obtain ⟨n1, n2, n3⟩ := hx'.2 g ho1
      exact hx'.1.grown hg n1 n2 n3
  · rw [hl] at hgo
    rcases hw with hw | hw
    · exact hx'.2 g (hw.symm.trans hgo)
    · rw [hw] at hgo
      injection hgo with hgo
      subst hgo
      exact ⟨hx'.1.v.nbl (Nat.le_refl _), hx'.1.r.nbl (Nat.le_refl _), hx'.1.m.nbl (Nat.le_refl _)⟩
end
/-- Two partitions stand boxed in the first two blocks behind w. -/
structure P2 (w : World) (P : Int) (S : St) (A1 : Option Addr) (c1 : Nat) (A2 : Option Addr) (c2 : Nat) (A3 : Option Addr) (c3 : Nat) (D1 : Option Addr) (d1 : Nat) (D2 : Option Addr) (d2 : Nat) (D3 : Option Addr) (d3 : Nat) (W : World) : Prop where
  z : w.heap.size + 2 ≤ W.heap.size
  a2 : W.cell? ⟨w.heap.size, 3, none⟩ = some (.slice A2 S.rest.length c2)
  a3 : W.cell? ⟨w.heap.size, 4, none⟩ = some (.slice A3 S.inn.length c3)
  b2 : W.cell? ⟨w.heap.size + 1, 3, none⟩ = some (.slice D2 S.rest.length d2)
  b3 : W.cell? ⟨w.heap.size + 1, 4, none⟩ = some (.slice D3 S.inn.length d3)
  bl : Below w.heap.size w W
theorem P2.next {w : World} {P : Int} {S : St} {A1 : Option Addr} {c1 : Nat} {A2 : Option Addr} {c2 : Nat} {A3 : Option Addr} {c3 : Nat} {D1 : Option Addr} {d1 : Nat} {D2 : Option Addr} {d2 : Nat} {D3 : Option Addr} {d3 : Nat} {W W' : World} (h : P2 w P S A1 c1 A2 c2 A3 c3 D1 d1 D2 d2 D3 d3 W) (hb : Below W.heap.size W W') : P2 w P S A1 c1 A2 c2 A3 c3 D1 d1 D2 d2 D3 d3 W' :=
  have k : ∀ b o, b < w.heap.size + 2 → W'.cell? ⟨b, o, none⟩ = W.cell? ⟨b, o, none⟩ := fun b o hl => hb.cell (p := ⟨b, o, none⟩) (Nat.lt_of_lt_of_le hl h.z)
  ⟨Nat.le_trans h.z hb.size, (k _ _ (by omega)).trans h.a2, (k _ _ (by omega)).trans h.a3, (k _ _ (by omega)).trans h.b2, (k _ _ (by omega)).trans h.b3, h.bl.trans (hb.mono (by have := h.z; omega))⟩
theorem P2.init (w : World) (P : Int) (S : St) (A1 : Option Addr) (c1 : Nat) (A2 : Option Addr) (c2 : Nat) (A3 : Option Addr) (c3 : Nat) (D1 : Option Addr) (d1 : Nat) (D2 : Option Addr) (d2 : Nat) (D3 : Option Addr) (d3 : Nat) :
    P2 w P S A1 c1 A2 c2 A3 c3 D1 d1 D2 d2 D3 d3 ((w.alloc (.cells #[.int .i64 P, .int .i64 S.step, .slice A1 S.vals.length c1, .slice A2 S.rest.length c2, .slice A3 S.inn.length c3] 64)).alloc (.cells #[.int .i64 P, .int .i64 S.step, .slice D1 S.vals.length d1, .slice D2 S.rest.length d2, .slice D3 S.inn.length d3] 64)) :=
  ⟨by simp, by simp [go_sem], by simp [go_sem], by simp [go_sem], by simp [go_sem], ((Below.refl _ _).alloc (Nat.le_refl _) _).alloc (by simp) _⟩
end Go.Proofs.YtpgdddjjjfkneaaGreatDoor

/-
  Plain mathematics of joining: values dealt out, messages put in order; words for a state that is being joined. No condition.
-/
namespace Go.Proofs.YtpgdddjjjfkneaaGreatDoor
open Go.Sort Go.ChangeShapes Go.WideShapes Go.ChangeAt Go.RowKit
set_option linter.unusedVariables false

theorem ris_len (N : Int) : ∀ (l : List Ms) (a : Int), risB N a l = true → l.length ≤ (N - a - 1).toNat := by
  intro l
  induction l with
  | nil => intro a _; exact Nat.zero_le _
  | cons m r ih =>
    intro a h
    unfold risB at h
    simp only [Bool.and_eq_true, decide_eq_true_eq] at h
    have := ih _ h.2.2
    simp only [List.length_cons]
    omega
theorem right_P {N : Int} {es : List Ed} {p s l q : Int} {x : Pt} (h : rightP N es p s l q x = true) :
    jchk N es p s l q = 0 ∧ (0 ≤ x.P ∧ x.P < q) ∧ (0 ≤ x.step ∧ x.step ≤ 40) ∧ x.vals.length = (verts N.toNat q.toNat x.P.toNat).length ∧ x.rest.length = (verts N.toNat q.toNat x.P.toNat).length ∧ risB N (-1) x.inn = true ∧ ∀ m ∈ x.inn, toHome q.toNat x.P.toNat m = true := by
  unfold rightP at h
  simp only [Bool.and_eq_true, decide_eq_true_eq, List.all_eq_true] at h
  exact ⟨h.1, h.2.1, h.2.2.1, h.2.2.2.1, h.2.2.2.2.1, h.2.2.2.2.2.1, h.2.2.2.2.2.2⟩
/-- What is known of partitions that may be joined. -/
structure Jn (n q : Nat) (L : List Pt) : Prop where
  len : L.length = q
  q1 : 1 ≤ q
  q6 : q ≤ 6
  n24 : n ≤ 24
  vl : ∀ k, k < q → (pAt L k).vals.length = (verts n q k).length
  rl : ∀ k, k < q → (pAt L k).rest.length = (verts n q k).length
  ris : ∀ k, k < q → risB n (-1) (pAt L k).inn = true
  home : ∀ k, k < q → ∀ m ∈ (pAt L k).inn, toHome q k m = true
theorem Jn.at {n q : Nat} {L : List Pt} (h : Jn n q L) {k i : Nat} (hk : k < q) (hi : i < (pAt L k).vals.length) : k + i * q < n ∧ (k + i * q) % q = k ∧ (k + i * q) / q = i := by
  have h1 := h.q1
  have h2 := verts_spec n q k h.q1 h.q6 hk
  rw [h.vl k hk] at hi
  have h3 := h2.2 i hi
  have h4 := (verts_mem (n := n) (q := q) (k := k)).1 (List.getElem_mem hi)
  rw [h3] at h4
  refine ⟨h4.1, h4.2, ?_⟩
  rw [Nat.add_mul_div_right _ _ (by omega), Nat.div_eq_of_lt hk, Nat.zero_add]
/-- The first parts are dealt out, and i values of part k. -/
def Jv {α : Type} (n q : Nat) (f : Nat → α) (a : List α → Nat → α) (k i : Nat) (vs : List α) : Prop := vs.length = n ∧ ∀ v, v < n → (v % q < k ∨ (v % q = k ∧ v / q < i)) → a vs v = f v
theorem Jv.set {n q : Nat} {f : Nat → Int} {k i : Nat} {vs : List Int} (h : Jv n q f vAt k i vs) (hv : k + i * q < n) (hm : (k + i * q) % q = k) (hd : (k + i * q) / q = i) {x : Int} (hx : x = f (k + i * q)) : Jv n q f vAt k (i + 1) (vs.set (k + i * q) x) := by
  refine ⟨by rw [List.length_set]; exact h.1, fun v hvn hc => ?_⟩
  rw [vAt_get _ _ (by rw [List.length_set, h.1]; exact hvn), List.getElem_set]
  by_cases e : k + i * q = v
  · rw [if_pos e, hx, e]
  · rw [if_neg e, ← vAt_get _ _ (by rw [h.1]; exact hvn)]
    apply h.2 v hvn
    rcases hc with hc | ⟨h1, h2⟩
    · exact .inl hc
    · refine .inr ⟨h1, ?_⟩
      rcases Nat.lt_succ_iff_lt_or_eq.1 h2 with h3 | h3
      · exact h3
      · exfalso; apply e
        have := Nat.div_add_mod v q
        rw [h1, h3] at this
        rw [← this, Nat.mul_comm, Nat.add_comm]
theorem Jv.next {α : Type} {n q : Nat} {f : Nat → α} {a : List α → Nat → α} {k i : Nat} {vs : List α} (h : Jv n q f a k i vs) (hi : ∀ v, v < n → v % q = k → v / q < i) : Jv n q f a (k + 1) 0 vs :=
  ⟨h.1, fun v hv hc => h.2 v hv (by
    rcases hc with hc | ⟨_, hc⟩
    · rcases Nat.lt_succ_iff_lt_or_eq.1 hc with h3 | h3
      · exact .inl h3
      · exact .inr ⟨h3, hi v hv h3⟩
    · exact absurd hc (Nat.not_lt_zero _))⟩
theorem Jn.all {n q : Nat} {L : List Pt} (h : Jn n q L) {k : Nat} (hk : k < q) : ∀ v, v < n → v % q = k → v / q < (pAt L k).vals.length := by
  intro v hv hm
  obtain ⟨hlt, _⟩ := verts_at (q := q) h.q1 h.q6 hv
  rw [hm] at hlt
  rw [h.vl k hk]; exact hlt
theorem Jv.end {n q : Nat} {f : Nat → Int} {vs : List Int} (hq : 1 ≤ q) (h : Jv n q f vAt q 0 vs) : vs = (List.range n).map f := by
  apply List.ext_getElem
  · rw [h.1]; simp
  · intro i h1 h2
    rw [← vAt_get _ _ h1, h.2 i (by rw [← h.1]; exact h1) (.inl (Nat.mod_lt _ hq))]; simp
theorem qs_three {w5 W : World} {m bn gV gR : Nat} {st : Int} {zv zr : Array Value} (hzv : zv.toList = vc (List.replicate m 0)) (hzr : zr.toList = rc (List.replicate m false)) (hm : m ≤ maxLen) (hb : Below w5.heap.size w5 W) (hv : W.heap[gV]? = some (.cells zv 2)) (hr : W.heap[gR]? = some (.cells zr 4))
    (hn : W.heap[bn]? = some (.cells #[.int .i64 st, .slice (some ⟨gV, 0, none⟩) m m, .slice (some ⟨gR, 0, none⟩) m m, .slice none 0 0] 39)) (lv : w5.heap.size ≤ gV) (lr : w5.heap.size ≤ gR) (ln : w5.heap.size ≤ bn) :
    Qs w5 bn st (some ⟨gV, 0, none⟩) m (some ⟨gR, 0, none⟩) m none 0 (List.replicate m 0) (List.replicate m false) [] W := by
  have sv : zv.size = m := by rw [← Array.length_toList, hzv, vc_len]; simp
  have sr : zr.size = m := by rw [← Array.length_toList, hzr, rc_len]; simp
  refine ⟨hb, by simpa using hn, ?_, ?_, World.ownsRow_nil _ _ _ _, ln⟩
  · rw [List.length_replicate]
    refine ⟨by rw [vc_len]; simp, .inr ⟨gV, m, zv, rfl, lv, hv, Nat.le_refl _, hm, by rw [sv, Nat.mul_one], ?_⟩⟩
    rw [hzv, Nat.mul_one]; exact List.take_of_length_le (by rw [vc_len]; simp)
  · rw [List.length_replicate]
    refine ⟨by rw [rc_len]; simp, .inr ⟨gR, m, zr, rfl, lr, hr, Nat.le_refl _, hm, by rw [sr, Nat.mul_one], ?_⟩⟩
    rw [hzr, Nat.mul_one]; exact List.take_of_length_le (by rw [rc_len]; simp)
section
variable {wb : World} {bo : Nat} {st : Int} {gV cV gR cR : Nat} {M : Option Addr} {cM : Nat} {vs : List Int} {rs : List Bool} {ms : List Ms} {W W' : World}
theorem Qs.apart (h : Qs wb bo st (some ⟨gV, 0, none⟩) cV (some ⟨gR, 0, none⟩) cR M cM vs rs ms W) : gV ≠ gR ∧ gV ≠ bo ∧ gR ≠ bo ∧ (Value.slice M ms.length cM).ownBlock ≠ some gV ∧ (Value.slice M ms.length cM).ownBlock ≠ some gR ∧ wb.heap.size ≤ gV ∧ wb.heap.size ≤ gR := by
  have h1 := own_ne h.v h.nb (by decide)
  have h2 := own_ne h.r h.nb (by decide)
  have h3 := (h.v.lt gV rfl)
  have h4 := (h.r.lt gR rfl)
  have kV : ∃ cur, W.heap[gV]? = some (.cells cur 2) := by
    rcases h.v.2 with ⟨hv, _⟩ | ⟨g, cap, cur, hv, _, hh, _⟩
    · injection hv with e1; cases e1
    · injection hv with e1; injection e1 with e1; injection e1 with e1; subst e1; exact ⟨cur, hh⟩
  have kR : ∃ cur, W.heap[gR]? = some (.cells cur 4) := by
    rcases h.r.2 with ⟨hv, _⟩ | ⟨g, cap, cur, hv, _, hh, _⟩
    · injection hv with e1; cases e1
    · injection hv with e1; injection e1 with e1; injection e1 with e1; subst e1; exact ⟨cur, hh⟩
  obtain ⟨cu, ku⟩ := kV
  obtain ⟨cu2, ku2⟩ := kR
  exact ⟨fun e => own_ne h.r ku (by decide) (by rw [e]; rfl), fun e => h1 (by rw [e]; rfl), fun e => h2 (by rw [e]; rfl), own_ne h.m ku (by decide), own_ne h.m ku2 (by decide), h3.1, h4.1⟩
theorem Qs.set (h : Qs wb bo st (some ⟨gV, 0, none⟩) cV (some ⟨gR, 0, none⟩) cR M cM vs rs ms W) (k : Nat) (x : Int) (b : Bool) :
    Qs wb bo st (some ⟨gV, 0, none⟩) cV (some ⟨gR, 0, none⟩) cR M cM (vs.set k x) (rs.set k b) ms ((W.setCell ⟨gV, k, none⟩ (.int .i64 x)).setCell ⟨gR, k, none⟩ (.bool b)) := by
  obtain ⟨n1, n2, n3, n6, n7, n4, n5⟩ := h.apart
  have v1 := (h.v.stored k (.int .i64 x)).1
  rw [vc_set] at v1
  have r1 := (ownsRow_setCell_other h.r (a := ⟨gV, k, none⟩) (fun e => n1 (by simpa [Value.ownBlock] using e.symm)) (.int .i64 x))
  have r2 := (r1.stored k (.bool b)).1
  rw [rc_set] at r2
  refine ⟨(h.bl.setCell (p := ⟨gV, k, none⟩) n4 _).setCell (p := ⟨gR, k, none⟩) n5 _, ?_, ?_, ?_, ?_, h.hb⟩
  · rw [Below.heap_setCell _ _ _ _ (fun e => n3 e.symm), Below.heap_setCell _ _ _ _ (fun e => n2 e.symm), List.length_set, List.length_set]
    exact h.nb
  · rw [List.length_set]; exact ownsRow_setCell_other v1 (a := ⟨gR, k, none⟩) (fun e => n1 (by simpa [Value.ownBlock] using e)) _
  · rw [List.length_set]; exact r2
  · exact ownsRow_setCell_other (ownsRow_setCell_other h.m (a := ⟨gV, k, none⟩) n6 _) (a := ⟨gR, k, none⟩) n7 _
end
end Go.Proofs.YtpgdddjjjfkneaaGreatDoor

/-
  The contract of part.Join. No condition but that the numbers are not too many.
-/
namespace Go.Proofs.YtpgdddjjjfkneaaGreatDoor
open Go.ChangeShapes Go.WideShapes Go.ChangeAt Go.RowKit
set_option linter.unusedVariables false

theorem cell_set {W : World} {p a : Addr} {u v : Value} (h : a.block ≠ p.block) (hc : W.cell? a = some v) : (W.setCell p u).cell? a = some v := (World.cell?_of_block (w := W) (Below.heap_setCell _ _ _ _ h)).trans hc
theorem frozen_set {W : World} {p a : Addr} {u : Value} (h : a.block ≠ p.block) (hc : W.frozen? a = false) : (W.setCell p u).frozen? a = false := (World.frozen?_of_block (w := W) (Below.heap_setCell _ _ _ _ h)).trans hc
end Go.Proofs.YtpgdddjjjfkneaaGreatDoor

/-
  The walk of PartSplits: a state is parted as the document says. No condition.
-/
namespace Go.Proofs.YtpgdddjjjfkneaaGreatDoor
open Go.ChangeShapes Go.WideShapes Go.ChangeAt Go.RowKit
set_option linter.unusedVariables false

end Go.Proofs.YtpgdddjjjfkneaaGreatDoor


