import Derived.Test.YtpgdddjjjfkneaaGreatDoorKs
import Derived.Test.YtpgdddjjjfkneaaGreatDoorKp
import Derived.OneCell
import Derived.Test.YtpgdddjjjfkneaaGreatDoorKg
import Derived.Deep.DeepMust
import Derived.Lib.BufferMore
/-
  The contracts of slices.Clone at a list of values and at a list of rests; words for the memory of a superstep. No condition but that the numbers are not too many.
-/
namespace Go.Proofs.YtpgdddjjjfkneaaGreatDoor
open Go.RowKit
set_option linter.unusedVariables false

set_option maxHeartbeats 1000000 in
set_option maxRecDepth 20000 in
theorem clone_v (A : Option Addr) (c : Nat) (l : List Int) (w : World) (hA : Lies w w.heap.size 1 A l.length (vc l)) (hn : l.length ≤ 1000000) :
    Calls Tryz.prog 46 #[.slice A l.length c] w fun e w' => ∃ A' c', e = .returned (.slice A' l.length c') ∧ w'.ownsRow w.heap.size 2 1 (.slice A' l.length c') l.length (vc l) ∧ Below w.heap.size w w' := by
  cases A with
  | none =>
    obtain rfl : l = [] := by
      cases l with
      | nil => rfl
      | cons x r => obtain ⟨ad, e, _⟩ := hA.vs 0 (by simp); cases e
    simp only [List.length_nil] at hA ⊢
    have hnil : ∀ W : World, (binOp .eql 31 (.slice none 0 c) (.slice none 0 0)).run Tryz.prog W = .ok (.bool true) W := fun W => Lib.run_eql_slice_nil_nil W _ _ Tryz.underlying31
    go_enter Tryz.func46, Tryz.ntmps46
    go_wp2_with fail
    go_ret
    exact ⟨none, 0, rfl, World.ownsRow_nil _ _ _ _, Below.refl _ _⟩
  | some ad =>
    obtain ⟨i0, hi0, hz0, hzs, hzb⟩ := info_parts (show (Tryz.prog.info? 2).map (fun i => (i.zero, i.size, i.bytes)) = some (some (.int .i64 0), 1, 8) by kernel_rfl)
    have HI0 := Lib.hid hi0
    have HZ0 := Lib.hid hz0
    have HZS := Lib.hid hzs
    have HZB := Lib.hid hzb
    have HO := Lib.hid (own_empty w 2 w.heap.size (Nat.le_refl _))
    have HL := Lib.hid (hA.below (below_alloc w (.cells #[] 2)))
    have hnil : ∀ W : World, (binOp .eql 31 (.slice (some ad) l.length c) (.slice none 0 0)).run Tryz.prog W = .ok (.bool false) W := fun W => Lib.run_eql_slice_some_nil W _ _ _ Tryz.underlying31
    clear hi0 hz0 hzs hzb hA
    go_enter Tryz.func46, Tryz.ntmps46
    go_wp2_with (at_builtin; go_must (refine wpList_app _ rfl (.tmp 5) (.tmp 6) 31 rfl w.heap.size 2 i0 _ 1 8 Tryz.underlying31 HI0.out HZ0.out HZS.out HZB.out rfl (by decide) (some ⟨w.heap.size, 0, none⟩) 0 0 [] rfl HO.out w.heap.size (some ad) l.length c (vc l) rfl HL.out (vc_one _) l.length (vc l) (Nat.zero_add _) rfl (by unfold maxLen; omega) (by omega) (by simp) ?_))
    intro A4 c4 w4 ho4 hb4
    have HO4 := Lib.hid ho4
    have HB4 := Lib.hid ((below_alloc w _).trans hb4)
    clear ho4 hb4
    go_wp2_with fail
    go_ret
    exact ⟨A4, c4, rfl, HO4.out, HB4.out⟩
set_option maxHeartbeats 1000000 in
set_option maxRecDepth 20000 in
theorem clone_r (A : Option Addr) (c : Nat) (l : List Bool) (w : World) (hA : Lies w w.heap.size 1 A l.length (rc l)) (hn : l.length ≤ 1000000) :
    Calls Tryz.prog 47 #[.slice A l.length c] w fun e w' => ∃ A' c', e = .returned (.slice A' l.length c') ∧ w'.ownsRow w.heap.size 4 1 (.slice A' l.length c') l.length (rc l) ∧ Below w.heap.size w w' := by
  cases A with
  | none =>
    obtain rfl : l = [] := by
      cases l with
      | nil => rfl
      | cons x r => obtain ⟨ad, e, _⟩ := hA.rs 0 (by simp); cases e
    simp only [List.length_nil] at hA ⊢
    have hnil : ∀ W : World, (binOp .eql 36 (.slice none 0 c) (.slice none 0 0)).run Tryz.prog W = .ok (.bool true) W := fun W => Lib.run_eql_slice_nil_nil W _ _ Tryz.underlying36
    go_enter Tryz.func47, Tryz.ntmps47
    go_wp2_with fail
    go_ret
    exact ⟨none, 0, rfl, World.ownsRow_nil _ _ _ _, Below.refl _ _⟩
  | some ad =>
    obtain ⟨i0, hi0, hz0, hzs, hzb⟩ := info_parts (show (Tryz.prog.info? 4).map (fun i => (i.zero, i.size, i.bytes)) = some (some (.bool false), 1, 1) by kernel_rfl)
    have HI0 := Lib.hid hi0
    have HZ0 := Lib.hid hz0
    have HZS := Lib.hid hzs
    have HZB := Lib.hid hzb
    have HO := Lib.hid (own_empty w 4 w.heap.size (Nat.le_refl _))
    have HL := Lib.hid (hA.below (below_alloc w (.cells #[] 4)))
    have hnil : ∀ W : World, (binOp .eql 36 (.slice (some ad) l.length c) (.slice none 0 0)).run Tryz.prog W = .ok (.bool false) W := fun W => Lib.run_eql_slice_some_nil W _ _ _ Tryz.underlying36
    clear hi0 hz0 hzs hzb hA
    go_enter Tryz.func47, Tryz.ntmps47
    go_wp2_with (at_builtin; go_must (refine wpList_app _ rfl (.tmp 5) (.tmp 6) 36 rfl w.heap.size 4 i0 _ 1 1 Tryz.underlying36 HI0.out HZ0.out HZS.out HZB.out rfl (by decide) (some ⟨w.heap.size, 0, none⟩) 0 0 [] rfl HO.out w.heap.size (some ad) l.length c (rc l) rfl HL.out (rc_one _) l.length (rc l) (Nat.zero_add _) rfl (by unfold maxLen; omega) (by omega) (by simp) ?_))
    intro A4 c4 w4 ho4 hb4
    have HO4 := Lib.hid ho4
    have HB4 := Lib.hid ((below_alloc w _).trans hb4)
    clear ho4 hb4
    go_wp2_with fail
    go_ret
    exact ⟨A4, c4, rfl, HO4.out, HB4.out⟩
/-- A row of the call's own lies in no block of another type. -/
theorem own_ne {w : World} {b s n bn : Nat} {e t : TypeId} {v : Value} {xs : List Value} {cs : Array Value} {fr : Nat × Nat} (h : w.ownsRow b e s v n xs) (hb : w.heap[bn]? = some (.cells cs t fr)) (ht : t ≠ e) : v.ownBlock ≠ some bn := by
  intro hv
  rcases h.2 with ⟨rfl, _⟩ | ⟨g, cap, cur, rfl, _, hh, _⟩
  · simp [Value.ownBlock] at hv
  · have : g = bn := by simpa [Value.ownBlock] using hv
    subst this
    rw [hh] at hb
    injection hb with hb
    injection hb with _ h2
    exact ht h2.symm
theorem own_some1 {w : World} {base n : Nat} {e : TypeId} {A : Option Addr} {c : Nat} {xs : List Value} (h : w.ownsRow base e 1 (.slice A n c) n xs) (hn : 0 < n) : ∃ g cur, A = some ⟨g, 0, none⟩ ∧ base ≤ g ∧ g < w.heap.size ∧ w.heap[g]? = some (.cells cur e) := by
  rcases h.2 with ⟨hv, h0⟩ | ⟨g, cap, cur, hv, hb, hg, _⟩
  · omega
  · injection hv with e1 e2 e3
    exact ⟨g, cur, e1, hb, (Array.getElem?_eq_some_iff.1 hg).1, hg⟩
/-- The memory of a superstep under way: the next state stands in block bn, its values and rests in rows of the call's own. -/
structure Sp (w4 : World) (bn : Nat) (st1 : Int) (gV cV gR cR n : Nat) (vs : List Int) (rs : List Bool) (W : World) : Prop where
  bl : Below w4.heap.size w4 W
  nb : W.heap[bn]? = some (.cells #[.int .i64 st1, .slice (some ⟨gV, 0, none⟩) n cV, .slice (some ⟨gR, 0, none⟩) n cR, .slice none 0 0] 39 (0, 0))
  v : W.ownsRow w4.heap.size 2 1 (.slice (some ⟨gV, 0, none⟩) n cV) n (vc vs)
  r : W.ownsRow w4.heap.size 4 1 (.slice (some ⟨gR, 0, none⟩) n cR) n (rc rs)
  hbn : w4.heap.size ≤ bn
section
variable {w4 : World} {bn : Nat} {st1 : Int} {gV cV gR cR n : Nat} {vs : List Int} {rs : List Bool} {W W' : World}
theorem Sp.lt (h : Sp w4 bn st1 gV cV gR cR n vs rs W) : bn < W.heap.size := lt_of_block h.nb
theorem Sp.next (h : Sp w4 bn st1 gV cV gR cR n vs rs W) (hb : Below W.heap.size W W') : Sp w4 bn st1 gV cV gR cR n vs rs W' :=
  ⟨h.bl.trans (hb.mono h.bl.size), (hb.block _ h.lt).trans h.nb, own_next h.v hb, own_next h.r hb, h.hbn⟩
theorem Sp.gr (h : Sp w4 bn st1 gV cV gR cR n vs rs W) : gV ≠ gR ∧ gV ≠ bn ∧ gR ≠ bn ∧ w4.heap.size ≤ gV ∧ w4.heap.size ≤ gR := by
  have h1 := own_ne h.v h.nb (by decide)
  have h2 := own_ne h.r h.nb (by decide)
  have h3 := (h.v.lt gV rfl)
  have h4 := (h.r.lt gR rfl)
  refine ⟨fun e => ?_, fun e => h1 (by rw [e]; rfl), fun e => h2 (by rw [e]; rfl), h3.1, h4.1⟩
  subst e
  rcases h.v.2 with ⟨hv, _⟩ | ⟨g, cap, cur, hv, _, hh, _⟩
  · injection hv with e1; cases e1
  · injection hv with e1
    injection e1 with e1
    injection e1 with e1
    subst e1
    exact own_ne h.r hh (by decide) rfl
theorem Sp.grown {m : Nat} {v : Value} {xs : List Value} (h : Sp w4 bn st1 gV cV gR cR n vs rs W) (ho : W.ownsRow w4.heap.size 118 2 v m xs) (hg : W.grownBy W' v.ownBlock) : Sp w4 bn st1 gV cV gR cR n vs rs W' :=
  ⟨h.bl.grown hg (h.bl.size) (fun k hk => (ho.lt k hk).1), (hg.block _ h.lt (fun e => own_ne ho h.nb (by decide) e.symm)).trans h.nb, own_apart h.v ho hg (by decide), own_apart h.r ho hg (by decide), h.hbn⟩
theorem Sp.set (h : Sp w4 bn st1 gV cV gR cR n vs rs W) (k : Nat) (x : Int) (b : Bool) : Sp w4 bn st1 gV cV gR cR n (vs.set k x) (rs.set k b) ((W.setCell ⟨gV, k, none⟩ (.int .i64 x)).setCell ⟨gR, k, none⟩ (.bool b)) := by
  obtain ⟨n1, n2, n3, n4, n5⟩ := h.gr
  have v1 := (h.v.stored k (.int .i64 x)).1
  rw [vc_set] at v1
  have r1 := (ownsRow_setCell_other h.r (a := ⟨gV, k, none⟩) (fun e => n1 (by simpa [Value.ownBlock] using e.symm)) (.int .i64 x))
  have r2 := (r1.stored k (.bool b)).1
  rw [rc_set] at r2
  refine ⟨(h.bl.setCell (p := ⟨gV, k, none⟩) n4 _).setCell (p := ⟨gR, k, none⟩) n5 _, ?_, ownsRow_setCell_other v1 (a := ⟨gR, k, none⟩) (fun e => n1 (by simpa [Value.ownBlock] using e)) _, r2, h.hbn⟩
  rw [Below.heap_setCell _ _ _ _ (fun e => n3 e.symm), Below.heap_setCell _ _ _ _ (fun e => n2 e.symm)]
  exact h.nb
theorem Sp.own (h : Sp w4 bn st1 gV cV gR cR n vs rs W) {m : Nat} {v : Value} {xs : List Value} (ho : W.ownsRow w4.heap.size 118 2 v m xs) (k : Nat) (x : Int) (b : Bool) : ((W.setCell ⟨gV, k, none⟩ (.int .i64 x)).setCell ⟨gR, k, none⟩ (.bool b)).ownsRow w4.heap.size 118 2 v m xs := by
  have a1 : v.ownBlock ≠ some gV := by
    rcases h.v.2 with ⟨hv, _⟩ | ⟨g, cap, cur, hv, _, hh, _⟩
    · injection hv with e1; cases e1
    · injection hv with e1
      injection e1 with e1
      injection e1 with e1
      subst e1
      exact own_ne ho hh (by decide)
  have a2 : v.ownBlock ≠ some gR := by
    rcases h.r.2 with ⟨hv, _⟩ | ⟨g, cap, cur, hv, _, hh, _⟩
    · injection hv with e1; cases e1
    · injection hv with e1
      injection e1 with e1
      injection e1 with e1
      subst e1
      exact own_ne ho hh (by decide)
  exact ownsRow_setCell_other (ownsRow_setCell_other ho (a := ⟨gV, k, none⟩) a1 _) (a := ⟨gR, k, none⟩) a2 _
end

/-- What lies at or behind block b, if anywhere. -/
def Fr (b : Nat) (A : Option Addr) : Prop := ∀ ad, A = some ad → b ≤ ad.block
theorem Fr.no (b : Nat) : Fr b none := fun _ h => by cases h
theorem Fr.low {b b' : Nat} {A : Option Addr} (h : Fr b A) (hb : b' ≤ b) : Fr b' A := fun ad e => Nat.le_trans hb (h ad e)
theorem Fr.own {w : World} {b s n c : Nat} {e : TypeId} {A : Option Addr} {xs : List Value} (h : w.ownsRow b e s (.slice A n c) n xs) : Fr b A := by
  intro ad e1
  rcases h.2 with ⟨hv, _⟩ | ⟨g, cap, cur, hv, hb, _⟩
  · injection hv with e2; rw [e2] at e1; cases e1
  · injection hv with e2; rw [e2] at e1; injection e1 with e1; rw [← e1]; exact hb
/-- A state in memory stays while a block is written in which it does not lie. -/
theorem Lies.set {w : World} {B s n : Nat} {A : Option Addr} {xs : List Value} (h : Lies w B s A n xs) {b i b' : Nat} (hb : Fr b' A) (hlt : b < b') (u : Value) : Lies (w.setCell ⟨b, i, none⟩ u) B s A n xs :=
  ⟨h.1, fun j v hj => by
    obtain ⟨ad, e, hB, hc⟩ := h.2 j v hj
    refine ⟨ad, e, hB, ?_⟩
    rw [← hc]
    exact World.cell?_of_block (w := w) (Below.heap_setCell _ _ _ _ (by rw [block_add]; have := hb ad e; simp only; omega))⟩
theorem StL.set {w : World} {B : Nat} {S : St} {A1 : Option Addr} {c1 : Nat} {A2 : Option Addr} {c2 : Nat} {A3 : Option Addr} {c3 : Nat} (h : StL w B S A1 c1 A2 c2 A3 c3) {b i b' : Nat} (h1 : Fr b' A1) (h2 : Fr b' A2) (h3 : Fr b' A3) (hlt : b < b') (u : Value) :
    StL (w.setCell ⟨b, i, none⟩ u) B S A1 c1 A2 c2 A3 c3 := ⟨h.v.set h1 hlt u, h.r.set h2 hlt u, h.m.set h3 hlt u, h.cv, h.cr, h.cm, h.ok⟩
theorem StL.size {w : World} {S : St} {A1 : Option Addr} {c1 : Nat} {A2 : Option Addr} {c2 : Nat} {A3 : Option Addr} {c3 : Nat} {b i : Nat} {u : Value} (h : StL (w.setCell ⟨b, i, none⟩ u) w.heap.size S A1 c1 A2 c2 A3 c3) : StL (w.setCell ⟨b, i, none⟩ u) (w.setCell ⟨b, i, none⟩ u).heap.size S A1 c1 A2 c2 A3 c3 :=
  h.more (by simp [World.setCell])
theorem vset {T : Nat → Int × List Ms × Bool × Int} {l : List Int} {k : Nat} (h : k < l.length) : (valsL T k ++ l.drop k).set k (T k).1 = valsL T (k + 1) ++ l.drop (k + 1) := by
  rw [List.set_append_right _ _ (by rw [valsL_len]; exact Nat.le_refl _), valsL_len, Nat.sub_self, List.drop_eq_getElem_cons h, List.set_cons_zero, valsL_succ, List.append_assoc]; rfl
theorem rset {T : Nat → Int × List Ms × Bool × Int} {l : List Bool} {k : Nat} (h : k < l.length) : (restL T k ++ l.drop k).set k (T k).2.2.1 = restL T (k + 1) ++ l.drop (k + 1) := by
  rw [List.set_append_right _ _ (by rw [restL_len]; exact Nat.le_refl _), restL_len, Nat.sub_self, List.drop_eq_getElem_cons h, List.set_cons_zero, restL_succ, List.append_assoc]; rfl
theorem vkeep {T : Nat → Int × List Ms × Bool × Int} {l : List Int} {k : Nat} (h : k < l.length) (e : (T k).1 = vAt l k) : valsL T k ++ l.drop k = valsL T (k + 1) ++ l.drop (k + 1) := by
  rw [List.drop_eq_getElem_cons h, valsL_succ, List.append_assoc, e, vAt_get l k h]; rfl
theorem rkeep {T : Nat → Int × List Ms × Bool × Int} {l : List Bool} {k : Nat} (h : k < l.length) (e : (T k).2.2.1 = rAt l k) : restL T k ++ l.drop k = restL T (k + 1) ++ l.drop (k + 1) := by
  rw [List.drop_eq_getElem_cons h, restL_succ, List.append_assoc, e, rAt_get l k h]; rfl
end Go.Proofs.YtpgdddjjjfkneaaGreatDoor


