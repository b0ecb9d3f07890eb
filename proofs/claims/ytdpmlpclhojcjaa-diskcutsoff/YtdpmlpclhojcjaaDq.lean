import Derived.Test.YtdpmlpclhojcjaaDn
import Derived.Laws.Concat
/-
  Words for what is put into variables of its own, for acts, and for texts one behind the other. No condition.
-/
namespace Go.Proofs.Ytdpmlpclhojcjaa
open Go.ChangeShapes Go.WideShapes Go.ChangeAt Go.RowKit
set_option linter.unusedVariables false

/-- A disk's variable, made ahead of the call and given its value behind it. -/
theorem Dx.put {w W : World} {b : Nat} {X : Option Addr} {xc : Nat} {lx : List Fe} (hb : Below w.heap.size w W) (hz : W.heap[b]? = some (.cells #[.slice none 0 0] 24 (0, 0))) (hL : Fls W W.heap.size X xc lx) (hw : w.heap.size ≤ b) : Dx w b X xc lx (W.setCell ⟨b, 0, none⟩ (.slice X lx.length xc)) :=
  ⟨hb.setCell (p := ⟨b, 0, none⟩) hw _, set_heap hz _, by rw [size_set]; exact hL.setBox hz 0 _, hw⟩
/-- What stands behind 'x, e := Put(..)': x in a box of its own. -/
def Px (w wo : World) (E : Int) (D : List Fl) (s1 s2 : Value) (W : World) : Prop := ∃ (bx : Nat) (X : Option Addr) (xc : Nat) (lx : List Fe), s1 = .pointer (some ⟨bx, 0, none⟩) ∧ s2 = .int .i64 E ∧ Hid (Dx w bx X xc lx W) ∧ Hid (xs lx = D) ∧ Hid (Below wo.heap.size wo W)
theorem px_new {w wo w4 : World} {E : Int} {D : List Fl} {X : Option Addr} {xc : Nat} {lx : List Fe} (hw : Below w.heap.size w wo) (hb : Below wo.heap.size wo w4) (hL : Fls w4 w4.heap.size X xc lx) (hx : xs lx = D) : Px w wo E D (.pointer (some ⟨w4.heap.size, 0, none⟩)) (.int .i64 E) (w4.alloc (.cells #[.slice X lx.length xc] 24)) :=
  ⟨_, X, xc, lx, rfl, rfl, Dx.new (below_then hw hb) hL, hx, below_then hb (below_alloc _ _)⟩
theorem px_put {w wo w4 : World} {E : Int} {D : List Fl} {b : Nat} {X : Option Addr} {xc : Nat} {lx : List Fe} (hw : Below w.heap.size w wo) (hb : Below wo.heap.size wo w4) (hL : Fls w4 w4.heap.size X xc lx) (hx : xs lx = D) (hz : w4.heap[b]? = some (.cells #[.slice none 0 0] 24 (0, 0))) (hbb : wo.heap.size ≤ b) : Px w wo E D (.pointer (some ⟨b, 0, none⟩)) (.int .i64 E) (w4.setCell ⟨b, 0, none⟩ (.slice X lx.length xc)) :=
  ⟨b, X, xc, lx, rfl, rfl, Dx.put (below_then hw hb) hz hL (Nat.le_trans hw.size hbb), hx, hb.setCell (p := ⟨b, 0, none⟩) hbb _⟩
theorem run_string_add_bytes (x y : List UInt8) (W : World) (hx : x.length ≤ 1000000) (hy : y.length ≤ 1000000) : (Op.stringOp .add ⟨x.toArray⟩ ⟨y.toArray⟩).run Try.prog W = .ok (.string ⟨(x ++ y).toArray⟩) W :=
  run_string_add_lists W x y (by omega) (by omega)
theorem act_good {d : List Fl} (h : Good d) (kd n : Int) (nm b : By) (l : List Int) : Good (actD d kd n nm b l) := by
  unfold actD
  split
  · exact h.put nm b
  · split
    · exact h.sync nm
    · split
      · exact h.cut nm n
      · split
        · exact h.drop nm
        · exact h.crash l
theorem act_no {d : List Fl} {kd n : Int} {nm b : By} {l : List Int} (h0 : 0 ≤ kd) (h3 : kd ≤ 3) (h : actE d kd n nm b ≠ 0) : actD d kd n nm b l = d := by
  obtain rfl | rfl | rfl | rfl : kd = 0 ∨ kd = 1 ∨ kd = 2 ∨ kd = 3 := by omega
  · have h : putE d nm b ≠ 0 := h
    show putD d nm b = d
    unfold putD; rw [if_neg h]
  · have h : syncE d nm ≠ 0 := h
    show syncD d nm = d
    unfold syncE at h; unfold syncD
    cases hh : hasF d nm with
    | true => rw [hh] at h; exact absurd rfl h
    | false => rfl
  · have h : cutE d nm n ≠ 0 := h
    show cutD d nm n = d
    unfold cutD; rw [if_neg h]
  · have h : dropE d nm ≠ 0 := h
    show dropF d nm = d
    unfold dropE at h
    cases hh : hasF d nm with
    | true => rw [hh] at h; exact absurd rfl h
    | false => exact dropF_none hh
theorem act_other {d : List Fl} (hd : Good d) {kd n : Int} {nm b o : By} {l : List Int} (h0 : 0 ≤ kd) (h3 : kd ≤ 3) (ho : o ≠ nm) : getF (actD d kd n nm b l) o = getF d o ∧ syncE (actD d kd n nm b l) o = syncE d o := by
  have key : getF (actD d kd n nm b l) o = getF d o ∧ hasF (actD d kd n nm b l) o = hasF d o := by
    obtain rfl | rfl | rfl | rfl : kd = 0 ∨ kd = 1 ∨ kd = 2 ∨ kd = 3 := by omega
    · exact put_other hd ho
    · exact sync_other hd ho
    · exact cut_other hd ho
    · exact drop_other hd ho
  exact ⟨key.1, by unfold syncE; rw [key.2]⟩
/-- An act in its box. -/
def Ax (bo : Nat) (kd n : Int) (nm : ByteArray) (BA : Option Addr) (bcap : Nat) (b : List UInt8) (KA : Option Addr) (kc : Nat) (l : List Int) (W : World) : Prop := W.heap[bo]? = some (.cells #[.int .i64 kd, .int .i64 n, .string nm, .slice BA b.length bcap, .slice KA l.length kc] 34 (0, 0))
section
variable {bo : Nat} {kd n : Int} {nm : ByteArray} {BA : Option Addr} {bcap : Nat} {b : List UInt8} {KA : Option Addr} {kc : Nat} {l : List Int} {W W' : World}
theorem Ax.next (h : Ax bo kd n nm BA bcap b KA kc l W) (hb : Below W.heap.size W W') : Ax bo kd n nm BA bcap b KA kc l W' := (hb.block _ (lt_of_block h)).trans h
theorem Ax.c0 (h : Ax bo kd n nm BA bcap b KA kc l W) : W.cell? ⟨bo, 0, none⟩ = some (.int .i64 kd) := cell_of_row W bo 0 _ 34 (0, 0) h
theorem Ax.c1 (h : Ax bo kd n nm BA bcap b KA kc l W) : W.cell? ⟨bo, 1, none⟩ = some (.int .i64 n) := cell_of_row W bo 1 _ 34 (0, 0) h
theorem Ax.c2 (h : Ax bo kd n nm BA bcap b KA kc l W) : W.cell? ⟨bo, 2, none⟩ = some (.string nm) := cell_of_row W bo 2 _ 34 (0, 0) h
theorem Ax.c3 (h : Ax bo kd n nm BA bcap b KA kc l W) : W.cell? ⟨bo, 3, none⟩ = some (.slice BA b.length bcap) := cell_of_row W bo 3 _ 34 (0, 0) h
theorem Ax.c4 (h : Ax bo kd n nm BA bcap b KA kc l W) : W.cell? ⟨bo, 4, none⟩ = some (.slice KA l.length kc) := cell_of_row W bo 4 _ 34 (0, 0) h
end
/-- An act, and where its lists lie. -/
structure Ae where
  kd : Int
  n : Int
  nm : ByteArray
  BA : Option Addr
  bcap : Nat
  b : List UInt8
  KA : Option Addr
  kc : Nat
  l : List Int
def Ae.cells (a : Ae) : List Value := [.int .i64 a.kd, .int .i64 a.n, .string a.nm, .slice a.BA a.b.length a.bcap, .slice a.KA a.l.length a.kc]
def noAe : Ae := ⟨0, 0, ⟨#[]⟩, none, 0, [], none, 0, []⟩
def ac (ls : List Ae) : List Value := ls.flatMap Ae.cells
theorem ac_cons (e : Ae) (r : List Ae) : ac (e :: r) = .int .i64 e.kd :: .int .i64 e.n :: .string e.nm :: .slice e.BA e.b.length e.bcap :: .slice e.KA e.l.length e.kc :: ac r := rfl
theorem ac_len (ls : List Ae) : (ac ls).length = ls.length * 5 := by
  induction ls with
  | nil => rfl
  | cons e r ih => rw [ac_cons]; simp only [List.length_cons, ih]; omega
theorem ac_at (ls : List Ae) (k : Nat) (h : k < ls.length) : (ac ls)[k * 5]? = some (.int .i64 ls[k].kd) ∧ (ac ls)[k * 5 + 1]? = some (.int .i64 ls[k].n) ∧ (ac ls)[k * 5 + 2]? = some (.string ls[k].nm) ∧ (ac ls)[k * 5 + 3]? = some (.slice ls[k].BA ls[k].b.length ls[k].bcap) ∧ (ac ls)[k * 5 + 4]? = some (.slice ls[k].KA ls[k].l.length ls[k].kc) := by
  induction ls generalizing k with
  | nil => simp at h
  | cons e r ih =>
    cases k with
    | zero => simp [ac_cons]
    | succ k =>
      have := ih k (by simpa using h)
      have e0 : (k + 1) * 5 = k * 5 + 1 + 1 + 1 + 1 + 1 := by omega
      have e1 : (k + 1) * 5 + 1 = (k * 5 + 1) + 1 + 1 + 1 + 1 + 1 := by omega
      have e2 : (k + 1) * 5 + 2 = (k * 5 + 2) + 1 + 1 + 1 + 1 + 1 := by omega
      have e3 : (k + 1) * 5 + 3 = (k * 5 + 3) + 1 + 1 + 1 + 1 + 1 := by omega
      have e4 : (k + 1) * 5 + 4 = (k * 5 + 4) + 1 + 1 + 1 + 1 + 1 := by omega
      rw [e1, e2, e3, e4, e0, ac_cons]
      exact this
/-- The cells of an act in a list. -/
theorem Lies.ae {w : World} {B : Nat} {A : Option Addr} {ls : List Ae} (h : Lies w B 5 A ls.length (ac ls)) (k : Nat) (hk : k < ls.length) :
    ∃ ad, A = some ad ∧ ad.block < B ∧ w.cell? (ad.add (k * 5)) = some (.int .i64 ls[k].kd) ∧ w.cell? ⟨(ad.add (k * 5)).block, (ad.add (k * 5)).off + 1, none⟩ = some (.int .i64 ls[k].n) ∧ w.cell? ⟨(ad.add (k * 5)).block, (ad.add (k * 5)).off + 2, none⟩ = some (.string ls[k].nm) ∧
      w.cell? ⟨(ad.add (k * 5)).block, (ad.add (k * 5)).off + 3, none⟩ = some (.slice ls[k].BA ls[k].b.length ls[k].bcap) ∧ w.cell? ⟨(ad.add (k * 5)).block, (ad.add (k * 5)).off + 4, none⟩ = some (.slice ls[k].KA ls[k].l.length ls[k].kc) := by
  obtain ⟨a0, a1, a2, a3, a4⟩ := ac_at ls k hk
  obtain ⟨ad, e, hb, c0⟩ := h.2 _ _ a0
  obtain ⟨ad1, e1, _, c1⟩ := h.2 _ _ a1
  obtain ⟨ad2, e2, _, c2⟩ := h.2 _ _ a2
  obtain ⟨ad3, e3, _, c3⟩ := h.2 _ _ a3
  obtain ⟨ad4, e4, _, c4⟩ := h.2 _ _ a4
  rw [e] at e1 e2 e3 e4
  injection e1 with e1
  injection e2 with e2
  injection e3 with e3
  injection e4 with e4
  subst e1 e2 e3 e4
  rw [← add_add] at c1 c2 c3 c4
  exact ⟨ad, e, hb, c0, c1, c2, c3, c4⟩
/-- What of an act that came in is known. -/
structure AeI (w : World) (a : Ae) : Prop where
  ak : Ak w w.heap.size a.BA a.bcap a.b a.KA a.kc a.l
  n1 : -9223372036854775808 ≤ a.n
  n2 : a.n ≤ 9223372036854775807
  hx : ∀ x ∈ a.l, -9223372036854775808 ≤ x ∧ x ≤ 9223372036854775807
end Go.Proofs.Ytdpmlpclhojcjaa
