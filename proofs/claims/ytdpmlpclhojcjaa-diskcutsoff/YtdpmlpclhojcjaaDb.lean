import Derived.Test.YtdpmlpclhojcjaaDa
import Derived.Test.YtdpmlpclhojcjaaDm
import Derived.Deep.RegionHeld3
import Derived.Laws.OwnMore
/-
  Words for files in memory: a list of files of three cells each, whose bytes lie in memory too. No condition.
-/
namespace Go.Proofs.Ytdpmlpclhojcjaa
open Go.ChangeShapes Go.WideShapes Go.ChangeAt Go.RowKit
set_option linter.unusedVariables false

theorem str_len (s : ByteArray) : s.size = s.toList.length := by
  rw [ByteArray.toList_eq]; rfl
theorem str_of (l : List UInt8) : (⟨l.toArray⟩ : ByteArray).toList = l := by
  rw [ByteArray.toList_eq]
theorem less_of (a b : List UInt8) : Op.bytesLess a b = decide (a < b) := by
  induction a generalizing b with
  | nil => cases b <;> simp [Op.bytesLess]
  | cons x a ih =>
    cases b with
    | nil => simp [Op.bytesLess]
    | cons y b =>
      rw [Op.bytesLess, ih]
      simp only [List.cons_lt_cons_iff]
      by_cases h1 : x < y <;> by_cases h2 : x = y <;> by_cases h3 : a < b <;> simp [h1, h2, h3]
/-- A file, and where its bytes lie. -/
structure Fe where
  nm : ByteArray
  dat : List UInt8
  safe : Int
  A : Option Addr
  c : Nat
def Fe.x (e : Fe) : Fl := ⟨e.nm.toList, e.dat, e.safe⟩
def Fe.cells (e : Fe) : List Value := [.string e.nm, .slice e.A e.dat.length e.c, .int .i64 e.safe]
def noFe : Fe := ⟨⟨#[]⟩, [], 0, none, 0⟩
def fc (ls : List Fe) : List Value := ls.flatMap Fe.cells
theorem fc_cons (e : Fe) (r : List Fe) : fc (e :: r) = .string e.nm :: .slice e.A e.dat.length e.c :: .int .i64 e.safe :: fc r := rfl
theorem fc_len (ls : List Fe) : (fc ls).length = ls.length * 3 := by
  induction ls with
  | nil => rfl
  | cons e r ih => rw [fc_cons]; simp only [List.length_cons, ih]; omega
theorem fc_app (a b : List Fe) : fc (a ++ b) = fc a ++ fc b := by unfold fc; simp
theorem fc_one (ls : List Fe) : ∀ u ∈ fc ls, u.oneCell' = true := by
  intro u hu
  unfold fc at hu
  obtain ⟨e, _, he⟩ := List.mem_flatMap.1 hu
  simp [Fe.cells] at he
  rcases he with rfl | rfl | rfl <;> rfl
theorem fc_at (ls : List Fe) (k : Nat) (h : k < ls.length) : (fc ls)[k * 3]? = some (.string ls[k].nm) ∧ (fc ls)[k * 3 + 1]? = some (.slice ls[k].A ls[k].dat.length ls[k].c) ∧ (fc ls)[k * 3 + 2]? = some (.int .i64 ls[k].safe) := by
  induction ls generalizing k with
  | nil => simp at h
  | cons e r ih =>
    cases k with
    | zero => simp [fc_cons]
    | succ k =>
      have := ih k (by simpa using h)
      have e0 : (k + 1) * 3 = k * 3 + 1 + 1 + 1 := by omega
      have e1 : (k + 1) * 3 + 1 = (k * 3 + 1) + 1 + 1 + 1 := by omega
      have e2 : (k + 1) * 3 + 2 = (k * 3 + 2) + 1 + 1 + 1 := by omega
      rw [e1, e2, e0, fc_cons]
      exact this
theorem fc_set (ls : List Fe) (k : Nat) (e : Fe) : (((fc ls).set (k * 3) (.string e.nm)).set (k * 3 + 1) (.slice e.A e.dat.length e.c)).set (k * 3 + 2) (.int .i64 e.safe) = fc (ls.set k e) := by
  induction ls generalizing k with
  | nil => rfl
  | cons x r ih =>
    cases k with
    | zero => rfl
    | succ k =>
      have e0 : (k + 1) * 3 = k * 3 + 1 + 1 + 1 := by omega
      have e1 : (k + 1) * 3 + 1 = (k * 3 + 1) + 1 + 1 + 1 := by omega
      have e2 : (k + 1) * 3 + 2 = (k * 3 + 2) + 1 + 1 + 1 := by omega
      rw [e1, e2, e0]
      show _ = fc (x :: r.set k e)
      rw [fc_cons, fc_cons, ← ih k]
      rfl
/-- The file at a place. -/
def fAt (ls : List Fe) (k : Nat) : Fe := ls.getD k noFe
theorem fAt_get (ls : List Fe) (k : Nat) (h : k < ls.length) : fAt ls k = ls[k] := by unfold fAt; rw [List.getD_eq_getElem?_getD, List.getElem?_eq_getElem h]; rfl
theorem fAt_mem (ls : List Fe) (k : Nat) (h : k < ls.length) : fAt ls k ∈ ls := by rw [fAt_get ls k h]; exact List.getElem_mem h
theorem fdrop_at (ls : List Fe) (k : Nat) (h : k < ls.length) : ls.drop k = fAt ls k :: ls.drop (k + 1) := by rw [fAt_get ls k h]; exact List.drop_eq_getElem_cons h
theorem ftake_at (ls : List Fe) (k : Nat) (h : k < ls.length) : ls.take (k + 1) = ls.take k ++ [fAt ls k] := by rw [fAt_get ls k h]; exact List.take_succ_eq_append_getElem h
/-- The cells of a file in a list. -/
theorem Lies.fe {w : World} {B : Nat} {A : Option Addr} {ls : List Fe} (h : Lies w B 3 A ls.length (fc ls)) (k : Nat) (hk : k < ls.length) :
    ∃ ad, A = some ad ∧ ad.block < B ∧ w.cell? (ad.add (k * 3)) = some (.string (fAt ls k).nm) ∧ w.cell? ⟨(ad.add (k * 3)).block, (ad.add (k * 3)).off + 1, none⟩ = some (.slice (fAt ls k).A (fAt ls k).dat.length (fAt ls k).c) ∧ w.cell? ⟨(ad.add (k * 3)).block, (ad.add (k * 3)).off + 2, none⟩ = some (.int .i64 (fAt ls k).safe) := by
  obtain ⟨a0, a1, a2⟩ := fc_at ls k hk
  obtain ⟨ad, e, hb, c0⟩ := h.2 _ _ a0
  obtain ⟨ad1, e1, _, c1⟩ := h.2 _ _ a1
  obtain ⟨ad2, e2, _, c2⟩ := h.2 _ _ a2
  rw [e] at e1 e2
  injection e1 with e1
  injection e2 with e2
  subst e1 e2
  rw [← add_add] at c1 c2
  rw [fAt_get ls k hk]
  exact ⟨ad, e, hb, c0, c1, c2⟩
/-- The bytes of a file lie in memory. -/
def Fd (w : World) (B : Nat) (e : Fe) : Prop := Lies w B 1 e.A e.dat.length (bc e.dat) ∧ e.dat.length ≤ e.c
theorem Fd.next {w w' : World} {e : Fe} (h : Fd w w.heap.size e) (hb : Below w.heap.size w w') : Fd w' w'.heap.size e := ⟨h.1.next hb, h.2⟩
theorem Fd.no (w : World) (B : Nat) : Fd w B noFe := ⟨Lies.nil, Nat.le_refl _⟩
/-- A list of files lies in memory. -/
structure Fls (w : World) (B : Nat) (A : Option Addr) (c : Nat) (ls : List Fe) : Prop where
  L : Lies w B 3 A ls.length (fc ls)
  cc : ls.length ≤ c
  el : ∀ e ∈ ls, Fd w B e
theorem Fls.next {w w' : World} {A : Option Addr} {c : Nat} {ls : List Fe} (h : Fls w w.heap.size A c ls) (hb : Below w.heap.size w w') : Fls w' w'.heap.size A c ls :=
  ⟨h.L.next hb, h.cc, fun e he => (h.el e he).next hb⟩
theorem Fls.at {w : World} {B : Nat} {A : Option Addr} {c : Nat} {ls : List Fe} (h : Fls w B A c ls) (k : Nat) (hk : k < ls.length) : Fd w B (fAt ls k) := h.el _ (fAt_mem ls k hk)
theorem Fls.no (w : World) (B : Nat) : Fls w B none 0 [] := ⟨Lies.nil, Nat.le_refl _, fun e he => by cases he⟩
def xs (ls : List Fe) : List Fl := ls.map Fe.x
theorem xs_len (ls : List Fe) : (xs ls).length = ls.length := by unfold xs; simp
theorem xs_app (a b : List Fe) : xs (a ++ b) = xs a ++ xs b := by unfold xs; simp
theorem xs_drop (ls : List Fe) (k : Nat) : xs (ls.drop k) = (xs ls).drop k := by unfold xs; simp
theorem xs_take (ls : List Fe) (k : Nat) : xs (ls.take k) = (xs ls).take k := by unfold xs; simp
/-- Not more than is looked at: names of at most 100 bytes, files of at most 30000, 100 of them. -/
structure Few (ls : List Fe) : Prop where
  n : ls.length ≤ 1000
  d : ∀ e ∈ ls, e.dat.length ≤ 100000
end Go.Proofs.Ytdpmlpclhojcjaa
