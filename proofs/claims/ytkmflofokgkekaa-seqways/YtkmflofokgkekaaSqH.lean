/-
  The contracts of Run and At. No condition.
-/
import Derived.Test.YtkmflofokgkekaaSqF
import Derived.Test.YtkmflofokgkekaaSqG
import Derived.Deep.LoopGhost
namespace Go.Proofs.Ytkmflofokgkekaa
open Go.ChangeShapes Go.WideShapes Go.ChangeAt Go.RowKit
set_option linter.unusedVariables false

/-- What does not lie in block b. -/
def Nb (b : Nat) (A : Option Addr) : Prop := ∀ ad, A = some ad → ad.block ≠ b
theorem Fr.nb {b b' : Nat} {A : Option Addr} (h : Fr b' A) (hb : b < b') : Nb b A := fun ad e => by have := h ad e; omega
/-- .. or is nothing. -/
def Nbl (b : Nat) (A : Option Addr) (xs : List Value) : Prop := xs = [] ∨ Nb b A
theorem Lies.nbl {w : World} {B s n : Nat} {A : Option Addr} {xs : List Value} (h : Lies w B s A n xs) {b : Nat} (hb : B ≤ b) : Nbl b A xs := by
  cases xs with
  | nil => exact .inl rfl
  | cons u r =>
    refine .inr fun ad e => ?_
    obtain ⟨ad', e', hB, _⟩ := h.2 0 u rfl
    rw [e] at e'
    injection e' with e'
    subst e'
    omega
theorem Lies.setN {w : World} {B s n : Nat} {A : Option Addr} {xs : List Value} (h : Lies w B s A n xs) {b i : Nat} (hb : Nbl b A xs) (u : Value) : Lies (w.setCell ⟨b, i, none⟩ u) B s A n xs :=
  ⟨h.1, fun j v hj => by
    obtain ⟨ad, e, hB, hc⟩ := h.2 j v hj
    refine ⟨ad, e, hB, ?_⟩
    rw [← hc]
    rcases hb with rfl | hb
    · simp at hj
    · exact World.cell?_of_block (w := w) (Below.heap_setCell _ _ _ _ (by rw [block_add]; exact hb ad e))⟩
theorem StL.setN {w : World} {B : Nat} {S : St} {A1 : Option Addr} {c1 : Nat} {A2 : Option Addr} {c2 : Nat} {A3 : Option Addr} {c3 : Nat} (h : StL w B S A1 c1 A2 c2 A3 c3) {b i : Nat} (h1 : Nbl b A1 (vc S.vals)) (h2 : Nbl b A2 (rc S.rest)) (h3 : Nbl b A3 (mc S.inn)) (u : Value) :
    StL (w.setCell ⟨b, i, none⟩ u) B S A1 c1 A2 c2 A3 c3 := ⟨h.v.setN h1 u, h.r.setN h2 u, h.m.setN h3 u, h.cv, h.cr, h.cm, h.ok⟩

/-- A run under way: its state stands in block bs. -/
structure Rn (w3 : World) (bs : Nat) (S : St) (X1 : Option Addr) (x1 : Nat) (X2 : Option Addr) (x2 : Nat) (X3 : Option Addr) (x3 : Nat) (W : World) : Prop where
  bl : Below w3.heap.size w3 W
  nb : W.heap[bs]? = some (.cells #[.int .i64 S.step, .slice X1 S.vals.length x1, .slice X2 S.rest.length x2, .slice X3 S.inn.length x3] 31 (0, 0))
  st : StL W W.heap.size S X1 x1 X2 x2 X3 x3
  f1 : Fr w3.heap.size X1
  f2 : Fr w3.heap.size X2
  f3 : Fr w3.heap.size X3
  n1 : Nbl bs X1 (vc S.vals)
  n2 : Nbl bs X2 (rc S.rest)
  n3 : Nbl bs X3 (mc S.inn)
  hb : w3.heap.size ≤ bs
theorem Rn.begin {w3 w5 : World} {S : St} {X1 : Option Addr} {x1 : Nat} {X2 : Option Addr} {x2 : Nat} {X3 : Option Addr} {x3 : Nat} (hb : Below w3.heap.size w3 w5) (hs : StL w5 w5.heap.size S X1 x1 X2 x2 X3 x3) (f1 : Fr w3.heap.size X1) (f2 : Fr w3.heap.size X2) (f3 : Fr w3.heap.size X3) :
    Rn w3 w5.heap.size S X1 x1 X2 x2 X3 x3 (w5.alloc (.cells #[.int .i64 S.step, .slice X1 S.vals.length x1, .slice X2 S.rest.length x2, .slice X3 S.inn.length x3] 31)) :=
  ⟨hb.alloc hb.size _, heap_alloc_new _ _, hs.next (below_alloc _ _), f1, f2, f3, hs.v.nbl (Nat.le_refl _), hs.r.nbl (Nat.le_refl _), hs.m.nbl (Nat.le_refl _), hb.size⟩
theorem Rn.go {w3 : World} {bs : Nat} {S : St} {X1 : Option Addr} {x1 : Nat} {X2 : Option Addr} {x2 : Nat} {X3 : Option Addr} {x3 : Nat} {W : World} (h : Rn w3 bs S X1 x1 X2 x2 X3 x3 W)
    {w6 : World} (o : Obj) {S' : St} {Y1 : Option Addr} {y1 : Nat} {Y2 : Option Addr} {y2 : Nat} {Y3 : Option Addr} {y3 : Nat} (hb : Below W.heap.size W w6) (hs : StL w6 w6.heap.size S' Y1 y1 Y2 y2 Y3 y3) (f1 : Fr W.heap.size Y1) (f2 : Fr W.heap.size Y2) (f3 : Fr W.heap.size Y3) :
    Rn w3 bs S' Y1 y1 Y2 y2 Y3 y3 (((((w6.alloc o).setCell ⟨bs, 0, none⟩ (.int .i64 S'.step)).setCell ⟨bs, 1, none⟩ (.slice Y1 S'.vals.length y1)).setCell ⟨bs, 2, none⟩ (.slice Y2 S'.rest.length y2)).setCell ⟨bs, 3, none⟩ (.slice Y3 S'.inn.length y3)) := by
  have hlt := lt_of_block h.nb
  have m1 : Nbl bs Y1 (vc S'.vals) := .inr (f1.nb hlt)
  have m2 : Nbl bs Y2 (rc S'.rest) := .inr (f2.nb hlt)
  have m3 : Nbl bs Y3 (mc S'.inn) := .inr (f3.nb hlt)
  have hb' := (h.bl.trans (hb.mono h.bl.size)).alloc (Nat.le_trans h.bl.size hb.size) o
  have z0 : (w6.alloc o).heap[bs]? = _ := (Below.heap_alloc w6 o bs (Nat.lt_of_lt_of_le hlt hb.size)).trans ((hb.block _ hlt).trans h.nb)
  have s0 := hs.next (below_alloc w6 o)
  refine ⟨(((hb'.setCell (p := ⟨bs, 0, none⟩) h.hb _).setCell (p := ⟨bs, 1, none⟩) h.hb _).setCell (p := ⟨bs, 2, none⟩) h.hb _).setCell (p := ⟨bs, 3, none⟩) h.hb _, ?_, ?_, f1.low h.bl.size, f2.low h.bl.size, f3.low h.bl.size, m1, m2, m3, h.hb⟩
  · exact set_heap (set_heap (set_heap (set_heap z0 _) _) _) _
  · exact ((((s0.setN (i := 0) m1 m2 m3 _).setN (i := 1) m1 m2 m3 _).setN (i := 2) m1 m2 m3 _).setN (i := 3) m1 m2 m3 _).more (by simp [World.setCell])

/-- What a run comes to. -/
def IsAns (N : Int) (es : List Ed) (p s l q : Int) (kd st : Int) (vs : List Int) : Prop :=
  (¬ jchk N es p s l q = 0 ∧ kd = 4 ∧ st = 0 ∧ vs = []) ∨
  (jchk N es p s l q = 0 ∧ ∃ k S, stAt N es p s l q k = some S ∧ ¬ (onwR N es p s l q S).2 = 0 ∧ kd = (onwR N es p s l q S).2 ∧ st = S.step ∧ vs = if kd = 2 then [] else S.vals)
theorem ans_uniq {N : Int} {es : List Ed} {p s l q kd st kd' st' : Int} {vs vs' : List Int} (h : IsAns N es p s l q kd st vs) (h' : IsAns N es p s l q kd' st' vs') : kd = kd' ∧ st = st' ∧ vs = vs' := by
  rcases h with ⟨hj, e1, e2, e3⟩ | ⟨hj, k, S, hk, h0, e1, e2, e3⟩ <;> rcases h' with ⟨hj', e1', e2', e3'⟩ | ⟨hj', k', S', hk', h0', e1', e2', e3'⟩
  · exact ⟨by rw [e1, e1'], by rw [e2, e2'], by rw [e3, e3']⟩
  · exact absurd hj' hj
  · exact absurd hj hj'
  · obtain ⟨_, rfl⟩ := end_uniq hk h0 hk' h0'
    subst e1 e1' e2 e2' e3 e3'
    exact ⟨rfl, rfl, rfl⟩
theorem onw_kind (N : Int) (es : List Ed) (p s l q : Int) (S : St) : (onwR N es p s l q S).2 = 0 ∨ (onwR N es p s l q S).2 = 1 ∨ (onwR N es p s l q S).2 = 2 ∨ (onwR N es p s l q S).2 = 3 := by
  unfold onwR
  split
  · exact .inr (.inl rfl)
  · split
    · exact .inr (.inr (.inr rfl))
    · split
      · exact .inl rfl
      · exact .inr (.inr (.inl rfl))

def AnPost (N : Int) (es : List Ed) (p s l q : Int) (w : World) (r : Ending) (w' : World) : Prop :=
  Below w.heap.size w w' ∧ ∃ kd st vs A c, r = .returned (.agg #[.int .i64 kd, .int .i64 st, .slice A vs.length c]) ∧ Lies w' w'.heap.size 1 A vs.length (vc vs) ∧ vs.length ≤ c ∧ vs.length ≤ 1000000 ∧ IsAns N es p s l q kd st vs

def RnRel (N : Int) (es : List Ed) (p s l q : Int) (w3 : World) (bs : Nat) (g : Nat) (W : World) : Prop :=
  ∃ k S X1 x1 X2 x2 X3 x3, Hid (stAt N es p s l q k = some S) ∧ 41 - k ≤ g ∧ Hid (Rn w3 bs S X1 x1 X2 x2 X3 x3 W)

/-- The state of Step n of a run. -/
def IsAt (N : Int) (es : List Ed) (p s l q n : Int) (t : St × Int) : Prop :=
  (¬ jchk N es p s l q = 0 ∧ t = (noSt, jchk N es p s l q)) ∨
  (jchk N es p s l q = 0 ∧ ((∃ k S, n = (k : Nat) ∧ stAt N es p s l q k = some S ∧ t = (S, 0)) ∨ ((∀ k S, stAt N es p s l q k = some S → ¬ ((k : Nat) : Int) = n) ∧ t = (noSt, 4))))

set_option maxRecDepth 20000 in
set_option maxHeartbeats 2000000 in
theorem run_any (N : Int) (A : Option Addr) (n c : Nat) (es : List Ed) (p s l q : Int) (w : World) (hA : Lies w w.heap.size 3 A n (ec es)) (hnc : n ≤ c) (hn : n ≤ maxLen) :
    Calls Try.prog 23 #[.agg #[.int .i64 N, .slice A n c], .agg #[.int .i64 p, .int .i64 s, .int .i64 l, .int .i64 q]] w (AnPost N es p s l q w) := by
  obtain ⟨w3, hw3⟩ : ∃ w3, w3 = ((w.alloc (.cells #[.int .i64 N, .slice A n c] 24)).alloc (.cells #[.int .i64 p, .int .i64 s, .int .i64 l, .int .i64 q] 26)).alloc (.cells #[.int .i64 0, .int .i64 0, .slice none 0 0] 45) := ⟨_, rfl⟩
  have hbx : Bx w N A n c p s l q w3 := by rw [hw3]; exact (Bx.init w N A n c p s l q).alloc _
  have HT := Lib.hid (fun (W : World) (hb : Below w3.heap.size w3 W) => third w N A n c p s l q (.cells #[.int .i64 0, .int .i64 0, .slice none 0 0] 45) W (by rw [hw3] at hb; exact hb))
  have HA := Lib.hid (hA.next hbx.bl)
  have HBX := Lib.hid hbx
  clear hbx hA
  go_enter Try.func23, Try.ntmps23
  go_wp2_with fail
  rw [← hw3]
  clear hw3
  refine (begin_any N A n c es p s l q _ HA.out hnc hn).mono ?_
  rintro e w5 ⟨hb5, X1, x1, X2, x2, X3, x3, rfl, hs5, f1, f2, f3⟩
  have HB5 := Lib.hid hb5
  by_cases hj : jchk N es p s l q = 0
  · have HJ := Lib.hid hj
    have HN := Lib.hid (jchk_N hj)
    have HBJ := Lib.hid (badJ_not (jchk_zero hj).2)
    have e0 : beginR N es p s l q = (beginS N p s, 0) := by unfold beginR; rw [if_pos hj]
    rw [e0] at hs5 ⊢
    clear hj e0
    dsimp only at hs5 ⊢
    obtain ⟨S0, hS0⟩ : ∃ S0, S0 = beginS N p s := ⟨_, rfl⟩
    rw [← hS0] at hs5 ⊢
    have HAT := Lib.hid (show stAt N es p s l q 0 = some S0 by rw [hS0]; rfl)
    have HRN := Lib.hid (Rn.begin hb5 hs5 f1 f2 f3)
    clear hS0 hs5 f1 f2 f3 hb5
    go_upto_region 2 with fail
    generalize w5.alloc (.cells #[.int .i64 S0.step, .slice X1 S0.vals.length x1, .slice X2 S0.rest.length x2, .slice X3 S0.inn.length x3] 31) = W5 at HRN ⊢
    generalize w5.heap.size = bs at HRN ⊢
    clear HB5
    go_wp2_with fail
    go_loopg [8] 41 (fun g v W => RnRel N es p s l q w3 bs g W)
    case atStart => exact ⟨0, S0, X1, x1, X2, x2, X3, x3, HAT, by omega, HRN⟩
    case round =>
      clear HAT HRN
      obtain ⟨k, S, Y1, y1, Y2, y2, Y3, y3, HK, hg, HR⟩ := hrel
      have HXW := Lib.hid (HBX.out.next HR.out.bl)
      have g0 := HXW.out.g0
      have g1 := HXW.out.g1
      have j0 := HXW.out.j0
      have j1 := HXW.out.j1
      have j2 := HXW.out.j2
      have j3 := HXW.out.j3
      have b0 := cell_of_row wr _ 0 _ 31 (0, 0) HR.out.nb
      have b1 := cell_of_row wr _ 1 _ 31 (0, 0) HR.out.nb
      have b2 := cell_of_row wr _ 2 _ 31 (0, 0) HR.out.nb
      have b3 := cell_of_row wr _ 3 _ 31 (0, 0) HR.out.nb
      have HST := Lib.hid (stAt_step k HK.out)
      have HLE := Lib.hid (stAt_le (by have := HBJ.out; omega) k HK.out)
      go_wp2_with fail
      refine (onward_any N A n c es p s l q S Y1 y1 Y2 y2 Y3 y3 _ (HA.out.next HR.out.bl) hnc hn HR.out.st).mono ?_
      rintro e w6 ⟨hb6, Z1, z1, Z2, z2, Z3, z3, rfl, hs6, f1, f2, f3⟩
      have HKD := Lib.hid (onw_kind N es p s l q S)
      obtain ⟨t, ht⟩ : ∃ t, t = onwR N es p s l q S := ⟨_, rfl⟩
      have HON := Lib.hid ht
      rw [← ht] at hs6 HKD ⊢
      clear ht g0 g1 j0 j1 j2 j3 b0 b1 b2 b3
      obtain ⟨S', kd⟩ := t
      dsimp only at hs6 HKD ⊢
      have HGO := Lib.hid (HR.out.go (.cells #[.int .i64 S'.step, .slice Z1 S'.vals.length z1, .slice Z2 S'.rest.length z2, .slice Z3 S'.inn.length z3] 31) hb6 hs6 f1 f2 f3)
      have n0 : (w6.alloc (.cells #[.int .i64 S'.step, .slice Z1 S'.vals.length z1, .slice Z2 S'.rest.length z2, .slice Z3 S'.inn.length z3] 31)).cell? ⟨w6.heap.size, 0, none⟩ = some (.int .i64 S'.step) := by simp [go_sem]
      have n1 : (w6.alloc (.cells #[.int .i64 S'.step, .slice Z1 S'.vals.length z1, .slice Z2 S'.rest.length z2, .slice Z3 S'.inn.length z3] 31)).cell? ⟨w6.heap.size, 1, none⟩ = some (.slice Z1 S'.vals.length z1) := by simp [go_sem]
      have n2 : (w6.alloc (.cells #[.int .i64 S'.step, .slice Z1 S'.vals.length z1, .slice Z2 S'.rest.length z2, .slice Z3 S'.inn.length z3] 31)).cell? ⟨w6.heap.size, 2, none⟩ = some (.slice Z2 S'.rest.length z2) := by simp [go_sem]
      have n3 : (w6.alloc (.cells #[.int .i64 S'.step, .slice Z1 S'.vals.length z1, .slice Z2 S'.rest.length z2, .slice Z3 S'.inn.length z3] 31)).cell? ⟨w6.heap.size, 3, none⟩ = some (.slice Z3 S'.inn.length z3) := by simp [go_sem]
      have hlt := lt_of_block HR.out.nb
      have HBL7 := Lib.hid ((HR.out.bl.trans (hb6.mono HR.out.bl.size)).alloc (Nat.le_trans HR.out.bl.size hb6.size) (.cells #[.int .i64 S'.step, .slice Z1 S'.vals.length z1, .slice Z2 S'.rest.length z2, .slice Z3 S'.inn.length z3] 31))
      have z7 := (Below.heap_alloc w6 (.cells #[.int .i64 S'.step, .slice Z1 S'.vals.length z1, .slice Z2 S'.rest.length z2, .slice Z3 S'.inn.length z3] 31) bs (Nat.lt_of_lt_of_le hlt hb6.size)).trans ((hb6.block _ hlt).trans HR.out.nb)
      have HSV := Lib.hid ((HR.out.st.next hb6).next (below_alloc w6 (.cells #[.int .i64 S'.step, .slice Z1 S'.vals.length z1, .slice Z2 S'.rest.length z2, .slice Z3 S'.inn.length z3] 31)))
      clear hs6 f1 f2 f3
      go_upto_region 5 with fail
      generalize w6.alloc (.cells #[.int .i64 S'.step, .slice Z1 S'.vals.length z1, .slice Z2 S'.rest.length z2, .slice Z3 S'.inn.length z3] 31) = W7 at HGO n0 n1 n2 n3 HBL7 z7 HSV ⊢
      generalize w6.heap.size = b6 at n0 n1 n2 n3 ⊢
      have b0 := cell_of_row W7 _ 0 _ 31 (0, 0) z7
      have e0 := unfrozen z7 0
      have b1 := cell_of_row W7 _ 1 _ 31 (0, 0) z7
      have e1 := unfrozen z7 1
      have b2 := cell_of_row W7 _ 2 _ 31 (0, 0) z7
      have e2 := unfrozen z7 2
      have b3 := cell_of_row W7 _ 3 _ 31 (0, 0) z7
      have e3 := unfrozen z7 3
      have HFR := Lib.hid (show Fr w3.heap.size Y1 from HR.out.f1)
      clear HR hb6 hlt
      by_cases h0 : kd = 0
      · subst h0
        have HK1 := Lib.hid (show stAt N es p s l q (k + 1) = some S' by have := stAt_next HK.out (by rw [← HON.out]); rw [← HON.out] at this; exact this)
        have hk1 : k + 1 ≤ 40 := by have := stAt_le (by have := HBJ.out; omega) (k + 1) HK1.out; have := HBJ.out; omega
        go_wp2_with fail
        go_roundg (gk - 1)
        case measure => omega
        case rel => exact ⟨k + 1, S', Z1, z1, Z2, z2, Z3, z3, HK1, by omega, HGO⟩
      · have h0' : (kd == 0) = false := by simpa using h0
        have ha := HT.out W7 HBL7.out
        have hlt3 := (HT.out w3 (Below.refl _ _)).2
        have hbx7 := (HBX.out.next HBL7.out).bl
        have HB7 := Lib.hid hbx7
        have hza := ha.1
        have r0 := cell_of_row W7 _ 0 _ 45 (0, 0) hza
        have f0 := unfrozen hza 0
        have r1 := cell_of_row W7 _ 1 _ 45 (0, 0) hza
        have f1 := unfrozen hza 1
        have r2 := cell_of_row W7 _ 2 _ 45 (0, 0) hza
        have f2 := unfrozen hza 2
        clear ha hza hbx7 n0 n1 n2 n3 HGO
        by_cases h2 : kd = 2
        · subst h2
          have HANS := Lib.hid (show IsAns N es p s l q 2 S.step [] from .inr ⟨HJ.out, k, S, HK.out, by rw [← HON.out]; show ¬ (2 : Int) = 0; decide, by rw [← HON.out], rfl, rfl⟩)
          clear h0 h0'
          go_wp2_with fail
          refine bodyPost_ret (v := .agg #[.int .i64 2, .int .i64 S.step, .slice none 0 0]) (by simp [results, Try.results23, go_sem, r0, r1, r2]) rfl ?_
          exact ⟨(((HB7.out.setCell (by simp; omega) _).setCell (by simp; omega) _).setCell (by simp; omega) _), 2, S.step, [], none, 0, rfl, Lies.nil, Nat.le_refl _, by simp, HANS.out⟩
        · have h2' : (kd == 2) = false := by simpa using h2
          have HANS := Lib.hid (show IsAns N es p s l q kd S.step S.vals from .inr ⟨HJ.out, k, S, HK.out, by rw [← HON.out]; exact h0, by rw [← HON.out], rfl, by rw [if_neg h2]⟩)
          clear h0 h2
          go_wp2_with fail
          refine bodyPost_ret (v := .agg #[.int .i64 kd, .int .i64 S.step, .slice Y1 S.vals.length y1]) (by simp [results, Try.results23, go_sem, r0, r1, r2]) rfl ?_
          exact ⟨(((HB7.out.setCell (by simp; omega) _).setCell (by simp; omega) _).setCell (by simp; omega) _), kd, S.step, S.vals, Y1, y1, rfl, (((HSV.out.v.set (b := w.heap.size + 1 + 1) (i := 0) HFR.out hlt3 _).set (b := w.heap.size + 1 + 1) (i := 1) HFR.out hlt3 _).set (b := w.heap.size + 1 + 1) (i := 2) HFR.out hlt3 _).more (by simp [World.setCell]), HSV.out.cv, HSV.out.ok.lv, HANS.out⟩
  · have e0 : beginR N es p s l q = (noSt, jchk N es p s l q) := by unfold beginR; rw [if_neg hj]
    rw [e0] at hs5 ⊢
    have HANS := Lib.hid (show IsAns N es p s l q 4 0 [] from .inl ⟨hj, rfl, rfl, rfl⟩)
    have hj1 : (jchk N es p s l q != 0) = true := by simpa using hj
    have HBL7 := Lib.hid (hb5.alloc hb5.size (.cells #[.int .i64 noSt.step, .slice X1 noSt.vals.length x1, .slice X2 noSt.rest.length x2, .slice X3 noSt.inn.length x3] 31))
    dsimp only at hs5 ⊢
    clear e0 hj hs5 f1 f2 f3 hb5
    go_upto_region 2 with fail
    generalize w5.alloc (.cells #[.int .i64 noSt.step, .slice X1 noSt.vals.length x1, .slice X2 noSt.rest.length x2, .slice X3 noSt.inn.length x3] 31) = W7 at HBL7 ⊢
    have hza := (HT.out W7 HBL7.out).1
    have HB7 := Lib.hid (HBX.out.next HBL7.out).bl
    have r0 := cell_of_row W7 _ 0 _ 45 (0, 0) hza
    have f0 := unfrozen hza 0
    have r1 := cell_of_row W7 _ 1 _ 45 (0, 0) hza
    have f1 := unfrozen hza 1
    have r2 := cell_of_row W7 _ 2 _ 45 (0, 0) hza
    have f2 := unfrozen hza 2
    clear hza
    go_wp2_with fail
    refine bodyPost_ret (v := .agg #[.int .i64 4, .int .i64 0, .slice none 0 0]) (by simp [results, Try.results23, go_sem, r0, r1, r2]) rfl ?_
    exact ⟨(((HB7.out.setCell (by simp; omega) _).setCell (by simp; omega) _).setCell (by simp; omega) _), 4, 0, [], none, 0, rfl, Lies.nil, Nat.le_refl _, by simp, HANS.out⟩
def AtRel6 (N : Int) (es : List Ed) (p s l q m : Int) (w3 : World) (bs : Nat) (g : Nat) (W : World) : Prop :=
  ∃ k S X1 x1 X2 x2 X3 x3, Hid (stAt N es p s l q k = some S) ∧ 41 - k ≤ g ∧ Hid (Rn w3 bs S X1 x1 X2 x2 X3 x3 W) ∧ Hid (∀ i : Nat, i < k → ¬ (i : Int) = m)
def AtPost (N : Int) (es : List Ed) (p s l q m : Int) (w : World) (r : Ending) (w' : World) : Prop := ∃ t, IsAt N es p s l q m t ∧ StPost t w r w'

set_option maxRecDepth 20000 in
set_option maxHeartbeats 2000000 in
theorem atn_any (N : Int) (A : Option Addr) (n c : Nat) (es : List Ed) (p s l q : Int) (m : Int) (w : World) (hA : Lies w w.heap.size 3 A n (ec es)) (hnc : n ≤ c) (hn : n ≤ maxLen) :
    Calls Try.prog 24 #[.agg #[.int .i64 N, .slice A n c], .agg #[.int .i64 p, .int .i64 s, .int .i64 l, .int .i64 q], .int .i64 m] w (AtPost N es p s l q m w) := by
  obtain ⟨w3, hw3⟩ : ∃ w3, w3 = ((w.alloc (.cells #[.int .i64 N, .slice A n c] 24)).alloc (.cells #[.int .i64 p, .int .i64 s, .int .i64 l, .int .i64 q] 26)).alloc (.cells #[.int .i64 0, .slice none 0 0, .slice none 0 0, .slice none 0 0] 31) := ⟨_, rfl⟩
  have hbx : Bx w N A n c p s l q w3 := by rw [hw3]; exact (Bx.init w N A n c p s l q).alloc _
  have HT := Lib.hid (fun (W : World) (hb : Below w3.heap.size w3 W) => third w N A n c p s l q (.cells #[.int .i64 0, .slice none 0 0, .slice none 0 0, .slice none 0 0] 31) W (by rw [hw3] at hb; exact hb))
  have HA := Lib.hid (hA.next hbx.bl)
  have HBX := Lib.hid hbx
  clear hbx hA
  go_enter Try.func24, Try.ntmps24
  go_wp2_with fail
  rw [← hw3]
  clear hw3
  refine (begin_any N A n c es p s l q _ HA.out hnc hn).mono ?_
  rintro e w5 ⟨hb5, X1, x1, X2, x2, X3, x3, rfl, hs5, f1, f2, f3⟩
  have HB5 := Lib.hid hb5
  by_cases hj : jchk N es p s l q = 0
  · have HJ := Lib.hid hj
    have HN := Lib.hid (jchk_N hj)
    have HBJ := Lib.hid (badJ_not (jchk_zero hj).2)
    have e0 : beginR N es p s l q = (beginS N p s, 0) := by unfold beginR; rw [if_pos hj]
    rw [e0] at hs5 ⊢
    clear hj e0
    dsimp only at hs5 ⊢
    obtain ⟨S0, hS0⟩ : ∃ S0, S0 = beginS N p s := ⟨_, rfl⟩
    rw [← hS0] at hs5 ⊢
    have HAT := Lib.hid (show stAt N es p s l q 0 = some S0 by rw [hS0]; rfl)
    have HRN := Lib.hid (Rn.begin hb5 hs5 f1 f2 f3)
    clear hS0 hs5 f1 f2 f3 hb5
    go_upto_region 2 with fail
    generalize w5.alloc (.cells #[.int .i64 S0.step, .slice X1 S0.vals.length x1, .slice X2 S0.rest.length x2, .slice X3 S0.inn.length x3] 31) = W5 at HRN ⊢
    generalize w5.heap.size = bs at HRN ⊢
    clear HB5
    go_wp2_with fail
    go_loopg [11] 41 (fun g v W => AtRel6 N es p s l q m w3 bs g W)
    case atStart => exact ⟨0, S0, X1, x1, X2, x2, X3, x3, HAT, by omega, HRN, fun i h => by omega⟩
    case round =>
      clear HAT HRN
      obtain ⟨k, S, Y1, y1, Y2, y2, Y3, y3, HK, hg, HR, HPR⟩ := hrel
      have HXW := Lib.hid (HBX.out.next HR.out.bl)
      have g0 := HXW.out.g0
      have g1 := HXW.out.g1
      have j0 := HXW.out.j0
      have j1 := HXW.out.j1
      have j2 := HXW.out.j2
      have j3 := HXW.out.j3
      have b0 := cell_of_row wr _ 0 _ 31 (0, 0) HR.out.nb
      have b1 := cell_of_row wr _ 1 _ 31 (0, 0) HR.out.nb
      have b2 := cell_of_row wr _ 2 _ 31 (0, 0) HR.out.nb
      have b3 := cell_of_row wr _ 3 _ 31 (0, 0) HR.out.nb
      have HST := Lib.hid (stAt_step k HK.out)
      have HLE := Lib.hid (stAt_le (by have := HBJ.out; omega) k HK.out)
      by_cases hm : S.step = m
      · have hm' : (S.step != m) = false := by simpa using hm
        have HIS := Lib.hid (show IsAt N es p s l q m (S, 0) from .inr ⟨HJ.out, .inl ⟨k, S, by rw [← hm, HST.out], HK.out, rfl⟩⟩)
        have ha := HT.out wr HR.out.bl
        have hza := ha.1
        have hlt3 := (HT.out w3 (Below.refl _ _)).2
        have HB7 := Lib.hid HXW.out.bl
        have r0 := cell_of_row wr _ 0 _ 31 (0, 0) hza
        have f0 := unfrozen hza 0
        have r1 := cell_of_row wr _ 1 _ 31 (0, 0) hza
        have f1 := unfrozen hza 1
        have r2 := cell_of_row wr _ 2 _ 31 (0, 0) hza
        have f2 := unfrozen hza 2
        have r3 := cell_of_row wr _ 3 _ 31 (0, 0) hza
        have f3 := unfrozen hza 3
        have HS9 := Lib.hid HR.out.st
        have HFX := Lib.hid (show Fr w3.heap.size Y1 ∧ Fr w3.heap.size Y2 ∧ Fr w3.heap.size Y3 from ⟨HR.out.f1, HR.out.f2, HR.out.f3⟩)
        have HLTW := Lib.hid HBX.out.bl.size
        clear ha hza HR g0 g1 j0 j1 j2 j3 hm HXW
        go_wp2_with fail
        refine bodyPost_ret (v := .tuple #[.agg #[.int .i64 S.step, .slice Y1 S.vals.length y1, .slice Y2 S.rest.length y2, .slice Y3 S.inn.length y3], .int .i64 0]) (by simp [results, Try.results24, go_sem, r0, r1, r2, r3]) rfl ?_
        exact ⟨(S, 0), HIS.out, ((((HB7.out.setCell (by simp; omega) _).setCell (by simp; omega) _).setCell (by simp; omega) _).setCell (by simp; omega) _), Y1, y1, Y2, y2, Y3, y3, rfl, (((((HS9.out.set (b := w.heap.size + 1 + 1) (i := 0) HFX.out.1 HFX.out.2.1 HFX.out.2.2 hlt3 _).set (b := w.heap.size + 1 + 1) (i := 1) HFX.out.1 HFX.out.2.1 HFX.out.2.2 hlt3 _).set (b := w.heap.size + 1 + 1) (i := 2) HFX.out.1 HFX.out.2.1 HFX.out.2.2 hlt3 _).set (b := w.heap.size + 1 + 1) (i := 3) HFX.out.1 HFX.out.2.1 HFX.out.2.2 hlt3 _).more (by simp [World.setCell])), HFX.out.1.low HLTW.out, HFX.out.2.1.low HLTW.out, HFX.out.2.2.low HLTW.out⟩
      · have hm' : (S.step != m) = true := by simpa using hm
        have HNM := Lib.hid (show ∀ i : Nat, i < k + 1 → ¬ (i : Int) = m from fun i hi => by
          by_cases e : i = k
          · rw [e, ← HST.out]; exact hm
          · exact HPR.out i (by omega))
        clear hm
        go_wp2_with fail
        refine (onward_any N A n c es p s l q S Y1 y1 Y2 y2 Y3 y3 _ (HA.out.next HR.out.bl) hnc hn HR.out.st).mono ?_
        rintro e w6 ⟨hb6, Z1, z1, Z2, z2, Z3, z3, rfl, hs6, f1, f2, f3⟩
        obtain ⟨t, ht⟩ : ∃ t, t = onwR N es p s l q S := ⟨_, rfl⟩
        have HON := Lib.hid ht
        rw [← ht] at hs6 ⊢
        clear ht g0 g1 j0 j1 j2 j3 b0 b1 b2 b3
        obtain ⟨S', kd⟩ := t
        dsimp only at hs6 ⊢
        have HGO := Lib.hid (HR.out.go (.cells #[.int .i64 S'.step, .slice Z1 S'.vals.length z1, .slice Z2 S'.rest.length z2, .slice Z3 S'.inn.length z3] 31) hb6 hs6 f1 f2 f3)
        have n0 : (w6.alloc (.cells #[.int .i64 S'.step, .slice Z1 S'.vals.length z1, .slice Z2 S'.rest.length z2, .slice Z3 S'.inn.length z3] 31)).cell? ⟨w6.heap.size, 0, none⟩ = some (.int .i64 S'.step) := by simp [go_sem]
        have n1 : (w6.alloc (.cells #[.int .i64 S'.step, .slice Z1 S'.vals.length z1, .slice Z2 S'.rest.length z2, .slice Z3 S'.inn.length z3] 31)).cell? ⟨w6.heap.size, 1, none⟩ = some (.slice Z1 S'.vals.length z1) := by simp [go_sem]
        have n2 : (w6.alloc (.cells #[.int .i64 S'.step, .slice Z1 S'.vals.length z1, .slice Z2 S'.rest.length z2, .slice Z3 S'.inn.length z3] 31)).cell? ⟨w6.heap.size, 2, none⟩ = some (.slice Z2 S'.rest.length z2) := by simp [go_sem]
        have n3 : (w6.alloc (.cells #[.int .i64 S'.step, .slice Z1 S'.vals.length z1, .slice Z2 S'.rest.length z2, .slice Z3 S'.inn.length z3] 31)).cell? ⟨w6.heap.size, 3, none⟩ = some (.slice Z3 S'.inn.length z3) := by simp [go_sem]
        have hlt := lt_of_block HR.out.nb
        have HBL7 := Lib.hid ((HR.out.bl.trans (hb6.mono HR.out.bl.size)).alloc (Nat.le_trans HR.out.bl.size hb6.size) (.cells #[.int .i64 S'.step, .slice Z1 S'.vals.length z1, .slice Z2 S'.rest.length z2, .slice Z3 S'.inn.length z3] 31))
        have z7 := (Below.heap_alloc w6 (.cells #[.int .i64 S'.step, .slice Z1 S'.vals.length z1, .slice Z2 S'.rest.length z2, .slice Z3 S'.inn.length z3] 31) bs (Nat.lt_of_lt_of_le hlt hb6.size)).trans ((hb6.block _ hlt).trans HR.out.nb)
        clear hs6 f1 f2 f3
        go_upto_region 6 with fail
        generalize w6.alloc (.cells #[.int .i64 S'.step, .slice Z1 S'.vals.length z1, .slice Z2 S'.rest.length z2, .slice Z3 S'.inn.length z3] 31) = W7 at HGO n0 n1 n2 n3 HBL7 z7 ⊢
        generalize w6.heap.size = b6 at n0 n1 n2 n3 ⊢
        have b0 := cell_of_row W7 _ 0 _ 31 (0, 0) z7
        have e0 := unfrozen z7 0
        have b1 := cell_of_row W7 _ 1 _ 31 (0, 0) z7
        have e1 := unfrozen z7 1
        have b2 := cell_of_row W7 _ 2 _ 31 (0, 0) z7
        have e2 := unfrozen z7 2
        have b3 := cell_of_row W7 _ 3 _ 31 (0, 0) z7
        have e3 := unfrozen z7 3
        clear HR hb6 hlt
        by_cases h0 : kd = 0
        · subst h0
          have HK1 := Lib.hid (show stAt N es p s l q (k + 1) = some S' by have := stAt_next HK.out (by rw [← HON.out]); rw [← HON.out] at this; exact this)
          have hk1 : k + 1 ≤ 40 := by have := stAt_le (by have := HBJ.out; omega) (k + 1) HK1.out; have := HBJ.out; omega
          go_wp2_with fail
          go_roundg (gk - 1)
          case measure => omega
          case rel => exact ⟨k + 1, S', Z1, z1, Z2, z2, Z3, z3, HK1, by omega, HGO, HNM⟩
        · have h0' : (kd != 0) = true := by simpa using h0
          have hno : ∀ (i : Nat) (S2 : St), stAt N es p s l q i = some S2 → ¬ (i : Int) = m := by
            intro i S2 h
            by_cases hi : i < k + 1
            · exact HNM.out i hi
            · rw [stAt_end HK.out (by rw [← HON.out]; exact h0) i (by omega)] at h
              cases h
          have HIS := Lib.hid (show IsAt N es p s l q m (noSt, 4) from .inr ⟨HJ.out, .inr ⟨hno, rfl⟩⟩)
          clear hno
          have hza := (HT.out W7 HBL7.out).1
          have HB7 := Lib.hid (HBX.out.next HBL7.out).bl
          clear n0 n1 n2 n3 HGO h0
          have r0 := cell_of_row W7 _ 0 _ 31 (0, 0) hza
          have f0 := unfrozen hza 0
          have r1 := cell_of_row W7 _ 1 _ 31 (0, 0) hza
          have f1 := unfrozen hza 1
          have r2 := cell_of_row W7 _ 2 _ 31 (0, 0) hza
          have f2 := unfrozen hza 2
          have r3 := cell_of_row W7 _ 3 _ 31 (0, 0) hza
          have f3 := unfrozen hza 3
          clear hza
          go_wp2_with fail
          refine bodyPost_ret (v := .tuple #[.agg #[.int .i64 0, .slice none 0 0, .slice none 0 0, .slice none 0 0], .int .i64 4]) (by simp [results, Try.results24, go_sem, r0, r1, r2, r3]) rfl ?_
          exact ⟨_, HIS.out, st_no rfl ((((HB7.out.setCell (by simp; omega) _).setCell (by simp; omega) _).setCell (by simp; omega) _).setCell (by simp; omega) _)⟩
  · have e0 : beginR N es p s l q = (noSt, jchk N es p s l q) := by unfold beginR; rw [if_neg hj]
    rw [e0] at hs5 ⊢
    have HIS := Lib.hid (show IsAt N es p s l q m (noSt, jchk N es p s l q) from .inl ⟨hj, rfl⟩)
    have hj1 : (jchk N es p s l q != 0) = true := by simpa using hj
    have HBL7 := Lib.hid (hb5.alloc hb5.size (.cells #[.int .i64 noSt.step, .slice X1 noSt.vals.length x1, .slice X2 noSt.rest.length x2, .slice X3 noSt.inn.length x3] 31))
    dsimp only at hs5 ⊢
    clear e0 hj hs5 f1 f2 f3 hb5
    go_upto_region 2 with fail
    generalize w5.alloc (.cells #[.int .i64 noSt.step, .slice X1 noSt.vals.length x1, .slice X2 noSt.rest.length x2, .slice X3 noSt.inn.length x3] 31) = W7 at HBL7 ⊢
    have hza := (HT.out W7 HBL7.out).1
    have HB7 := Lib.hid (HBX.out.next HBL7.out).bl
    have r0 := cell_of_row W7 _ 0 _ 31 (0, 0) hza
    have f0 := unfrozen hza 0
    have r1 := cell_of_row W7 _ 1 _ 31 (0, 0) hza
    have f1 := unfrozen hza 1
    have r2 := cell_of_row W7 _ 2 _ 31 (0, 0) hza
    have f2 := unfrozen hza 2
    have r3 := cell_of_row W7 _ 3 _ 31 (0, 0) hza
    have f3 := unfrozen hza 3
    clear hza
    go_wp2_with fail
    refine bodyPost_ret (v := .tuple #[.agg #[.int .i64 0, .slice none 0 0, .slice none 0 0, .slice none 0 0], .int .i64 (jchk N es p s l q)]) (by simp [results, Try.results24, go_sem, r0, r1, r2, r3]) rfl ?_
    exact ⟨_, HIS.out, st_no rfl ((((HB7.out.setCell (by simp; omega) _).setCell (by simp; omega) _).setCell (by simp; omega) _).setCell (by simp; omega) _)⟩
end Go.Proofs.Ytkmflofokgkekaa
