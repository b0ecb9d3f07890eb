/-
  The contract of the document's States: all states of a run, and its answer. No condition.
-/
import Derived.Test.YtkmflofokgkekaaSqN
import Derived.Test.YtkmflofokgkekaaSqJ
import Derived.Test.YtkmflofokgkekaaSqK
import Derived.Deep.LoopGhost
namespace Go.Proofs.Ytkmflofokgkekaa
open Go.ChangeShapes Go.WideShapes Go.ChangeAt Go.RowKit
set_option linter.unusedVariables false

/-- All states of a run, and what it comes to. -/
def SsPost (N : Int) (es : List Ed) (p s l q : Int) (w : World) (r : Ending) (w' : World) : Prop :=
  Below w.heap.size w w' ∧
  ((¬ jchk N es p s l q = 0 ∧ r = .returned (.tuple #[.slice none 0 0, .agg #[.int .i64 4, .int .i64 0, .slice none 0 0]])) ∨
   (jchk N es p s l q = 0 ∧ ∃ (b g c : Nat) (ls : List Se) (kd st : Int) (vs : List Int) (A : Option Addr) (cv : Nat), r = .returned (.tuple #[.slice (some ⟨g, 0, none⟩) ls.length c, .agg #[.int .i64 kd, .int .i64 st, .slice A vs.length cv]]) ∧
     w'.ownsRow b 31 4 (.slice (some ⟨g, 0, none⟩) ls.length c) ls.length (sc ls) ∧ (∀ e ∈ ls, StL w' w'.heap.size e.S e.A1 e.c1 e.A2 e.c2 e.A3 e.c3) ∧ (∀ i (h : i < ls.length), stAt N es p s l q i = some ls[i].S) ∧ (∀ i, ls.length ≤ i → stAt N es p s l q i = none) ∧
     Lies w' w'.heap.size 1 A vs.length (vc vs) ∧ vs.length ≤ cv ∧ vs.length ≤ 1000000 ∧ IsAns N es p s l q kd st vs ∧ ls.length ≤ 41))

def SsRel (N : Int) (es : List Ed) (p s l q : Int) (w3 : World) (gk : Nat) (o : Value) (W : World) : Prop :=
  ∃ (k g c : Nat) (ls : List Se), o = .slice (some ⟨g, 0, none⟩) (k + 1) c ∧ Hid (ls.length = k + 1) ∧ 41 - k ≤ gk ∧ Hid (Sls w3 g c ls W) ∧ Hid (∀ i (h : i < ls.length), stAt N es p s l q i = some ls[i].S)

theorem ss_end {N : Int} {es : List Ed} {p s l q : Int} {w w3 W : World} {g c k : Nat} {ls : List Se} {kd : Int} {vs : List Int} {A : Option Addr} {cv : Nat} {u0 u1 u2 : Value} {rb : Nat} (hj : jchk N es p s l q = 0) (hl : ls.length = k + 1) (hk : k ≤ 40) (h : Sls w3 g c ls W) (hs : ∀ i (h : i < ls.length), stAt N es p s l q i = some ls[i].S)
    (hlt : k < ls.length) (h0 : ¬ (onwR N es p s l q ls[k].S).2 = 0) (hkd : kd = (onwR N es p s l q ls[k].S).2) (hvs : vs = if kd = 2 then [] else ls[k].S.vals) (hA : Lies W W.heap.size 1 A vs.length (vc vs)) (hcv : vs.length ≤ cv) (hF : Fr w3.heap.size A) (hrb : rb < w3.heap.size) (hw : w.heap.size ≤ rb) (hb : Below w.heap.size w W) :
    SsPost N es p s l q w (.returned (.tuple #[.slice (some ⟨g, 0, none⟩) (k + 1) c, .agg #[.int .i64 kd, .int .i64 ls[k].S.step, .slice A vs.length cv]])) (((W.setCell ⟨rb, 0, none⟩ u0).setCell ⟨rb, 1, none⟩ u1).setCell ⟨rb, 2, none⟩ u2).drew := by
  have hok : Ok ls[k].S := (h.el _ (List.getElem_mem hlt)).st.ok
  refine ⟨(((hb.setCell (p := ⟨rb, 0, none⟩) hw _).setCell (p := ⟨rb, 1, none⟩) hw _).setCell (p := ⟨rb, 2, none⟩) hw _).drew, .inr ⟨hj, w3.heap.size, g, c, ls, kd, ls[k].S.step, vs, A, cv, by rw [hl], ?_, ?_, hs, ?_, ?_, hcv, ?_, ?_, by omega⟩⟩
  · exact (ownsRow_setCell_below (ownsRow_setCell_below (ownsRow_setCell_below h.own (a := ⟨rb, 0, none⟩) hrb _) (a := ⟨rb, 1, none⟩) hrb _) (a := ⟨rb, 2, none⟩) hrb _).drew
  · intro e he
    have x := h.el e he
    have y := (((x.st.set (b := rb) (i := 0) x.f1 x.f2 x.f3 hrb u0).set (b := rb) (i := 1) x.f1 x.f2 x.f3 hrb u1).set (b := rb) (i := 2) x.f1 x.f2 x.f3 hrb u2)
    have z : StL (((W.setCell ⟨rb, 0, none⟩ u0).setCell ⟨rb, 1, none⟩ u1).setCell ⟨rb, 2, none⟩ u2).drew W.heap.size e.S e.A1 e.c1 e.A2 e.c2 e.A3 e.c3 := ⟨y.v, y.r, y.m, y.cv, y.cr, y.cm, y.ok⟩
    exact z.more (by simp [World.setCell])
  · intro i hi
    exact stAt_end (hs k hlt) h0 i (by omega)
  · have y := (((hA.set (b := rb) (i := 0) hF hrb u0).set (b := rb) (i := 1) hF hrb u1).set (b := rb) (i := 2) hF hrb u2)
    have z : Lies (((W.setCell ⟨rb, 0, none⟩ u0).setCell ⟨rb, 1, none⟩ u1).setCell ⟨rb, 2, none⟩ u2).drew W.heap.size 1 A vs.length (vc vs) := y
    exact z.more (by simp [World.setCell])
  · rw [hvs]; split
    · simp
    · exact hok.lv
  · exact .inr ⟨hj, k, ls[k].S, hs k hlt, h0, hkd, rfl, hvs⟩

set_option maxRecDepth 20000 in
set_option maxHeartbeats 4000000 in
theorem states_any (N : Int) (A : Option Addr) (n c : Nat) (es : List Ed) (p s l q : Int) (w : World) (hA : Lies w w.heap.size 3 A n (ec es)) (hnc : n ≤ c) (hn : n ≤ maxLen) :
    Calls Try.prog 21 #[.agg #[.int .i64 N, .slice A n c], .agg #[.int .i64 p, .int .i64 s, .int .i64 l, .int .i64 q]] w (SsPost N es p s l q w) := by
  have mixed : Try.prog.follows .mixedOrders = true := by kernel_rfl
  obtain ⟨i0, hi0, hz0, hzs, hzb⟩ := info_parts (show (Try.prog.info? 31).map (fun i => (i.zero, i.size, i.bytes)) = some (some (.agg #[.int .i64 0, .slice none 0 0, .slice none 0 0, .slice none 0 0]), 4, 80) by kernel_rfl)
  have HI0 := Lib.hid hi0
  have HZ0 := Lib.hid hz0
  have HZS := Lib.hid hzs
  have HZB := Lib.hid hzb
  clear hi0 hz0 hzs hzb
  obtain ⟨w3, hw3⟩ : ∃ w3, w3 = ((w.alloc (.cells #[.int .i64 N, .slice A n c] 24)).alloc (.cells #[.int .i64 p, .int .i64 s, .int .i64 l, .int .i64 q] 26)).alloc (.cells #[.int .i64 0, .int .i64 0, .slice none 0 0] 45) := ⟨_, rfl⟩
  have hbx : Bx w N A n c p s l q w3 := by rw [hw3]; exact (Bx.init w N A n c p s l q).alloc _
  have HT := Lib.hid (fun (W : World) (hb : Below w3.heap.size w3 W) => third w N A n c p s l q (.cells #[.int .i64 0, .int .i64 0, .slice none 0 0] 45) W (by rw [hw3] at hb; exact hb))
  have HA := Lib.hid (hA.next hbx.bl)
  have HBX := Lib.hid hbx
  clear hbx hA
  go_enter Try.func21, Try.ntmps21
  go_wp2_with fail
  rw [← hw3]
  clear hw3
  refine (rjcheck_any N A n c es p s l q _ HA.out hnc hn).mono ?_
  rintro e w5 ⟨rfl, hb5⟩
  have HB5 := Lib.hid hb5
  have HXW := Lib.hid (HBX.out.next hb5)
  have hlt3 := (HT.out w3 (Below.refl _ _)).2
  by_cases hj : jchk N es p s l q = 0
  · have HJ := Lib.hid hj
    have HN := Lib.hid (jchk_N hj)
    have HBJ := Lib.hid (badJ_not (jchk_zero hj).2)
    rw [hj]
    have g0 := HXW.out.g0
    have g1 := HXW.out.g1
    have j0 := HXW.out.j0
    have j1 := HXW.out.j1
    have j2 := HXW.out.j2
    have j3 := HXW.out.j3
    clear hj hb5
    go_wp2_with fail
    refine (rbegin_any N A n c es p s l q _ HJ.out).mono ?_
    rintro e w6 ⟨hb6, X1, x1, X2, x2, X3, x3, rfl, hs6, f1, f2, f3⟩
    obtain ⟨S0, hS0⟩ : ∃ S0, S0 = beginS N p s := ⟨_, rfl⟩
    rw [← hS0] at hs6 ⊢
    have HAT := Lib.hid (show stAt N es p s l q 0 = some S0 by rw [hS0]; rfl)
    have HB6 := Lib.hid (HB5.out.trans (hb6.mono HB5.out.size))
    have HS0 := Lib.hid (show Sls w3 w6.heap.size 1 [⟨S0, X1, x1, X2, x2, X3, x3⟩] (w6.alloc (.cells #[.int .i64 S0.step, .slice X1 S0.vals.length x1, .slice X2 S0.rest.length x2, .slice X3 S0.inn.length x3] 31)) from
      ⟨HB6.out.alloc HB6.out.size _, ⟨rfl, .inr ⟨w6.heap.size, 1, _, rfl, HB6.out.size, heap_alloc_new _ _, Nat.le_refl _, by unfold maxLen; omega, rfl, rfl⟩⟩, fun e he => by
        rw [List.mem_singleton] at he
        subst he
        exact ⟨hs6.next (below_alloc _ _), f1.low HB5.out.size, f2.low HB5.out.size, f3.low HB5.out.size, hs6.v.nbl (Nat.le_refl _), hs6.r.nbl (Nat.le_refl _), hs6.m.nbl (Nat.le_refl _)⟩⟩)
    clear hS0 hs6 f1 f2 f3 hb6 g0 g1 j0 j1 j2 j3
    go_wp2_with fail
    generalize w6.alloc (.cells #[.int .i64 S0.step, .slice X1 S0.vals.length x1, .slice X2 S0.rest.length x2, .slice X3 S0.inn.length x3] 31) = W6 at HS0 ⊢
    generalize w6.heap.size = g6 at HS0 ⊢
    clear HB5 HXW HB6
    go_loopg [6] 41 (fun gk o W => SsRel N es p s l q w3 gk o W)
    case atStart => exact ⟨0, g6, 1, [⟨S0, X1, x1, X2, x2, X3, x3⟩], rfl, rfl, by omega, HS0, fun i h => by obtain rfl : i = 0 := (by simpa using h); exact HAT.out⟩
    case round =>
      clear HAT HS0
      obtain ⟨k, g, c', ls, rfl, HL, hgk, HS, HA'⟩ := hrel
      have hlk : k < ls.length := by rw [HL.out]; omega
      have HXW := Lib.hid (HBX.out.next HS.out.bl)
      have HK := Lib.hid (HA'.out k hlk)
      have HE := Lib.hid (HS.out.el _ (List.getElem_mem hlk))
      obtain ⟨q0, q1, q2, q3⟩ := sc_at ls k hlk
      have p0 := (HS.out.own.cellAt (k * 4) (by rw [HL.out]; omega)).trans q0
      have p1 := (HS.out.own.cellAt (k * 4 + 1) (by rw [HL.out]; omega)).trans q1
      have p2 := (HS.out.own.cellAt (k * 4 + 2) (by rw [HL.out]; omega)).trans q2
      have p3 := (HS.out.own.cellAt (k * 4 + 3) (by rw [HL.out]; omega)).trans q3
      clear q0 q1 q2 q3
      have HSK := Lib.hid (fun kd vs A cv u0 u1 u2 W (h : Sls w3 g c' ls W) (hb : Below w.heap.size w W) => @ss_end N es p s l q w w3 W g c' k ls kd vs A cv u0 u1 u2 (w.heap.size + 1 + 1) HJ.out HL.out)
      obtain ⟨ek, hek⟩ : ∃ e, e = ls[k] := ⟨_, rfl⟩
      have HEK := Lib.hid hek
      rw [← hek] at HK HE p0 p1 p2 p3
      clear hek HSK
      obtain ⟨S, Y1, y1, Y2, y2, Y3, y3⟩ := ek
      dsimp only at HK HE p0 p1 p2 p3
      have HLE := Lib.hid (stAt_le (by have := HBJ.out; omega) k HK.out)
      have hk40 : k ≤ 40 := by have := HLE.out; have := HBJ.out; omega
      have HST := Lib.hid (stAt_step k HK.out)
      have HS7 := Lib.hid (HS.out.next (below_alloc wr (.cells #[.int .i64 S.step, .slice Y1 S.vals.length y1, .slice Y2 S.rest.length y2, .slice Y3 S.inn.length y3] 31)))
      have HE7 := Lib.hid (HE.out.st.next (below_alloc wr (.cells #[.int .i64 S.step, .slice Y1 S.vals.length y1, .slice Y2 S.rest.length y2, .slice Y3 S.inn.length y3] 31)))
      have HFE := Lib.hid HE.out.f1
      have HX7 := Lib.hid (HXW.out.next (below_alloc wr (.cells #[.int .i64 S.step, .slice Y1 S.vals.length y1, .slice Y2 S.rest.length y2, .slice Y3 S.inn.length y3] 31)))
      have hlt7 : wr.heap.size < (wr.alloc (.cells #[.int .i64 S.step, .slice Y1 S.vals.length y1, .slice Y2 S.rest.length y2, .slice Y3 S.inn.length y3] 31)).heap.size := by simp
      have HZ7 := Lib.hid (heap_alloc_new wr (.cells #[.int .i64 S.step, .slice Y1 S.vals.length y1, .slice Y2 S.rest.length y2, .slice Y3 S.inn.length y3] 31))
      go_upto_region 5 with fail
      generalize wr.alloc (.cells #[.int .i64 S.step, .slice Y1 S.vals.length y1, .slice Y2 S.rest.length y2, .slice Y3 S.inn.length y3] 31) = W7 at HS7 HE7 HX7 hlt7 HZ7 ⊢
      generalize wr.heap.size = bs at hlt7 HZ7 ⊢
      clear HS HE HXW p0 p1 p2 p3
      have b0 := cell_of_row W7 _ 0 _ 31 (0, 0) HZ7.out
      have b1 := cell_of_row W7 _ 1 _ 31 (0, 0) HZ7.out
      have b2 := cell_of_row W7 _ 2 _ 31 (0, 0) HZ7.out
      have b3 := cell_of_row W7 _ 3 _ 31 (0, 0) HZ7.out
      go_wp2_with fail
      refine (rquiet_any S Y1 y1 Y2 y2 Y3 y3 _ HE7.out).mono ?_
      rintro e w8 ⟨rfl, hb8⟩
      have HS8 := Lib.hid (HS7.out.next hb8)
      have HE8 := Lib.hid (HE7.out.next hb8)
      have HX8 := Lib.hid (HX7.out.next hb8)
      have HZ8 := Lib.hid ((hb8.block _ hlt7).trans HZ7.out)
      have hlt8 : bs < w8.heap.size := Nat.lt_of_lt_of_le hlt7 hb8.size
      clear hb8 HS7 HE7 HX7 HZ7 hlt7 b0 b1 b2 b3
      have b0 := cell_of_row w8 _ 0 _ 31 (0, 0) HZ8.out
      have b1 := cell_of_row w8 _ 1 _ 31 (0, 0) HZ8.out
      have b2 := cell_of_row w8 _ 2 _ 31 (0, 0) HZ8.out
      have b3 := cell_of_row w8 _ 3 _ 31 (0, 0) HZ8.out
      cases hq : quietB S with
      | true =>
        have HO := Lib.hid (show (onwR N es p s l q S).2 = 1 by unfold onwR; rw [if_pos hq])
        have hza := (HT.out w8 HS8.out.bl).1
        have r0 := cell_of_row w8 _ 0 _ 45 (0, 0) hza
        have f0 := unfrozen hza 0
        have r1 := cell_of_row w8 _ 1 _ 45 (0, 0) hza
        have f1 := unfrozen hza 1
        have r2 := cell_of_row w8 _ 2 _ 45 (0, 0) hza
        have f2 := unfrozen hza 2
        clear hza
        go_wp2_with fail
        go_region
        go_wp2_with fail
        refine bodyPost_ret (v := .tuple #[.slice (some ⟨g, 0, none⟩) (k + 1) c', .agg #[.int .i64 1, .int .i64 S.step, .slice Y1 S.vals.length y1]]) (by simp [results, Try.results21, go_sem, r0, r1, r2]) rfl ?_
        have e1 := HEK.out
        refine (by rw [show S = ls[k].S by rw [← e1]]; refine ss_end (vs := ls[k].S.vals) HJ.out HL.out hk40 HS8.out HA'.out hlk (by rw [← e1]; show ¬ (onwR N es p s l q S).2 = 0; rw [HO.out]; decide) (by rw [← e1]; exact HO.out.symm) rfl (by rw [← e1]; exact HE8.out.v) (by rw [← e1]; exact HE8.out.cv) HFE.out hlt3 (by omega) HX8.out.bl)
      | false =>
        have HQ := Lib.hid (show ¬ quietB S = true by rw [hq]; decide)
        clear hq
        have j2 := HX8.out.j2
        by_cases hl : S.step = l
        · have HO := Lib.hid (show (onwR N es p s l q S).2 = 3 by unfold onwR; rw [if_neg HQ.out, if_pos hl])
          have hl1 : (S.step == l) = true := by simpa using hl
          have hza := (HT.out w8 HS8.out.bl).1
          have r0 := cell_of_row w8 _ 0 _ 45 (0, 0) hza
          have f0 := unfrozen hza 0
          have r1 := cell_of_row w8 _ 1 _ 45 (0, 0) hza
          have f1 := unfrozen hza 1
          have r2 := cell_of_row w8 _ 2 _ 45 (0, 0) hza
          have f2 := unfrozen hza 2
          clear hza hl
          go_wp2_with fail
          go_region
          go_wp2_with fail
          refine bodyPost_ret (v := .tuple #[.slice (some ⟨g, 0, none⟩) (k + 1) c', .agg #[.int .i64 3, .int .i64 S.step, .slice Y1 S.vals.length y1]]) (by simp [results, Try.results21, go_sem, r0, r1, r2]) rfl ?_
          have e1 := HEK.out
          refine (by rw [show S = ls[k].S by rw [← e1]]; refine ss_end (vs := ls[k].S.vals) HJ.out HL.out hk40 HS8.out HA'.out hlk (by rw [← e1]; show ¬ (onwR N es p s l q S).2 = 0; rw [HO.out]; decide) (by rw [← e1]; exact HO.out.symm) rfl (by rw [← e1]; exact HE8.out.v) (by rw [← e1]; exact HE8.out.cv) HFE.out hlt3 (by omega) HX8.out.bl)
        · have hl1 : (S.step == l) = false := by simpa using hl
          have HLL := Lib.hid hl
          have g0 := HX8.out.g0
          have g1 := HX8.out.g1
          have j0 := HX8.out.j0
          have j1 := HX8.out.j1
          have j3 := HX8.out.j3
          clear hl
          go_wp2_with fail
          refine (rstep_any N A n c es p s l q S Y1 y1 Y2 y2 Y3 y3 _ (HA.out.next HS8.out.bl) hnc hn HE8.out).mono ?_
          rintro e w9 ⟨hb9, Z1, z1, Z2, z2, Z3, z3, rfl, hs9, f1, f2, f3⟩
          have HOW := Lib.hid (show onwR N es p s l q S = if (stepR N es p s l q S).2 = 0 then ((stepR N es p s l q S).1, 0) else (noSt, 2) by unfold onwR; rw [if_neg HQ.out, if_neg HLL.out])
          obtain ⟨t, ht⟩ : ∃ t, t = stepR N es p s l q S := ⟨_, rfl⟩
          rw [← ht] at hs9 HOW ⊢
          clear ht g0 g1 j0 j1 j2 j3 b0 b1 b2 b3 hl1
          obtain ⟨S', te⟩ := t
          dsimp only at hs9 HOW ⊢
          have HS9 := Lib.hid (HS8.out.next hb9)
          have hb9' := (hb9.trans ((below_alloc w9 (.cells #[.int .i64 S'.step, .slice Z1 S'.vals.length z1, .slice Z2 S'.rest.length z2, .slice Z3 S'.inn.length z3] 31)).mono hb9.size))
          have HSa := Lib.hid (HS8.out.next hb9')
          have HXa := Lib.hid (HX8.out.next hb9')
          have HZa := Lib.hid ((hb9'.block _ hlt8).trans HZ8.out)
          have HNa := Lib.hid (heap_alloc_new w9 (.cells #[.int .i64 S'.step, .slice Z1 S'.vals.length z1, .slice Z2 S'.rest.length z2, .slice Z3 S'.inn.length z3] 31))
          have HTa := Lib.hid (hs9.next (below_alloc w9 (.cells #[.int .i64 S'.step, .slice Z1 S'.vals.length z1, .slice Z2 S'.rest.length z2, .slice Z3 S'.inn.length z3] 31)))
          have HEa := Lib.hid (show Sei w3.heap.size g ⟨S', Z1, z1, Z2, z2, Z3, z3⟩ (w9.alloc (.cells #[.int .i64 S'.step, .slice Z1 S'.vals.length z1, .slice Z2 S'.rest.length z2, .slice Z3 S'.inn.length z3] 31)) from
            have hg8 : g < w8.heap.size := (HS8.out.own.lt g rfl).2
            ⟨HTa.out, f1.low HS8.out.bl.size, f2.low HS8.out.bl.size, f3.low HS8.out.bl.size, .inr (f1.nb hg8), .inr (f2.nb hg8), .inr (f3.nb hg8)⟩)
          clear hs9 f1 f2 f3 hb9 hb9' HS9 HTa
          go_upto_region 10 with fail
          generalize w9.alloc (.cells #[.int .i64 S'.step, .slice Z1 S'.vals.length z1, .slice Z2 S'.rest.length z2, .slice Z3 S'.inn.length z3] 31) = Wa at HSa HXa HZa HNa HEa ⊢
          generalize w9.heap.size = ba at HNa ⊢
          by_cases he : te = 0
          · subst he
            have HOZ := Lib.hid (HOW.out.trans (if_pos rfl))
            have HK1 := Lib.hid (show stAt N es p s l q (k + 1) = some S' by have := stAt_next HK.out (by rw [HOZ.out]); rw [HOZ.out] at this; exact this)
            have hk1 : k + 1 ≤ 40 := by have := stAt_le (by have := HBJ.out; omega) (k + 1) HK1.out; have := HBJ.out; omega
            have n0 := cell_of_row Wa _ 0 _ 31 (0, 0) HNa.out
            have n1 := cell_of_row Wa _ 1 _ 31 (0, 0) HNa.out
            have n2 := cell_of_row Wa _ 2 _ 31 (0, 0) HNa.out
            have n3 := cell_of_row Wa _ 3 _ 31 (0, 0) HNa.out
            have HSb := Lib.hid (HSa.out.next (below_alloc Wa (.cells #[.int .i64 S'.step, .slice Z1 S'.vals.length z1, .slice Z2 S'.rest.length z2, .slice Z3 S'.inn.length z3] 31)))
            have HEb := Lib.hid (show Sei w3.heap.size g ⟨S', Z1, z1, Z2, z2, Z3, z3⟩ (Wa.alloc (.cells #[.int .i64 S'.step, .slice Z1 S'.vals.length z1, .slice Z2 S'.rest.length z2, .slice Z3 S'.inn.length z3] 31)) from ⟨HEa.out.st.next (below_alloc _ _), HEa.out.f1, HEa.out.f2, HEa.out.f3, HEa.out.n1, HEa.out.n2, HEa.out.n3⟩)
            have HLb := Lib.hid (show Lies (Wa.alloc (.cells #[.int .i64 S'.step, .slice Z1 S'.vals.length z1, .slice Z2 S'.rest.length z2, .slice Z3 S'.inn.length z3] 31)) (Wa.heap.size + 1) 4 (some ⟨Wa.heap.size, 0, none⟩) 1 (sc [⟨S', Z1, z1, Z2, z2, Z3, z3⟩]) from lies_cells Wa (sc [⟨S', Z1, z1, Z2, z2, Z3, z3⟩]) 31 1 4 rfl)
            have HOb := Lib.hid HSb.out.own
            rw [HL.out] at HOb
            clear HOW
            go_wp2_with (at_builtin; go_must (refine wpList_app3 _ rfl (.tmp 57) (.tmp 59) 43 rfl w3.heap.size 31 i0 _ 4 80 Try.underlying43 HI0.out HZ0.out HZS.out HZB.out rfl (by decide) (some ⟨g, 0, none⟩) (k + 1) c' (sc ls) rfl HOb.out (Wa.heap.size + 1) (some ⟨Wa.heap.size, 0, none⟩) 1 1 (sc [⟨S', Z1, z1, Z2, z2, Z3, z3⟩]) rfl HLb.out (sc_one _) (by unfold maxLen; omega) (by omega) HSb.out.bl.size ?_))
            intro Ac cc wc' hoc hbc hgc hwc
            obtain ⟨g', rfl, hsc⟩ := HSb.out.app HEb.out (by rw [HL.out]; exact hoc) hbc hgc (by rw [HL.out, show (Wa.alloc (.cells #[.int .i64 S'.step, .slice Z1 S'.vals.length z1, .slice Z2 S'.rest.length z2, .slice Z3 S'.inn.length z3] 31)).heap.size = Wa.heap.size + 1 by simp]; exact hwc)
            have HSc := Lib.hid hsc
            clear hsc hoc hbc hgc hwc HOb HLb HEb HSb HEa HSa n0 n1 n2 n3
            go_wp2_with fail
            go_roundg (gk - 1)
            case measure => omega
            case rel =>
              refine ⟨k + 1, g', cc, _, rfl, by rw [List.length_append, HL.out]; rfl, by omega, HSc, ?_⟩
              intro i hi
              by_cases h : i < ls.length
              · rw [List.getElem_append_left h]; exact HA'.out i h
              · have hi' : i = k + 1 := by rw [List.length_append, HL.out] at hi; rw [HL.out] at h; simp at hi; omega
                subst hi'
                rw [List.getElem_append_right (by omega)]
                simp [HL.out, HK1.out]
          · have HO := Lib.hid (show (onwR N es p s l q S).2 = 2 by rw [HOW.out, if_neg he])
            have he1 : (te != 0) = true := by simpa using he
            have hza := (HT.out Wa HSa.out.bl).1
            have r0 := cell_of_row Wa _ 0 _ 45 (0, 0) hza
            have f0 := unfrozen hza 0
            have r1 := cell_of_row Wa _ 1 _ 45 (0, 0) hza
            have f1 := unfrozen hza 1
            have r2 := cell_of_row Wa _ 2 _ 45 (0, 0) hza
            have f2 := unfrozen hza 2
            have b0 := cell_of_row Wa _ 0 _ 31 (0, 0) HZa.out
            have b1 := cell_of_row Wa _ 1 _ 31 (0, 0) HZa.out
            have b2 := cell_of_row Wa _ 2 _ 31 (0, 0) HZa.out
            have b3 := cell_of_row Wa _ 3 _ 31 (0, 0) HZa.out
            clear hza he HOW
            go_wp2_with fail
            go_region
            go_wp2_with fail
            refine bodyPost_ret (v := .tuple #[.slice (some ⟨g, 0, none⟩) (k + 1) c', .agg #[.int .i64 2, .int .i64 S.step, .slice none 0 0]]) (by simp [results, Try.results21, go_sem, r0, r1, r2]) rfl ?_
            have e1 := HEK.out
            refine (by rw [show S = ls[k].S by rw [← e1]]; refine ss_end (vs := []) HJ.out HL.out hk40 HSa.out HA'.out hlk (by rw [← e1]; show ¬ (onwR N es p s l q S).2 = 0; rw [HO.out]; decide) (by rw [← e1]; exact HO.out.symm) rfl Lies.nil (Nat.le_refl _) (Fr.no _) hlt3 (by omega) HXa.out.bl)
  · have hj1 : (jchk N es p s l q != 0) = true := by simpa using hj
    have HJ := Lib.hid hj
    have hza := (HT.out w5 HB5.out).1
    have HB7 := Lib.hid HXW.out.bl
    have r0 := cell_of_row w5 _ 0 _ 45 (0, 0) hza
    have f0 := unfrozen hza 0
    have r1 := cell_of_row w5 _ 1 _ 45 (0, 0) hza
    have f1 := unfrozen hza 1
    have r2 := cell_of_row w5 _ 2 _ 45 (0, 0) hza
    have f2 := unfrozen hza 2
    clear hza hj hb5
    go_wp2_with fail
    refine bodyPost_ret (v := .tuple #[.slice none 0 0, .agg #[.int .i64 4, .int .i64 0, .slice none 0 0]]) (by simp [results, Try.results21, go_sem, r0, r1, r2]) rfl ?_
    exact ⟨(((HB7.out.setCell (by simp; omega) _).setCell (by simp; omega) _).setCell (by simp; omega) _), .inl ⟨HJ.out, rfl⟩⟩
end Go.Proofs.Ytkmflofokgkekaa
