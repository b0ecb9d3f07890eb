import Derived.Test.YtpgdddjjjfkneaaGreatDoorWb
import Derived.Test.YtpgdddjjjfkneaaGreatDoorWc
import Derived.Test.YtpgdddjjjfkneaaGreatDoorPtG
/-
  The contracts of work.Do and of work.Take. No condition but that the numbers are of 62 bits and not too many.
-/
namespace Go.Proofs.YtpgdddjjjfkneaaGreatDoor
open Go.ChangeShapes Go.WideShapes Go.ChangeAt Go.RowKit
set_option linter.unusedVariables false

theorem fourth8 (w : World) (o1 o2 o3 o4 : Obj) (W : World) (hb : Below ((((w.alloc o1).alloc o2).alloc o3).alloc o4).heap.size ((((w.alloc o1).alloc o2).alloc o3).alloc o4) W) :
    W.heap[w.heap.size + 1 + 1 + 1]? = some o4 := by
  have e : (((w.alloc o1).alloc o2).alloc o3).heap.size = w.heap.size + 1 + 1 + 1 := by simp
  rw [hb.block _ (by simp), ← e]
  exact heap_alloc_new _ _
theorem Lies.five {w : World} {B s n : Nat} {A : Option Addr} {xs : List Value} (h : Lies w B s A n xs) {b b' : Nat} (hf : Fr b' A) (hlt : b < b') (u0 u1 u2 u3 u4 : Value) : Lies (((((w.setCell ⟨b, 0, none⟩ u0).setCell ⟨b, 1, none⟩ u1).setCell ⟨b, 2, none⟩ u2).setCell ⟨b, 3, none⟩ u3).setCell ⟨b, 4, none⟩ u4) B s A n xs := ((((h.set hf hlt u0).set hf hlt u1).set hf hlt u2).set hf hlt u3).set hf hlt u4
theorem size5 (w : World) (b : Nat) (u0 u1 u2 u3 u4 : Value) : (((((w.setCell ⟨b, 0, none⟩ u0).setCell ⟨b, 1, none⟩ u1).setCell ⟨b, 2, none⟩ u2).setCell ⟨b, 3, none⟩ u3).setCell ⟨b, 4, none⟩ u4).heap.size = w.heap.size := by simp [World.setCell]
theorem StL.five {w : World} {S : St} {A1 : Option Addr} {c1 : Nat} {A2 : Option Addr} {c2 : Nat} {A3 : Option Addr} {c3 : Nat} (h : StL w w.heap.size S A1 c1 A2 c2 A3 c3) {b b' : Nat} (h1 : Fr b' A1) (h2 : Fr b' A2) (h3 : Fr b' A3) (hlt : b < b') (u0 u1 u2 u3 u4 : Value) : StL (((((w.setCell ⟨b, 0, none⟩ u0).setCell ⟨b, 1, none⟩ u1).setCell ⟨b, 2, none⟩ u2).setCell ⟨b, 3, none⟩ u3).setCell ⟨b, 4, none⟩ u4) (((((w.setCell ⟨b, 0, none⟩ u0).setCell ⟨b, 1, none⟩ u1).setCell ⟨b, 2, none⟩ u2).setCell ⟨b, 3, none⟩ u3).setCell ⟨b, 4, none⟩ u4).heap.size S A1 c1 A2 c2 A3 c3 := by
  rw [size5]
  exact ⟨h.v.five h1 hlt _ _ _ _ _, h.r.five h2 hlt _ _ _ _ _, h.m.five h3 hlt _ _ _ _ _, h.cv, h.cr, h.cm, h.ok⟩
theorem Lls.five {w : World} {A : Option Addr} {c : Nat} {ls : List Le} (h : Lls w w.heap.size A c ls) {b b' : Nat} (h1 : Fr b' A) (h2 : ∀ e ∈ ls, Fr b' e.A) (hlt : b < b') (u0 u1 u2 u3 u4 : Value) : Lls (((((w.setCell ⟨b, 0, none⟩ u0).setCell ⟨b, 1, none⟩ u1).setCell ⟨b, 2, none⟩ u2).setCell ⟨b, 3, none⟩ u3).setCell ⟨b, 4, none⟩ u4) (((((w.setCell ⟨b, 0, none⟩ u0).setCell ⟨b, 1, none⟩ u1).setCell ⟨b, 2, none⟩ u2).setCell ⟨b, 3, none⟩ u3).setCell ⟨b, 4, none⟩ u4).heap.size A c ls := by
  rw [size5]
  exact ⟨h.L.five h1 hlt _ _ _ _ _, h.cc, fun e he => (h.el e he).five (h2 e he) hlt _ _ _ _ _⟩
/-- What Do answers: a partition, lists of messages, a number. -/
def DoPost (t : Pt × List (List Ms) × Int) (w : World) (r : Ending) (w' : World) : Prop :=
  Below w.heap.size w w' ∧ ∃ Q T A1 c1 A2 c2 A3 c3 D os, r = .returned (.tuple #[.agg #[.int .i64 Q, .int .i64 T.step, .slice A1 T.vals.length c1, .slice A2 T.rest.length c2, .slice A3 T.inn.length c3], .slice D os.length os.length, .int .i64 t.2.2]) ∧ mkP Q T = t.1 ∧ os.map Le.ms = t.2.1 ∧
    StL w' w'.heap.size T A1 c1 A2 c2 A3 c3 ∧ Lls w' w'.heap.size D os.length os ∧ Fr w.heap.size A1 ∧ Fr w.heap.size A2 ∧ Fr w.heap.size A3 ∧ Fr w.heap.size D ∧ ∀ e ∈ os, Fr w.heap.size e.A
theorem do_no {t : Pt × List (List Ms) × Int} {e : Int} {w w' : World} (h : t = (noPt, [], e)) (hb : Below w.heap.size w w') : DoPost t w (.returned (.tuple #[.agg #[.int .i64 0, .int .i64 0, .slice none 0 0, .slice none 0 0, .slice none 0 0], .slice none 0 0, .int .i64 e])) w' := by
  subst h
  exact ⟨hb, 0, noSt, none, 0, none, 0, none, 0, none, [], rfl, rfl, rfl, StL.no _ _, ⟨Lies.nil, Nat.le_refl _, fun e he => by cases he⟩, Fr.no _, Fr.no _, Fr.no _, Fr.no _, fun e he => by cases he⟩
/-- What Take answers: a partition and a number. -/
def TkPost (t : Pt × Int) (w : World) (r : Ending) (w' : World) : Prop :=
  Below w.heap.size w w' ∧ ∃ Q T A1 c1 A2 c2 A3 c3, r = .returned (.tuple #[.agg #[.int .i64 Q, .int .i64 T.step, .slice A1 T.vals.length c1, .slice A2 T.rest.length c2, .slice A3 T.inn.length c3], .int .i64 t.2]) ∧ mkP Q T = t.1 ∧ StL w' w'.heap.size T A1 c1 A2 c2 A3 c3 ∧ Fr w.heap.size A1 ∧ Fr w.heap.size A2 ∧ Fr w.heap.size A3
theorem tk_no {t : Pt × Int} {e : Int} {w w' : World} (h : t = (noPt, e)) (hb : Below w.heap.size w w') : TkPost t w (.returned (.tuple #[.agg #[.int .i64 0, .int .i64 0, .slice none 0 0, .slice none 0 0, .slice none 0 0], .int .i64 e])) w' := by
  subst h
  exact ⟨hb, 0, noSt, none, 0, none, 0, none, 0, rfl, rfl, StL.no _ _, Fr.no _, Fr.no _, Fr.no _⟩
theorem foC_eq {N : Int} {es : List Ed} {p s l q P : Int} {S : St} : firstE (foC p q.toNat (doS N es p s l q (mkP P S))) q.toNat = doC N es p s l q (mkP P S) := rfl
set_option maxRecDepth 20000 in
set_option maxHeartbeats 4000000 in
theorem do_any (N : Int) (A : Option Addr) (n c : Nat) (es : List Ed) (p s l q P : Int) (S : St) (A1 : Option Addr) (c1 : Nat) (A2 : Option Addr) (c2 : Nat) (A3 : Option Addr) (c3 : Nat) (w : World) (hA : Lies w w.heap.size 3 A n (ec es)) (hnc : n ≤ c) (hn : n ≤ maxLen) (hS : StL w w.heap.size S A1 c1 A2 c2 A3 c3) :
    Calls Tryz.prog 21 #[.agg #[.int .i64 N, .slice A n c], .agg #[.int .i64 p, .int .i64 s, .int .i64 l, .int .i64 q], .agg #[.int .i64 P, .int .i64 S.step, .slice A1 S.vals.length c1, .slice A2 S.rest.length c2, .slice A3 S.inn.length c3]] w (DoPost (doR N es p s l q (mkP P S)) w) := by
  obtain ⟨w4, hw4⟩ : ∃ w4, w4 = (((w.alloc (.cells #[.int .i64 N, .slice A n c] 27)).alloc (.cells #[.int .i64 p, .int .i64 s, .int .i64 l, .int .i64 q] 23)).alloc (.cells #[.int .i64 P, .int .i64 S.step, .slice A1 S.vals.length c1, .slice A2 S.rest.length c2, .slice A3 S.inn.length c3] 64)).alloc (.cells #[.int .i64 0, .int .i64 0, .slice none 0 0, .slice none 0 0, .slice none 0 0] 64) := ⟨_, rfl⟩
  have hbs : Bp w N A n c p s l q P S A1 c1 A2 c2 A3 c3 w4 := by rw [hw4]; exact (Bp.init w N A n c p s l q P S A1 c1 A2 c2 A3 c3).next (below_alloc _ _)
  have H4 := Lib.hid (fun (W : World) (hb : Below w4.heap.size w4 W) => fourth8 w _ _ _ _ W (by rw [hw4] at hb; exact hb))
  have HA := Lib.hid (hA.next hbs.x.bl)
  have HS := Lib.hid (hS.next hbs.x.bl)
  have HBS := Lib.hid hbs
  clear hbs hA hS
  go_enter Tryz.func21, Tryz.ntmps21
  go_upto_region 1 with fail
  rw [← hw4]
  clear hw4
  obtain ⟨⟨z1, g0, g1, j0, j1, j2, j3, bl1⟩, z2, p0, s0, s1, s2, s3⟩ := id HBS.out
  clear z1 bl1 z2 p0 s0 s1 s2 s3
  go_wp2_with fail
  refine (jcheck_any N A n c es p s l q _ HA.out hnc hn).mono ?_
  rintro e w1 ⟨rfl, hb1⟩
  have HB1 := Lib.hid hb1
  have HX1 := Lib.hid (HBS.out.next hb1)
  clear g0 g1 j0 j1 j2 j3 hb1
  by_cases hj : jchk N es p s l q = 0
  · have HJ := Lib.hid hj
    rw [hj]
    obtain ⟨⟨z1, g0, g1, j0, j1, j2, j3, bl1⟩, z2, p0, s0, s1, s2, s3⟩ := id HX1.out
    clear z1 bl1 z2 hj
    go_wp2_with fail
    refine (pright_any N A n c es p s l q P S A1 c1 A2 c2 A3 c3 _ (HA.out.next HB1.out) hnc hn (HS.out.next HB1.out)).mono ?_
    rintro e w2 ⟨rfl, hb2⟩
    have HB2 := Lib.hid (HB1.out.trans (hb2.mono HB1.out.size))
    have HX2 := Lib.hid (HX1.out.next hb2)
    clear g0 g1 j0 j1 j2 j3 p0 s0 s1 s2 s3 hb2 HX1 HB1
    cases hr : rightP N es p s l q (mkP P S) with
    | false =>
      have HR := Lib.hid (show doR N es p s l q (mkP P S) = (noPt, [], 1) by unfold doR; rw [if_pos HJ.out, hr]; rfl)
      clear hr
      have z2 := H4.out w2 HB2.out
      have r0 := cell_of_row w2 _ 0 _ 64 (0, 0) z2
      have f0 := unfrozen z2 0
      have r1 := cell_of_row w2 _ 1 _ 64 (0, 0) z2
      have f1 := unfrozen z2 1
      have r2 := cell_of_row w2 _ 2 _ 64 (0, 0) z2
      have f2 := unfrozen z2 2
      have r3 := cell_of_row w2 _ 3 _ 64 (0, 0) z2
      have f3 := unfrozen z2 3
      have r4 := cell_of_row w2 _ 4 _ 64 (0, 0) z2
      have f4 := unfrozen z2 4
      clear z2
      go_wp2_with fail
      refine bodyPost_ret (v := .tuple #[.agg #[.int .i64 0, .int .i64 0, .slice none 0 0, .slice none 0 0, .slice none 0 0], .slice none 0 0, .int .i64 1]) (by simp [results, Tryz.results21, go_sem, r0, r1, r2, r3, r4]) rfl ?_
      exact do_no HR.out (((((HX2.out.x.bl.setCell (by simp <;> omega) _).setCell (by simp <;> omega) _).setCell (by simp <;> omega) _).setCell (by simp <;> omega) _).setCell (by simp <;> omega) _)
    | true =>
      have HRR := Lib.hid hr
      obtain ⟨⟨z1, g0, g1, j0, j1, j2, j3, bl1⟩, z2, p0, s0, s1, s2, s3⟩ := id HX2.out
      clear z1 bl1 z2 hr
      by_cases h40 : S.step = 40
      · have HR := Lib.hid (show doR N es p s l q (mkP P S) = (noPt, [], 6) by unfold doR; rw [if_pos HJ.out, if_pos HRR.out, if_pos (show (mkP P S).step = 40 from h40)])
        rw [h40] at s0
        clear g0 g1 j0 j1 j2 j3 p0 s1 s2 s3
        have z2 := H4.out w2 HB2.out
        have r0 := cell_of_row w2 _ 0 _ 64 (0, 0) z2
        have f0 := unfrozen z2 0
        have r1 := cell_of_row w2 _ 1 _ 64 (0, 0) z2
        have f1 := unfrozen z2 1
        have r2 := cell_of_row w2 _ 2 _ 64 (0, 0) z2
        have f2 := unfrozen z2 2
        have r3 := cell_of_row w2 _ 3 _ 64 (0, 0) z2
        have f3 := unfrozen z2 3
        have r4 := cell_of_row w2 _ 4 _ 64 (0, 0) z2
        have f4 := unfrozen z2 4
        clear z2
        go_wp2_with fail
        refine bodyPost_ret (v := .tuple #[.agg #[.int .i64 0, .int .i64 0, .slice none 0 0, .slice none 0 0, .slice none 0 0], .slice none 0 0, .int .i64 6]) (by simp [results, Tryz.results21, go_sem, r0, r1, r2, r3, r4]) rfl ?_
        exact do_no HR.out (((((HX2.out.x.bl.setCell (by simp <;> omega) _).setCell (by simp <;> omega) _).setCell (by simp <;> omega) _).setCell (by simp <;> omega) _).setCell (by simp <;> omega) _)
      · have H40 := Lib.hid h40
        have h41 : (S.step == 40) = false := by simpa using h40
        clear h40
        go_wp2_with fail
        refine (wsuper_any N A n c es p s l q P S A1 c1 A2 c2 A3 c3 _ (HA.out.next HB2.out) hnc hn (HS.out.next HB2.out) HRR.out H40.out).mono ?_
        rintro e w3 ⟨hb3, hp⟩
        have HB3 := Lib.hid (HB2.out.trans (hb3.mono HB2.out.size))
        have HX3 := Lib.hid (HX2.out.next hb3)
        have HSZ := Lib.hid (Nat.le_trans HX2.out.x.bl.size hb3.size)
        have HW2 := Lib.hid HX2.out.x.bl.size
        have HW24 := Lib.hid HB2.out.size
        clear g0 g1 j0 j1 j2 j3 p0 s0 s1 s2 s3 h41 hb3 HX2 HB2
        rcases hp with ⟨he, V, cV, R, cR, ls, rfl, hT, fV, fR, hB, hL⟩ | ⟨he, rfl⟩
        · have HE := Lib.hid he
          have HFV := Lib.hid (fV.low HW2.out)
          have HFR := Lib.hid (fR.low HW2.out)
          have HBK := Lib.hid hB
          have HFV4 := Lib.hid (fV.low HW24.out)
          have HFR4 := Lib.hid (fR.low HW24.out)
          obtain ⟨x0, x1, x2, x3, x4, x5, rfl⟩ := six hB.1
          have hX6 : (lcl [x0, x1, x2, x3, x4, x5]).toArray = #[.slice x0.A x0.ms.length x0.c, .slice x1.A x1.ms.length x1.c, .slice x2.A x2.ms.length x2.c, .slice x3.A x3.ms.length x3.c, .slice x4.A x4.ms.length x4.c, .slice x5.A x5.ms.length x5.c] := rfl
          rw [hX6]
          have hb5 : Below w3.heap.size w3 ((w3.alloc (.cells #[.int .i64 P, .int .i64 (S.step + 1), .slice V S.vals.length cV, .slice R S.vals.length cR, .slice none 0 0] 64)).alloc (.cells #[.slice x0.A x0.ms.length x0.c, .slice x1.A x1.ms.length x1.c, .slice x2.A x2.ms.length x2.c, .slice x3.A x3.ms.length x3.c, .slice x4.A x4.ms.length x4.c, .slice x5.A x5.ms.length x5.c] 104)) := ((Below.refl _ _).alloc (Nat.le_refl _) _).alloc (by simp) _
          have HL5 := Lib.hid (fun e he => (hL e he).next hb5)
          have HT5 := Lib.hid (hT.next hb5)
          have HX5 := Lib.hid (HX3.out.next hb5)
          have HB5 := Lib.hid (HB3.out.trans (hb5.mono HB3.out.size))
          have HC := Lib.hid (fun (W : World) (hl : ∀ e ∈ [x0, x1, x2, x3, x4, x5], Lies W W.heap.size 2 e.A e.ms.length (mc e.ms)) => hX6 ▸ (folded_any p s l q q.toNat (doS N es p s l q (mkP P S)) [x0, x1, x2, x3, x4, x5] W (by have := rightP_small HRR.out; omega) (by have := rightP_small HRR.out; omega) (by have := rightP_small HRR.out; omega) HBK.out hl (sentP_bd HS.out.ok _) (by have h1 := sentL_len (tP N es p s l q (mkP P S)) (tP_len _) S.vals.length; have h2 := rightP_small HRR.out; unfold doS; show (sentL _ S.vals.length).length ≤ _; omega)))
          have k0 : ((w3.alloc (.cells #[.int .i64 P, .int .i64 (S.step + 1), .slice V S.vals.length cV, .slice R S.vals.length cR, .slice none 0 0] 64)).alloc (.cells #[.slice x0.A x0.ms.length x0.c, .slice x1.A x1.ms.length x1.c, .slice x2.A x2.ms.length x2.c, .slice x3.A x3.ms.length x3.c, .slice x4.A x4.ms.length x4.c, .slice x5.A x5.ms.length x5.c] 104)).heap[w3.heap.size]? = some (.cells #[.int .i64 P, .int .i64 (S.step + 1), .slice V S.vals.length cV, .slice R S.vals.length cR, .slice none 0 0] 64) := (heap_alloc_old _ _ (by simp)).trans (heap_alloc_new _ _)
          have k1 : ((w3.alloc (.cells #[.int .i64 P, .int .i64 (S.step + 1), .slice V S.vals.length cV, .slice R S.vals.length cR, .slice none 0 0] 64)).alloc (.cells #[.slice x0.A x0.ms.length x0.c, .slice x1.A x1.ms.length x1.c, .slice x2.A x2.ms.length x2.c, .slice x3.A x3.ms.length x3.c, .slice x4.A x4.ms.length x4.c, .slice x5.A x5.ms.length x5.c] 104)).heap[w3.heap.size + 1]? = some (.cells #[.slice x0.A x0.ms.length x0.c, .slice x1.A x1.ms.length x1.c, .slice x2.A x2.ms.length x2.c, .slice x3.A x3.ms.length x3.c, .slice x4.A x4.ms.length x4.c, .slice x5.A x5.ms.length x5.c] 104) := by
            have e : (w3.alloc (.cells #[.int .i64 P, .int .i64 (S.step + 1), .slice V S.vals.length cV, .slice R S.vals.length cR, .slice none 0 0] 64)).heap.size = w3.heap.size + 1 := by simp
            rw [← e]; exact heap_alloc_new _ _
          have HK0 := Lib.hid k0
          have HK1 := Lib.hid k1
          clear hb5 hL hT fV fR hB he k0 k1
          go_upto_region 9 with fail
          obtain ⟨b3, hb3⟩ : ∃ b, b = w3.heap.size := ⟨_, rfl⟩
          rw [← hb3] at HK0 HK1 ⊢
          have HS3 := Lib.hid hb3
          generalize (w3.alloc (.cells #[.int .i64 P, .int .i64 (S.step + 1), .slice V S.vals.length cV, .slice R S.vals.length cR, .slice none 0 0] 64)).alloc (.cells #[.slice x0.A x0.ms.length x0.c, .slice x1.A x1.ms.length x1.c, .slice x2.A x2.ms.length x2.c, .slice x3.A x3.ms.length x3.c, .slice x4.A x4.ms.length x4.c, .slice x5.A x5.ms.length x5.c] 104) = w5 at *
          clear hb3
          obtain ⟨⟨z1, g0, g1, j0, j1, j2, j3, bl1⟩, z2, p0, s0, s1, s2, s3⟩ := id HX5.out
          clear z1 bl1 z2 p0 s0 s1 s2 s3 g0 g1
          have k1 := HK1.out
          have d0 : w5.cell? ⟨b3 + 1, 0, none⟩ = some (.slice x0.A x0.ms.length x0.c) := cell_of_row w5 _ 0 _ 104 (0, 0) k1
          have d1 : w5.cell? ⟨b3 + 1, 1, none⟩ = some (.slice x1.A x1.ms.length x1.c) := cell_of_row w5 _ 1 _ 104 (0, 0) k1
          have d2 : w5.cell? ⟨b3 + 1, 2, none⟩ = some (.slice x2.A x2.ms.length x2.c) := cell_of_row w5 _ 2 _ 104 (0, 0) k1
          have d3 : w5.cell? ⟨b3 + 1, 3, none⟩ = some (.slice x3.A x3.ms.length x3.c) := cell_of_row w5 _ 3 _ 104 (0, 0) k1
          have d4 : w5.cell? ⟨b3 + 1, 4, none⟩ = some (.slice x4.A x4.ms.length x4.c) := cell_of_row w5 _ 4 _ 104 (0, 0) k1
          have d5 : w5.cell? ⟨b3 + 1, 5, none⟩ = some (.slice x5.A x5.ms.length x5.c) := cell_of_row w5 _ 5 _ 104 (0, 0) k1
          clear k1
          go_wp2_with fail
          refine (HC.out _ HL5.out).mono ?_
          rintro e w6 ⟨hb6, hp⟩
          have HB6 := Lib.hid (HB5.out.trans (hb6.mono HB5.out.size))
          have HX6 := Lib.hid (HX5.out.next hb6)
          have HT6 := Lib.hid (HT5.out.next hb6)
          have k0 := (hb6.block b3 (lt_of_block HK0.out)).trans HK0.out
          have HW45 := Lib.hid HB5.out.size
          have HSZ5 := Lib.hid (Nat.le_trans HX5.out.x.bl.size (Nat.le_refl _))
          clear hb6 j0 j1 j2 j3 d0 d1 d2 d3 d4 d5 HC HL5 HT5 HX5 HB5
          rcases hp with ⟨hf, D, os, rfl, hD, hmap, fD, fe⟩ | ⟨hf, rfl⟩
          · have HR := Lib.hid (show doR N es p s l q (mkP P S) = (doX N es p s l q (mkP P S), (List.range q.toNat).map fun k => fdR p (toK q.toNat k (doS N es p s l q (mkP P S))), 0) by
              unfold doR; rw [if_pos HJ.out, if_pos HRR.out, if_neg (show ¬ (mkP P S).step = 40 from H40.out), if_pos (show errL (tP N es p s l q (mkP P S)) (mkP P S).vals.length = 0 from HE.out), if_pos (show doC N es p s l q (mkP P S) = 0 from hf)])
            have HD := Lib.hid hD
            have HM := Lib.hid hmap
            have HFD := Lib.hid (fD.low HSZ5.out)
            have HFE := Lib.hid (fun e he => (fe e he).low HSZ5.out)
            have HFD4 := Lib.hid (fD.low HW45.out)
            have HFE4 := Lib.hid (fun e he => (fe e he).low HW45.out)
            have hz := H4.out w6 HB6.out
            have r0 := cell_of_row w6 _ 0 _ 64 (0, 0) hz
            have f0 := unfrozen hz 0
            have r1 := cell_of_row w6 _ 1 _ 64 (0, 0) hz
            have f1 := unfrozen hz 1
            have r2 := cell_of_row w6 _ 2 _ 64 (0, 0) hz
            have f2 := unfrozen hz 2
            have r3 := cell_of_row w6 _ 3 _ 64 (0, 0) hz
            have f3 := unfrozen hz 3
            have r4 := cell_of_row w6 _ 4 _ 64 (0, 0) hz
            have f4 := unfrozen hz 4
            have e0 := cell_of_row w6 b3 0 _ 64 (0, 0) k0
            have e1 := cell_of_row w6 b3 1 _ 64 (0, 0) k0
            have e2 := cell_of_row w6 b3 2 _ 64 (0, 0) k0
            have e3 := cell_of_row w6 b3 3 _ 64 (0, 0) k0
            have e4 := cell_of_row w6 b3 4 _ 64 (0, 0) k0
            have hlt4 : w.heap.size + 1 + 1 + 1 < w4.heap.size := lt_of_block (H4.out w4 (Below.refl _ _))
            have hne : ¬ w.heap.size + 1 + 1 + 1 = b3 := by have h1 := HS3.out; have h2 := HB3.out.size; omega
            clear hz k0 hD hmap fD fe hf
            go_wp2_with fail
            have hvl : (nextS N es p s l q P S).vals.length = S.vals.length := valsL_len ..
            have hrl : (nextS N es p s l q P S).rest.length = S.vals.length := restL_len ..
            refine bodyPost_ret (v := .tuple #[.agg #[.int .i64 P, .int .i64 (S.step + 1), .slice V S.vals.length cV, .slice R S.vals.length cR, .slice none 0 0], .slice D os.length os.length, .int .i64 0]) (by simp [results, Tryz.results21, go_sem, r0, r1, r2, r3, r4]) rfl ?_
            rw [HR.out]
            refine ⟨(((((HX6.out.x.bl.setCell (by simp <;> omega) _).setCell (by simp <;> omega) _).setCell (by simp <;> omega) _).setCell (by simp <;> omega) _).setCell (by simp <;> omega) _), P, nextS N es p s l q P S, V, cV, R, cR, none, 0, D, os, by rw [hvl, hrl]; rfl, nextS_x, HM.out, ?_, ?_, HFV.out, HFR.out, Fr.no _, HFD.out, HFE.out⟩
            · exact HT6.out.five HFV4.out HFR4.out (Fr.no _) hlt4 _ _ _ _ _
            · exact HD.out.five HFD4.out HFE4.out hlt4 _ _ _ _ _
          · have HR := Lib.hid (show doR N es p s l q (mkP P S) = (noPt, [], doC N es p s l q (mkP P S)) by
              unfold doR; rw [if_pos HJ.out, if_pos HRR.out, if_neg (show ¬ (mkP P S).step = 40 from H40.out), if_pos (show errL (tP N es p s l q (mkP P S)) (mkP P S).vals.length = 0 from HE.out), if_neg (show ¬ doC N es p s l q (mkP P S) = 0 from hf)])
            rw [foC_eq] at hf ⊢
            have he1 : (doC N es p s l q (mkP P S) != 0) = true := by simpa using hf
            clear hf k0
            generalize doC N es p s l q (mkP P S) = te at *
            have z2 := H4.out w6 HB6.out
            have r0 := cell_of_row w6 _ 0 _ 64 (0, 0) z2
            have f0 := unfrozen z2 0
            have r1 := cell_of_row w6 _ 1 _ 64 (0, 0) z2
            have f1 := unfrozen z2 1
            have r2 := cell_of_row w6 _ 2 _ 64 (0, 0) z2
            have f2 := unfrozen z2 2
            have r3 := cell_of_row w6 _ 3 _ 64 (0, 0) z2
            have f3 := unfrozen z2 3
            have r4 := cell_of_row w6 _ 4 _ 64 (0, 0) z2
            have f4 := unfrozen z2 4
            clear z2
            go_wp2_with fail
            refine bodyPost_ret (v := .tuple #[.agg #[.int .i64 0, .int .i64 0, .slice none 0 0, .slice none 0 0, .slice none 0 0], .slice none 0 0, .int .i64 te]) (by simp [results, Tryz.results21, go_sem, r0, r1, r2, r3, r4]) rfl ?_
            exact do_no HR.out (((((HX6.out.x.bl.setCell (by simp <;> omega) _).setCell (by simp <;> omega) _).setCell (by simp <;> omega) _).setCell (by simp <;> omega) _).setCell (by simp <;> omega) _)
        · have HR := Lib.hid (show doR N es p s l q (mkP P S) = (noPt, [], errL (tP N es p s l q (mkP P S)) S.vals.length) by
            unfold doR; rw [if_pos HJ.out, if_pos HRR.out, if_neg (show ¬ (mkP P S).step = 40 from H40.out), if_neg (show ¬ errL (tP N es p s l q (mkP P S)) (mkP P S).vals.length = 0 from he)]; rfl)
          have he1 : (errL (tP N es p s l q (mkP P S)) S.vals.length != 0) = true := by simpa using he
          clear he
          generalize errL (tP N es p s l q (mkP P S)) S.vals.length = te at *
          have hb5 : Below w3.heap.size w3 ((w3.alloc (.cells #[.int .i64 0, .int .i64 0, .slice none 0 0, .slice none 0 0, .slice none 0 0] 64)).alloc (.cells #[.slice none 0 0, .slice none 0 0, .slice none 0 0, .slice none 0 0, .slice none 0 0, .slice none 0 0] 104)) := ((Below.refl _ _).alloc (Nat.le_refl _) _).alloc (by simp) _
          have HX5 := Lib.hid (HX3.out.next hb5)
          have HB5 := Lib.hid (HB3.out.trans (hb5.mono HB3.out.size))
          clear hb5
          go_upto_region 9 with fail
          generalize (w3.alloc (.cells #[.int .i64 0, .int .i64 0, .slice none 0 0, .slice none 0 0, .slice none 0 0] 64)).alloc (.cells #[.slice none 0 0, .slice none 0 0, .slice none 0 0, .slice none 0 0, .slice none 0 0, .slice none 0 0] 104) = w5 at *
          have z2 := H4.out w5 HB5.out
          have r0 := cell_of_row w5 _ 0 _ 64 (0, 0) z2
          have f0 := unfrozen z2 0
          have r1 := cell_of_row w5 _ 1 _ 64 (0, 0) z2
          have f1 := unfrozen z2 1
          have r2 := cell_of_row w5 _ 2 _ 64 (0, 0) z2
          have f2 := unfrozen z2 2
          have r3 := cell_of_row w5 _ 3 _ 64 (0, 0) z2
          have f3 := unfrozen z2 3
          have r4 := cell_of_row w5 _ 4 _ 64 (0, 0) z2
          have f4 := unfrozen z2 4
          clear z2
          go_wp2_with fail
          refine bodyPost_ret (v := .tuple #[.agg #[.int .i64 0, .int .i64 0, .slice none 0 0, .slice none 0 0, .slice none 0 0], .slice none 0 0, .int .i64 te]) (by simp [results, Tryz.results21, go_sem, r0, r1, r2, r3, r4]) rfl ?_
          exact do_no HR.out (((((HX5.out.x.bl.setCell (by simp <;> omega) _).setCell (by simp <;> omega) _).setCell (by simp <;> omega) _).setCell (by simp <;> omega) _).setCell (by simp <;> omega) _)
  · have HR := Lib.hid (show doR N es p s l q (mkP P S) = (noPt, [], jchk N es p s l q) by unfold doR; rw [if_neg hj])
    have he1 : (jchk N es p s l q != 0) = true := by simpa using hj
    clear hj
    generalize jchk N es p s l q = te at *
    have z2 := H4.out w1 HB1.out
    have r0 := cell_of_row w1 _ 0 _ 64 (0, 0) z2
    have f0 := unfrozen z2 0
    have r1 := cell_of_row w1 _ 1 _ 64 (0, 0) z2
    have f1 := unfrozen z2 1
    have r2 := cell_of_row w1 _ 2 _ 64 (0, 0) z2
    have f2 := unfrozen z2 2
    have r3 := cell_of_row w1 _ 3 _ 64 (0, 0) z2
    have f3 := unfrozen z2 3
    have r4 := cell_of_row w1 _ 4 _ 64 (0, 0) z2
    have f4 := unfrozen z2 4
    clear z2
    go_wp2_with fail
    refine bodyPost_ret (v := .tuple #[.agg #[.int .i64 0, .int .i64 0, .slice none 0 0, .slice none 0 0, .slice none 0 0], .slice none 0 0, .int .i64 te]) (by simp [results, Tryz.results21, go_sem, r0, r1, r2, r3, r4]) rfl ?_
    exact do_no HR.out (((((HX1.out.x.bl.setCell (by simp <;> omega) _).setCell (by simp <;> omega) _).setCell (by simp <;> omega) _).setCell (by simp <;> omega) _).setCell (by simp <;> omega) _)
end Go.Proofs.YtpgdddjjjfkneaaGreatDoor

