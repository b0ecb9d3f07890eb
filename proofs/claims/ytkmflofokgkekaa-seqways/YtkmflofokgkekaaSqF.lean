/-
  The contracts of Step and onward. No condition but that the numbers are of 64 bits and not too many.
-/
import Derived.Test.YtkmflofokgkekaaSqD
import Derived.Deep.Cut
namespace Go.Proofs.Ytkmflofokgkekaa
open Go.ChangeShapes Go.WideShapes Go.ChangeAt Go.RowKit
set_option linter.unusedVariables false

set_option maxRecDepth 20000 in
set_option maxHeartbeats 2000000 in
theorem step_any (N : Int) (A : Option Addr) (n c : Nat) (es : List Ed) (p s l q : Int) (S : St) (A1 : Option Addr) (c1 : Nat) (A2 : Option Addr) (c2 : Nat) (A3 : Option Addr) (c3 : Nat) (w : World)
    (hA : Lies w w.heap.size 3 A n (ec es)) (hnc : n ≤ c) (hn : n ≤ maxLen) (hS : StL w w.heap.size S A1 c1 A2 c2 A3 c3) :
    Calls Try.prog 25 #[.agg #[.int .i64 N, .slice A n c], .agg #[.int .i64 p, .int .i64 s, .int .i64 l, .int .i64 q], .agg #[.int .i64 S.step, .slice A1 S.vals.length c1, .slice A2 S.rest.length c2, .slice A3 S.inn.length c3]] w (StPost (stepR N es p s l q S) w) := by
  obtain ⟨w4, hw4⟩ : ∃ w4, w4 = (((w.alloc (.cells #[.int .i64 N, .slice A n c] 24)).alloc (.cells #[.int .i64 p, .int .i64 s, .int .i64 l, .int .i64 q] 26)).alloc (.cells #[.int .i64 S.step, .slice A1 S.vals.length c1, .slice A2 S.rest.length c2, .slice A3 S.inn.length c3] 31)).alloc (.cells #[.int .i64 0, .slice none 0 0, .slice none 0 0, .slice none 0 0] 31) := ⟨_, rfl⟩
  have hbs : Bs w N A n c p s l q S A1 c1 A2 c2 A3 c3 w4 := by rw [hw4]; exact (Bs.init w N A n c p s l q S A1 c1 A2 c2 A3 c3).alloc _
  have H4 := Lib.hid (fun (W : World) (hb : Below w4.heap.size w4 W) => fourth w _ _ _ _ W (by rw [hw4] at hb; exact hb))
  have HBS := Lib.hid hbs
  have HS := Lib.hid (hS.next hbs.x.bl)
  have HA := Lib.hid (hA.next hbs.x.bl)
  clear hbs hS hA
  go_enter Try.func25, Try.ntmps25
  go_wp2_with fail
  rw [← hw4]
  clear hw4
  refine (jcheck_any N A n c es p s l q _ HA.out hnc hn).mono ?_
  rintro e w5 ⟨rfl, hb5⟩
  have HB5 := Lib.hid hb5
  have hx := HBS.out.next hb5
  have HB := Lib.hid hx.x.bl
  by_cases hj : jchk N es p s l q = 0
  · rw [hj]
    have HJ := Lib.hid hj
    have g0 := hx.x.g0
    have g1 := hx.x.g1
    have j0 := hx.x.j0
    have j1 := hx.x.j1
    have j2 := hx.x.j2
    have j3 := hx.x.j3
    have s0 := hx.s0
    have s1 := hx.s1
    have s2 := hx.s2
    have s3 := hx.s3
    clear hx hb5 hj
    go_wp2_with fail
    refine (right_any N A n c es p s l q S A1 c1 A2 c2 A3 c3 _ (HA.out.next HB5.out) hnc hn (HS.out.next HB5.out)).mono ?_
    rintro e w6 ⟨rfl, hb6⟩
    have HB6 := Lib.hid (HB5.out.trans (hb6.mono HB5.out.size))
    have hx := HBS.out.next HB6.out
    have HBW := Lib.hid hx.x.bl
    clear HB5 HB hb6 g0 g1 j0 j1 j2 j3 s0 s1 s2 s3
    cases hr : rightB N es p s l q S with
    | true =>
      have HRT := Lib.hid hr
      have g0 := hx.x.g0
      have g1 := hx.x.g1
      have j0 := hx.x.j0
      have j1 := hx.x.j1
      have j2 := hx.x.j2
      have j3 := hx.x.j3
      have s0 := hx.s0
      have s1 := hx.s1
      have s2 := hx.s2
      have s3 := hx.s3
      clear hx hr
      by_cases h40 : S.step = 40
      · have HR := Lib.hid (show stepR N es p s l q S = (noSt, 6) by unfold stepR; rw [if_pos HJ.out, if_pos HRT.out, if_pos h40])
        have z2 := H4.out w6 HB6.out
        have r0 := cell_of_row w6 _ 0 _ 31 (0, 0) z2
        have f0 := unfrozen z2 0
        have r1 := cell_of_row w6 _ 1 _ 31 (0, 0) z2
        have f1 := unfrozen z2 1
        have r2 := cell_of_row w6 _ 2 _ 31 (0, 0) z2
        have f2 := unfrozen z2 2
        have r3 := cell_of_row w6 _ 3 _ 31 (0, 0) z2
        have f3 := unfrozen z2 3
        rw [h40] at s0
        clear z2 h40 g0 g1 j0 j1 j2 j3 s1 s2 s3
        go_wp2_with fail
        refine bodyPost_ret (v := .tuple #[.agg #[.int .i64 0, .slice none 0 0, .slice none 0 0, .slice none 0 0], .int .i64 6]) (by simp [results, Try.results25, go_sem, r0, r1, r2, r3]) rfl ?_
        exact st_no HR.out ((((HBW.out.setCell (by simp; omega) _).setCell (by simp; omega) _).setCell (by simp; omega) _).setCell (by simp; omega) _)
      · have HR := Lib.hid (show stepR N es p s l q S = superR N es p s l q S by unfold stepR; rw [if_pos HJ.out, if_pos HRT.out, if_neg h40])
        have h41 : (S.step == 40) = false := by simpa using h40
        have H40 := Lib.hid h40
        clear h40
        go_wp2_with fail
        refine (super_any N A n c es p s l q S A1 c1 A2 c2 A3 c3 _ (HA.out.next HB6.out) hnc hn (HS.out.next HB6.out) HRT.out H40.out).mono ?_
        rintro e w7 ⟨hb7, X1, x1, X2, x2, X3, x3, rfl, hs7, f1, f2, f3⟩
        have HB7 := Lib.hid (HB6.out.trans (hb7.mono HB6.out.size))
        have z2 := H4.out w7 HB7.out
        have HFX := Lib.hid (show Fr w6.heap.size X1 ∧ Fr w6.heap.size X2 ∧ Fr w6.heap.size X3 from ⟨f1, f2, f3⟩)
        have HLTX := Lib.hid (show w.heap.size + 1 + 1 + 1 < w6.heap.size from lt_of_block (H4.out w6 HB6.out))
        have HLTW := Lib.hid HBW.out.size
        have HS9 := Lib.hid hs7
        have HBW7 := Lib.hid (HBS.out.next HB7.out).x.bl
        clear f1 f2 f3 hs7 hb7
        have r0 := cell_of_row w7 _ 0 _ 31 (0, 0) z2
        have f0 := unfrozen z2 0
        have r1 := cell_of_row w7 _ 1 _ 31 (0, 0) z2
        have f1 := unfrozen z2 1
        have r2 := cell_of_row w7 _ 2 _ 31 (0, 0) z2
        have f2 := unfrozen z2 2
        have r3 := cell_of_row w7 _ 3 _ 31 (0, 0) z2
        have f3 := unfrozen z2 3
        clear z2 g0 g1 j0 j1 j2 j3 s0 s1 s2 s3
        obtain ⟨tt, htt⟩ : ∃ tt, tt = superR N es p s l q S := ⟨_, rfl⟩
        rw [← htt] at HR HS9 ⊢
        clear htt
        obtain ⟨t, te⟩ := tt
        dsimp only at HS9 ⊢
        go_wp2_with fail
        refine bodyPost_ret (v := .tuple #[.agg #[.int .i64 t.step, .slice X1 t.vals.length x1, .slice X2 t.rest.length x2, .slice X3 t.inn.length x3], .int .i64 te]) (by simp [results, Try.results25, go_sem, r0, r1, r2, r3]) rfl ?_
        rw [HR.out]
        exact ⟨((((HBW7.out.setCell (by simp; omega) _).setCell (by simp; omega) _).setCell (by simp; omega) _).setCell (by simp; omega) _), X1, x1, X2, x2, X3, x3, rfl, ((((((((HS9.out.set (b := w.heap.size + 1 + 1 + 1) (i := 0) HFX.out.1 HFX.out.2.1 HFX.out.2.2 HLTX.out (.int .i64 t.step)).size).set (b := w.heap.size + 1 + 1 + 1) (i := 1) HFX.out.1 HFX.out.2.1 HFX.out.2.2 HLTX.out (.slice X1 t.vals.length x1)).size).set (b := w.heap.size + 1 + 1 + 1) (i := 2) HFX.out.1 HFX.out.2.1 HFX.out.2.2 HLTX.out (.slice X2 t.rest.length x2)).size).set (b := w.heap.size + 1 + 1 + 1) (i := 3) HFX.out.1 HFX.out.2.1 HFX.out.2.2 HLTX.out (.slice X3 t.inn.length x3)).size), HFX.out.1.low HLTW.out, HFX.out.2.1.low HLTW.out, HFX.out.2.2.low HLTW.out⟩
    | false =>
      have HR := Lib.hid (show stepR N es p s l q S = (noSt, 1) by unfold stepR; rw [if_pos HJ.out, hr]; rfl)
      have z2 := H4.out w6 HB6.out
      have r0 := cell_of_row w6 _ 0 _ 31 (0, 0) z2
      have f0 := unfrozen z2 0
      have r1 := cell_of_row w6 _ 1 _ 31 (0, 0) z2
      have f1 := unfrozen z2 1
      have r2 := cell_of_row w6 _ 2 _ 31 (0, 0) z2
      have f2 := unfrozen z2 2
      have r3 := cell_of_row w6 _ 3 _ 31 (0, 0) z2
      have f3 := unfrozen z2 3
      clear z2 hr hx
      go_wp2_with fail
      refine bodyPost_ret (v := .tuple #[.agg #[.int .i64 0, .slice none 0 0, .slice none 0 0, .slice none 0 0], .int .i64 1]) (by simp [results, Try.results25, go_sem, r0, r1, r2, r3]) rfl ?_
      exact st_no HR.out ((((HBW.out.setCell (by simp; omega) _).setCell (by simp; omega) _).setCell (by simp; omega) _).setCell (by simp; omega) _)
  · have HR := Lib.hid (show stepR N es p s l q S = (noSt, jchk N es p s l q) by unfold stepR; rw [if_neg hj])
    have hj1 : (jchk N es p s l q != 0) = true := by simpa using hj
    have z2 := H4.out w5 HB5.out
    have r0 := cell_of_row w5 _ 0 _ 31 (0, 0) z2
    have f0 := unfrozen z2 0
    have r1 := cell_of_row w5 _ 1 _ 31 (0, 0) z2
    have f1 := unfrozen z2 1
    have r2 := cell_of_row w5 _ 2 _ 31 (0, 0) z2
    have f2 := unfrozen z2 2
    have r3 := cell_of_row w5 _ 3 _ 31 (0, 0) z2
    have f3 := unfrozen z2 3
    clear z2 hj hx hb5
    go_wp2_with fail
    refine bodyPost_ret (v := .tuple #[.agg #[.int .i64 0, .slice none 0 0, .slice none 0 0, .slice none 0 0], .int .i64 (jchk N es p s l q)]) (by simp [results, Try.results25, go_sem, r0, r1, r2, r3]) rfl ?_
    exact st_no HR.out ((((HB.out.setCell (by simp; omega) _).setCell (by simp; omega) _).setCell (by simp; omega) _).setCell (by simp; omega) _)

set_option maxRecDepth 20000 in
set_option maxHeartbeats 2000000 in
theorem onward_any (N : Int) (A : Option Addr) (n c : Nat) (es : List Ed) (p s l q : Int) (S : St) (A1 : Option Addr) (c1 : Nat) (A2 : Option Addr) (c2 : Nat) (A3 : Option Addr) (c3 : Nat) (w : World)
    (hA : Lies w w.heap.size 3 A n (ec es)) (hnc : n ≤ c) (hn : n ≤ maxLen) (hS : StL w w.heap.size S A1 c1 A2 c2 A3 c3) :
    Calls Try.prog 36 #[.agg #[.int .i64 N, .slice A n c], .agg #[.int .i64 p, .int .i64 s, .int .i64 l, .int .i64 q], .agg #[.int .i64 S.step, .slice A1 S.vals.length c1, .slice A2 S.rest.length c2, .slice A3 S.inn.length c3]] w (StPost (onwR N es p s l q S) w) := by
  obtain ⟨w4, hw4⟩ : ∃ w4, w4 = (((w.alloc (.cells #[.int .i64 N, .slice A n c] 24)).alloc (.cells #[.int .i64 p, .int .i64 s, .int .i64 l, .int .i64 q] 26)).alloc (.cells #[.int .i64 S.step, .slice A1 S.vals.length c1, .slice A2 S.rest.length c2, .slice A3 S.inn.length c3] 31)).alloc (.cells #[.int .i64 0, .slice none 0 0, .slice none 0 0, .slice none 0 0] 31) := ⟨_, rfl⟩
  have hbs : Bs w N A n c p s l q S A1 c1 A2 c2 A3 c3 w4 := by rw [hw4]; exact (Bs.init w N A n c p s l q S A1 c1 A2 c2 A3 c3).alloc _
  have H4 := Lib.hid (fun (W : World) (hb : Below w4.heap.size w4 W) => fourth w _ _ _ _ W (by rw [hw4] at hb; exact hb))
  have HBS := Lib.hid hbs
  have HS := Lib.hid (hS.next hbs.x.bl)
  have HA := Lib.hid (hA.next hbs.x.bl)
  clear hbs hS hA
  go_enter Try.func36, Try.ntmps36
  go_wp2_with fail
  rw [← hw4]
  clear hw4
  refine (quiet_any S A1 c1 A2 c2 A3 c3 _ HS.out).mono ?_
  rintro e w5 ⟨rfl, hb5⟩
  have HB5 := Lib.hid hb5
  have hx := HBS.out.next hb5
  have HB := Lib.hid hx.x.bl
  cases hq : quietB S with
  | true =>
    have HR := Lib.hid (show onwR N es p s l q S = (noSt, 1) by unfold onwR; rw [if_pos hq])
    have z2 := H4.out w5 HB5.out
    have r0 := cell_of_row w5 _ 0 _ 31 (0, 0) z2
    have f0 := unfrozen z2 0
    have r1 := cell_of_row w5 _ 1 _ 31 (0, 0) z2
    have f1 := unfrozen z2 1
    have r2 := cell_of_row w5 _ 2 _ 31 (0, 0) z2
    have f2 := unfrozen z2 2
    have r3 := cell_of_row w5 _ 3 _ 31 (0, 0) z2
    have f3 := unfrozen z2 3
    clear z2 hx hb5 hq
    go_wp2_with fail
    refine bodyPost_ret (v := .tuple #[.agg #[.int .i64 0, .slice none 0 0, .slice none 0 0, .slice none 0 0], .int .i64 1]) (by simp [results, Try.results36, go_sem, r0, r1, r2, r3]) rfl ?_
    exact st_no HR.out ((((HB.out.setCell (by simp; omega) _).setCell (by simp; omega) _).setCell (by simp; omega) _).setCell (by simp; omega) _)
  | false =>
    have HQ := Lib.hid (show ¬ quietB S = true by rw [hq]; decide)
    have g0 := hx.x.g0
    have g1 := hx.x.g1
    have j0 := hx.x.j0
    have j1 := hx.x.j1
    have j2 := hx.x.j2
    have j3 := hx.x.j3
    have s0 := hx.s0
    have s1 := hx.s1
    have s2 := hx.s2
    have s3 := hx.s3
    clear hx hb5 hq
    by_cases hl : S.step = l
    · have HR := Lib.hid (show onwR N es p s l q S = (noSt, 3) by unfold onwR; rw [if_neg HQ.out, if_pos hl])
      have z2 := H4.out w5 HB5.out
      have r0 := cell_of_row w5 _ 0 _ 31 (0, 0) z2
      have f0 := unfrozen z2 0
      have r1 := cell_of_row w5 _ 1 _ 31 (0, 0) z2
      have f1 := unfrozen z2 1
      have r2 := cell_of_row w5 _ 2 _ 31 (0, 0) z2
      have f2 := unfrozen z2 2
      have r3 := cell_of_row w5 _ 3 _ 31 (0, 0) z2
      have f3 := unfrozen z2 3
      have hl1 : (S.step == l) = true := by simpa using hl
      clear z2 g0 g1 j0 j1 j3 s1 s2 s3 hl
      go_wp2_with fail
      refine bodyPost_ret (v := .tuple #[.agg #[.int .i64 0, .slice none 0 0, .slice none 0 0, .slice none 0 0], .int .i64 3]) (by simp [results, Try.results36, go_sem, r0, r1, r2, r3]) rfl ?_
      exact st_no HR.out ((((HB.out.setCell (by simp; omega) _).setCell (by simp; omega) _).setCell (by simp; omega) _).setCell (by simp; omega) _)
    · have hl1 : (S.step == l) = false := by simpa using hl
      have HL := Lib.hid hl
      clear hl
      go_wp2_with fail
      refine (step_any N A n c es p s l q S A1 c1 A2 c2 A3 c3 _ (HA.out.next HB5.out) hnc hn (HS.out.next HB5.out)).mono ?_
      rintro e w6 ⟨hb6, X1, x1, X2, x2, X3, x3, rfl, hs6, f1, f2, f3⟩
      have HR := Lib.hid (show onwR N es p s l q S = if (stepR N es p s l q S).2 = 0 then ((stepR N es p s l q S).1, 0) else (noSt, 2) by unfold onwR; rw [if_neg HQ.out, if_neg HL.out])
      obtain ⟨tt, htt⟩ : ∃ tt, tt = stepR N es p s l q S := ⟨_, rfl⟩
      rw [← htt] at HR hs6 ⊢
      clear htt
      obtain ⟨t, te⟩ := tt
      dsimp only at hs6 HR ⊢
      obtain ⟨o, ho⟩ : ∃ o : Obj, o = .cells #[.int .i64 t.step, .slice X1 t.vals.length x1, .slice X2 t.rest.length x2, .slice X3 t.inn.length x3] 31 := ⟨_, rfl⟩
      have HB7 := Lib.hid ((HB5.out.trans (hb6.mono HB5.out.size)).alloc (Nat.le_trans HB5.out.size hb6.size) o)
      have z2 := H4.out _ HB7.out
      have HFX := Lib.hid (show Fr w5.heap.size X1 ∧ Fr w5.heap.size X2 ∧ Fr w5.heap.size X3 from ⟨f1, f2, f3⟩)
      have HLTX := Lib.hid (show w.heap.size + 1 + 1 + 1 < w5.heap.size from lt_of_block (H4.out w5 HB5.out))
      have HLTW := Lib.hid HB.out.size
      have HS9 := Lib.hid (hs6.next (below_alloc w6 o))
      have HBW7 := Lib.hid (HBS.out.next HB7.out).x.bl
      have n0 : (w6.alloc o).cell? ⟨w6.heap.size, 0, none⟩ = some (.int .i64 t.step) := by rw [ho]; simp [go_sem]
      have n1 : (w6.alloc o).cell? ⟨w6.heap.size, 1, none⟩ = some (.slice X1 t.vals.length x1) := by rw [ho]; simp [go_sem]
      have n2 : (w6.alloc o).cell? ⟨w6.heap.size, 2, none⟩ = some (.slice X2 t.rest.length x2) := by rw [ho]; simp [go_sem]
      have n3 : (w6.alloc o).cell? ⟨w6.heap.size, 3, none⟩ = some (.slice X3 t.inn.length x3) := by rw [ho]; simp [go_sem]
      clear f1 f2 f3 hs6 hb6 g0 g1 j0 j1 j2 j3 s0 s1 s2 s3 hl1
      go_upto_region 6 with fail
      rw [← ho]
      clear ho
      generalize w6.alloc o = W7 at HB7 z2 HS9 HBW7 n0 n1 n2 n3 ⊢
      have r0 := cell_of_row W7 _ 0 _ 31 (0, 0) z2
      have f0 := unfrozen z2 0
      have r1 := cell_of_row W7 _ 1 _ 31 (0, 0) z2
      have f1 := unfrozen z2 1
      have r2 := cell_of_row W7 _ 2 _ 31 (0, 0) z2
      have f2 := unfrozen z2 2
      have r3 := cell_of_row W7 _ 3 _ 31 (0, 0) z2
      have f3 := unfrozen z2 3
      clear z2
      by_cases he : te = 0
      · subst he
        have HR2 := Lib.hid (HR.out.trans (if_pos rfl))
        clear HR
        go_wp2_with fail
        refine bodyPost_ret (v := .tuple #[.agg #[.int .i64 t.step, .slice X1 t.vals.length x1, .slice X2 t.rest.length x2, .slice X3 t.inn.length x3], .int .i64 0]) (by simp [results, Try.results36, go_sem, r0, r1, r2, r3]) rfl ?_
        rw [HR2.out]
        exact ⟨((((HBW7.out.setCell (by simp; omega) _).setCell (by simp; omega) _).setCell (by simp; omega) _).setCell (by simp; omega) _), X1, x1, X2, x2, X3, x3, rfl, ((((((((HS9.out.set (b := w.heap.size + 1 + 1 + 1) (i := 0) HFX.out.1 HFX.out.2.1 HFX.out.2.2 HLTX.out (.int .i64 t.step)).size).set (b := w.heap.size + 1 + 1 + 1) (i := 1) HFX.out.1 HFX.out.2.1 HFX.out.2.2 HLTX.out (.slice X1 t.vals.length x1)).size).set (b := w.heap.size + 1 + 1 + 1) (i := 2) HFX.out.1 HFX.out.2.1 HFX.out.2.2 HLTX.out (.slice X2 t.rest.length x2)).size).set (b := w.heap.size + 1 + 1 + 1) (i := 3) HFX.out.1 HFX.out.2.1 HFX.out.2.2 HLTX.out (.slice X3 t.inn.length x3)).size), HFX.out.1.low HLTW.out, HFX.out.2.1.low HLTW.out, HFX.out.2.2.low HLTW.out⟩
      · have HR2 := Lib.hid (HR.out.trans (if_neg he))
        have he1 : (te != 0) = true := by simpa using he
        clear HR he n0 n1 n2 n3
        go_wp2_with fail
        refine bodyPost_ret (v := .tuple #[.agg #[.int .i64 0, .slice none 0 0, .slice none 0 0, .slice none 0 0], .int .i64 2]) (by simp [results, Try.results36, go_sem, r0, r1, r2, r3]) rfl ?_
        exact st_no HR2.out ((((HBW7.out.setCell (by simp; omega) _).setCell (by simp; omega) _).setCell (by simp; omega) _).setCell (by simp; omega) _)

end Go.Proofs.Ytkmflofokgkekaa
