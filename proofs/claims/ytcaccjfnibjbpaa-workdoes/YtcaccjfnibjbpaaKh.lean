import Derived.Test.YtcaccjfnibjbpaaKg
import Derived.Deep.DeepCutAuto
import Derived.Deep.RegionLaw
import Derived.BigRegion
/-
  The contract of the document's own Turn of a turn whose value is not too great. No condition but that the numbers are of 64 bits.
-/
namespace Go.Proofs.Ytcaccjfnibjbpaa
open Go.ChangeShapes Go.WideShapes Go.ChangeAt Go.RowKit
set_option linter.unusedVariables false

theorem fd_val (p st val got : Int) (hp : 1 ≤ p ∧ p ≤ 5) (h5 : ¬ p = 5) : fdX p val got = valX p st val got true := by
  have e : foldB p val got = true := by unfold foldB; rw [if_neg h5]
  unfold fdX valX
  rw [if_pos hp, if_pos e, if_neg h5, if_pos rfl]
theorem send_t1 (p s val now : Int) (hp : p = 1 ∨ p = 3) : true = sendB p s 0 s val now := by
  unfold sendB
  rw [if_neg (by omega), if_neg (by omega)]
  simp
theorem send_t2 (p s v val now : Int) (hp : p = 2 ∨ p = 4) : true = sendB p s 0 v val now := by
  unfold sendB
  rw [if_neg (by omega), if_pos hp]
  simp
theorem send_n1 (p s st v val now : Int) (hp : p = 1 ∨ p = 3) (hv : ¬ v = s) : (now != val) = sendB p s st v val now := by
  unfold sendB
  rw [if_neg (by omega), if_neg (by omega)]
  simp [hv]
theorem send_nz (p s st v val now : Int) (hp : ¬ p = 5) (h0 : ¬ st = 0) : (now != val) = sendB p s st v val now := by
  unfold sendB
  rw [if_neg hp]
  split <;> simp [h0]
theorem valX_none (p st val got : Int) (hp : ¬ p = 5) : valX p st val got false = val := by unfold valX; rw [if_neg hp]; rfl
theorem send_n1v (p s st v val got : Int) (hp : p = 1 ∨ p = 3) (hv : ¬ v = s) : false = sendB p s st v val (valX p st val got false) := by
  rw [valX_none p st val got (by omega), ← send_n1 p s st v val val hp hv]; simp
theorem send_nzv (p s st v val got : Int) (hp : ¬ p = 5) (h0 : ¬ st = 0) : false = sendB p s st v val (valX p st val got false) := by
  rw [valX_none p st val got hp, ← send_nz p s st v val val hp h0]; simp
theorem keep4 {W W' : World} {b : Nat} {a : Addr} {x y z u : Value} (hb : Below W.heap.size W W') (h1 : b < W.heap.size) (h2 : a.block < W.heap.size) (j0 : W.cell? ⟨b, 0, none⟩ = some x) (e0 : W.cell? a = some y) (e1 : W.cell? ⟨a.block, a.off + 1, none⟩ = some z) (e2 : W.cell? ⟨a.block, a.off + 2, none⟩ = some u) :
    W'.cell? ⟨b, 0, none⟩ = some x ∧ W'.cell? a = some y ∧ W'.cell? ⟨a.block, a.off + 1, none⟩ = some z ∧ W'.cell? ⟨a.block, a.off + 2, none⟩ = some u :=
  ⟨(hb.cell (p := ⟨b, 0, none⟩) h1).trans j0, (hb.cell h2).trans e0, (hb.cell (p := ⟨a.block, a.off + 1, none⟩) h2).trans e1, (hb.cell (p := ⟨a.block, a.off + 2, none⟩) h2).trans e2⟩
theorem rest_eq (st : Int) : (!decide (st < 10)) = restB 5 st := by
  unfold restB
  rw [if_pos rfl]
  by_cases h : st < 10
  · rw [decide_eq_true h, decide_eq_false (by omega)]; rfl
  · rw [decide_eq_false h, decide_eq_true (by omega)]; rfl
theorem valX_rank {st val got : Int} {sm : Bool} (h : ¬ st = 0) : valX 5 st val got sm = sumX (cameI got sm) := by unfold valX; rw [if_pos rfl, if_neg h]; rfl
theorem valB_rank {st val got : Int} {sm : Bool} (h : ¬ st = 0) : valB 5 st val got sm = sumB (cameI got sm) := by unfold valB; rw [if_pos rfl, if_neg h]; rfl
set_option maxHeartbeats 2000000 in
set_option maxRecDepth 20000 in
theorem rturn_ok (N : Int) (A : Option Addr) (n c : Nat) (es : List Ed) (p s l q st v val got : Int) (sm : Bool) (w : World) (hA : Lies w w.heap.size 3 A n (ec es)) (hnc : n ≤ c) (hn : n ≤ maxLen) (hvb0 : bd val) (hgb : bd got) (hvc : vchk N es p s l q v = 0) (hst : ¬ (st < 0 ∨ 40 < st)) (hvb : valB p st val got sm = true) :
    Calls Try.prog 32 #[.agg #[.int .i64 N, .slice A n c], .agg #[.int .i64 p, .int .i64 s, .int .i64 l, .int .i64 q], .int .i64 st, .int .i64 v, .int .i64 val, .int .i64 got, .bool sm] w (RuPost (turnR N es p s l q st v val got sm) w) := by
  have hbx := (Bx.init w N A n c p s l q).alloc (.cells #[.int .i64 0, .slice none 0 0, .bool false, .int .i64 0] 75)
  have hA1 := hA.next hbx.bl
  have HBX := Lib.hid hbx
  clear hbx
  obtain ⟨hj, hv0, hv1⟩ := vchk_zero hvc
  have hok := (jchk_zero hj).1
  have HP := Lib.hid (badJ_not (jchk_zero hj).2).1
  have HJ := Lib.hid hj
  have HLEN := Lib.hid (out_len N es v (chk_zero hok).2.2.1)
  have HWB := Lib.hid (out_bd (v := v) hok)
  have HNB := Lib.hid (valX_bd (p := p) (st := st) (sm := sm) hvb0 hgb)
  have HVB := Lib.hid hvb
  have HR := Lib.hid (show turnR N es p s l q st v val got sm = if sendB p s st v val (valX p st val got sm) = true then (if msgB p (valX p st val got sm) (outE N es v).length (outE N es v) = true then (valX p st val got sm, msgL p (valX p st val got sm) (outE N es v).length (outE N es v), restB p st, 0) else (0, [], false, 8)) else (valX p st val got sm, [], restB p st, 0) by unfold turnR; rw [if_pos hvc, if_neg hst, if_pos hvb])
  obtain ⟨s1, s2⟩ : ¬ st < 0 ∧ ¬ 40 < st := by omega
  clear hvc hst hj hvb hok
  go_enter Try.func32, Try.ntmps32
  go_wp2_with fail
  refine (rjcheck_any N A n c es p s l q _ hA1 hnc hn).mono ?_
  rintro e w3 ⟨rfl, hb1⟩
  rw [HJ.out]
  have hx3 := HBX.out.next hb1
  have H3 := Lib.hid hx3.bl
  have hr3 := (third w N A n c p s l q _ w3 hb1).1
  have hl3 := (third w N A n c p s l q _ w3 hb1).2
  have r0 : w3.cell? ⟨w.heap.size + 1 + 1, 0, none⟩ = some (.int .i64 0) := cell_of_row w3 (w.heap.size + 1 + 1) 0 _ 75 (0, 0) hr3
  have f0 : w3.frozen? ⟨w.heap.size + 1 + 1, 0, none⟩ = false := unfrozen hr3 0
  have r1 : w3.cell? ⟨w.heap.size + 1 + 1, 1, none⟩ = some (.slice none 0 0) := cell_of_row w3 (w.heap.size + 1 + 1) 1 _ 75 (0, 0) hr3
  have f1 : w3.frozen? ⟨w.heap.size + 1 + 1, 1, none⟩ = false := unfrozen hr3 1
  have r2 : w3.cell? ⟨w.heap.size + 1 + 1, 2, none⟩ = some (.bool false) := cell_of_row w3 (w.heap.size + 1 + 1) 2 _ 75 (0, 0) hr3
  have f2 : w3.frozen? ⟨w.heap.size + 1 + 1, 2, none⟩ = false := unfrozen hr3 2
  have r3 : w3.cell? ⟨w.heap.size + 1 + 1, 3, none⟩ = some (.int .i64 0) := cell_of_row w3 (w.heap.size + 1 + 1) 3 _ 75 (0, 0) hr3
  have f3 : w3.frozen? ⟨w.heap.size + 1 + 1, 3, none⟩ = false := unfrozen hr3 3
  obtain ⟨z1, g0, g1, j0, j1, j2, j3, bl1⟩ := id hx3
  have HR3 := Lib.hid hr3
  have HX3 := Lib.hid hx3
  clear hr3 hb1 hA1 HBX z1 g1 j2 j3 bl1 hx3
  go_upto_if 54 with fail
  go_cut [4, 17, 18] (fun s4 s17 s18 W => s4 = .int .i64 (valX p st val got sm) ∧ s17 = .bool (sendB p s st v val (valX p st val got sm)) ∧ s18 = .bool (restB p st) ∧ W = w3)
  case first =>
    obtain hp | hp | hp | hp | hp : p = 1 ∨ p = 2 ∨ p = 3 ∨ p = 4 ∨ p = 5 := by have := HP.out; omega
    · subst hp
      by_cases hs0 : st = 0
      · have HS0 := Lib.hid hs0
        subst hs0
        by_cases hvs : v = s
        · have HVS := Lib.hid hvs
          subst hvs
          cases sm with
          | true =>
            go_wp2_with fail
            refine (rfold_any 1 val got _ hvb0 hgb).mono ?_
            rintro e w4 ⟨rfl, rfl⟩
            rw [fd_val 1 0 val got (by decide) (by decide)]
            generalize hnow : valX 1 0 val got true = now at *
            clear hnow
            go_wp2_with fail
            go_meet
            exact ⟨rfl, congrArg Value.bool (by first | exact send_t1 _ _ _ _ (by decide) | exact send_t2 _ _ _ _ _ (by decide) | exact send_n1 _ _ _ _ _ _ (by decide) HVS.out | exact send_nz _ _ _ _ _ _ (by decide) HS0.out), rfl, rfl⟩
          | false =>
            go_wp2_with fail
            go_meet
            exact ⟨rfl, congrArg Value.bool (by first | exact send_t1 _ _ _ _ (by decide) | exact send_t2 _ _ _ _ _ (by decide) | exact send_n1v _ _ _ _ _ _ (by decide) HVS.out | exact send_nzv _ _ _ _ _ _ (by decide) HS0.out), rfl, rfl⟩
        · have HVS := Lib.hid hvs
          have hvs1 : (v == s) = false := by simpa using hvs
          have hvs2 : (v != s) = true := by simpa using hvs
          clear hvs
          cases sm with
          | true =>
            go_wp2_with fail
            refine (rfold_any 1 val got _ hvb0 hgb).mono ?_
            rintro e w4 ⟨rfl, rfl⟩
            rw [fd_val 1 0 val got (by decide) (by decide)]
            generalize hnow : valX 1 0 val got true = now at *
            clear hnow
            go_wp2_with fail
            go_meet
            exact ⟨rfl, congrArg Value.bool (by first | exact send_t1 _ _ _ _ (by decide) | exact send_t2 _ _ _ _ _ (by decide) | exact send_n1 _ _ _ _ _ _ (by decide) HVS.out | exact send_nz _ _ _ _ _ _ (by decide) HS0.out), rfl, rfl⟩
          | false =>
            go_wp2_with fail
            go_meet
            exact ⟨rfl, congrArg Value.bool (by first | exact send_t1 _ _ _ _ (by decide) | exact send_t2 _ _ _ _ _ (by decide) | exact send_n1v _ _ _ _ _ _ (by decide) HVS.out | exact send_nzv _ _ _ _ _ _ (by decide) HS0.out), rfl, rfl⟩
      · have HS0 := Lib.hid hs0
        have hs1 : (st == 0) = false := by simpa using hs0
        clear hs0
        by_cases hvs : v = s
        · have HVS := Lib.hid hvs
          subst hvs
          cases sm with
          | true =>
            go_wp2_with fail
            refine (rfold_any 1 val got _ hvb0 hgb).mono ?_
            rintro e w4 ⟨rfl, rfl⟩
            rw [fd_val 1 st val got (by decide) (by decide)]
            generalize hnow : valX 1 st val got true = now at *
            clear hnow
            go_wp2_with fail
            go_meet
            exact ⟨rfl, congrArg Value.bool (by first | exact send_t1 _ _ _ _ (by decide) | exact send_t2 _ _ _ _ _ (by decide) | exact send_n1 _ _ _ _ _ _ (by decide) HVS.out | exact send_nz _ _ _ _ _ _ (by decide) HS0.out), rfl, rfl⟩
          | false =>
            go_wp2_with fail
            go_meet
            exact ⟨rfl, congrArg Value.bool (by first | exact send_t1 _ _ _ _ (by decide) | exact send_t2 _ _ _ _ _ (by decide) | exact send_n1v _ _ _ _ _ _ (by decide) HVS.out | exact send_nzv _ _ _ _ _ _ (by decide) HS0.out), rfl, rfl⟩
        · have HVS := Lib.hid hvs
          have hvs1 : (v == s) = false := by simpa using hvs
          have hvs2 : (v != s) = true := by simpa using hvs
          clear hvs
          cases sm with
          | true =>
            go_wp2_with fail
            refine (rfold_any 1 val got _ hvb0 hgb).mono ?_
            rintro e w4 ⟨rfl, rfl⟩
            rw [fd_val 1 st val got (by decide) (by decide)]
            generalize hnow : valX 1 st val got true = now at *
            clear hnow
            go_wp2_with fail
            go_meet
            exact ⟨rfl, congrArg Value.bool (by first | exact send_t1 _ _ _ _ (by decide) | exact send_t2 _ _ _ _ _ (by decide) | exact send_n1 _ _ _ _ _ _ (by decide) HVS.out | exact send_nz _ _ _ _ _ _ (by decide) HS0.out), rfl, rfl⟩
          | false =>
            go_wp2_with fail
            go_meet
            exact ⟨rfl, congrArg Value.bool (by first | exact send_t1 _ _ _ _ (by decide) | exact send_t2 _ _ _ _ _ (by decide) | exact send_n1v _ _ _ _ _ _ (by decide) HVS.out | exact send_nzv _ _ _ _ _ _ (by decide) HS0.out), rfl, rfl⟩
    · subst hp
      by_cases hs0 : st = 0
      · have HS0 := Lib.hid hs0
        subst hs0
        by_cases hvs : v = s
        · have HVS := Lib.hid hvs
          subst hvs
          cases sm with
          | true =>
            go_wp2_with fail
            refine (rfold_any 2 val got _ hvb0 hgb).mono ?_
            rintro e w4 ⟨rfl, rfl⟩
            rw [fd_val 2 0 val got (by decide) (by decide)]
            generalize hnow : valX 2 0 val got true = now at *
            clear hnow
            go_wp2_with fail
            go_meet
            exact ⟨rfl, congrArg Value.bool (by first | exact send_t1 _ _ _ _ (by decide) | exact send_t2 _ _ _ _ _ (by decide) | exact send_n1 _ _ _ _ _ _ (by decide) HVS.out | exact send_nz _ _ _ _ _ _ (by decide) HS0.out), rfl, rfl⟩
          | false =>
            go_wp2_with fail
            go_meet
            exact ⟨rfl, congrArg Value.bool (by first | exact send_t1 _ _ _ _ (by decide) | exact send_t2 _ _ _ _ _ (by decide) | exact send_n1v _ _ _ _ _ _ (by decide) HVS.out | exact send_nzv _ _ _ _ _ _ (by decide) HS0.out), rfl, rfl⟩
        · have HVS := Lib.hid hvs
          have hvs1 : (v == s) = false := by simpa using hvs
          have hvs2 : (v != s) = true := by simpa using hvs
          clear hvs
          cases sm with
          | true =>
            go_wp2_with fail
            refine (rfold_any 2 val got _ hvb0 hgb).mono ?_
            rintro e w4 ⟨rfl, rfl⟩
            rw [fd_val 2 0 val got (by decide) (by decide)]
            generalize hnow : valX 2 0 val got true = now at *
            clear hnow
            go_wp2_with fail
            go_meet
            exact ⟨rfl, congrArg Value.bool (by first | exact send_t1 _ _ _ _ (by decide) | exact send_t2 _ _ _ _ _ (by decide) | exact send_n1 _ _ _ _ _ _ (by decide) HVS.out | exact send_nz _ _ _ _ _ _ (by decide) HS0.out), rfl, rfl⟩
          | false =>
            go_wp2_with fail
            go_meet
            exact ⟨rfl, congrArg Value.bool (by first | exact send_t1 _ _ _ _ (by decide) | exact send_t2 _ _ _ _ _ (by decide) | exact send_n1v _ _ _ _ _ _ (by decide) HVS.out | exact send_nzv _ _ _ _ _ _ (by decide) HS0.out), rfl, rfl⟩
      · have HS0 := Lib.hid hs0
        have hs1 : (st == 0) = false := by simpa using hs0
        clear hs0
        by_cases hvs : v = s
        · have HVS := Lib.hid hvs
          subst hvs
          cases sm with
          | true =>
            go_wp2_with fail
            refine (rfold_any 2 val got _ hvb0 hgb).mono ?_
            rintro e w4 ⟨rfl, rfl⟩
            rw [fd_val 2 st val got (by decide) (by decide)]
            generalize hnow : valX 2 st val got true = now at *
            clear hnow
            go_wp2_with fail
            go_meet
            exact ⟨rfl, congrArg Value.bool (by first | exact send_t1 _ _ _ _ (by decide) | exact send_t2 _ _ _ _ _ (by decide) | exact send_n1 _ _ _ _ _ _ (by decide) HVS.out | exact send_nz _ _ _ _ _ _ (by decide) HS0.out), rfl, rfl⟩
          | false =>
            go_wp2_with fail
            go_meet
            exact ⟨rfl, congrArg Value.bool (by first | exact send_t1 _ _ _ _ (by decide) | exact send_t2 _ _ _ _ _ (by decide) | exact send_n1v _ _ _ _ _ _ (by decide) HVS.out | exact send_nzv _ _ _ _ _ _ (by decide) HS0.out), rfl, rfl⟩
        · have HVS := Lib.hid hvs
          have hvs1 : (v == s) = false := by simpa using hvs
          have hvs2 : (v != s) = true := by simpa using hvs
          clear hvs
          cases sm with
          | true =>
            go_wp2_with fail
            refine (rfold_any 2 val got _ hvb0 hgb).mono ?_
            rintro e w4 ⟨rfl, rfl⟩
            rw [fd_val 2 st val got (by decide) (by decide)]
            generalize hnow : valX 2 st val got true = now at *
            clear hnow
            go_wp2_with fail
            go_meet
            exact ⟨rfl, congrArg Value.bool (by first | exact send_t1 _ _ _ _ (by decide) | exact send_t2 _ _ _ _ _ (by decide) | exact send_n1 _ _ _ _ _ _ (by decide) HVS.out | exact send_nz _ _ _ _ _ _ (by decide) HS0.out), rfl, rfl⟩
          | false =>
            go_wp2_with fail
            go_meet
            exact ⟨rfl, congrArg Value.bool (by first | exact send_t1 _ _ _ _ (by decide) | exact send_t2 _ _ _ _ _ (by decide) | exact send_n1v _ _ _ _ _ _ (by decide) HVS.out | exact send_nzv _ _ _ _ _ _ (by decide) HS0.out), rfl, rfl⟩
    · subst hp
      by_cases hs0 : st = 0
      · have HS0 := Lib.hid hs0
        subst hs0
        by_cases hvs : v = s
        · have HVS := Lib.hid hvs
          subst hvs
          cases sm with
          | true =>
            go_wp2_with fail
            refine (rfold_any 3 val got _ hvb0 hgb).mono ?_
            rintro e w4 ⟨rfl, rfl⟩
            rw [fd_val 3 0 val got (by decide) (by decide)]
            generalize hnow : valX 3 0 val got true = now at *
            clear hnow
            go_wp2_with fail
            go_meet
            exact ⟨rfl, congrArg Value.bool (by first | exact send_t1 _ _ _ _ (by decide) | exact send_t2 _ _ _ _ _ (by decide) | exact send_n1 _ _ _ _ _ _ (by decide) HVS.out | exact send_nz _ _ _ _ _ _ (by decide) HS0.out), rfl, rfl⟩
          | false =>
            go_wp2_with fail
            go_meet
            exact ⟨rfl, congrArg Value.bool (by first | exact send_t1 _ _ _ _ (by decide) | exact send_t2 _ _ _ _ _ (by decide) | exact send_n1v _ _ _ _ _ _ (by decide) HVS.out | exact send_nzv _ _ _ _ _ _ (by decide) HS0.out), rfl, rfl⟩
        · have HVS := Lib.hid hvs
          have hvs1 : (v == s) = false := by simpa using hvs
          have hvs2 : (v != s) = true := by simpa using hvs
          clear hvs
          cases sm with
          | true =>
            go_wp2_with fail
            refine (rfold_any 3 val got _ hvb0 hgb).mono ?_
            rintro e w4 ⟨rfl, rfl⟩
            rw [fd_val 3 0 val got (by decide) (by decide)]
            generalize hnow : valX 3 0 val got true = now at *
            clear hnow
            go_wp2_with fail
            go_meet
            exact ⟨rfl, congrArg Value.bool (by first | exact send_t1 _ _ _ _ (by decide) | exact send_t2 _ _ _ _ _ (by decide) | exact send_n1 _ _ _ _ _ _ (by decide) HVS.out | exact send_nz _ _ _ _ _ _ (by decide) HS0.out), rfl, rfl⟩
          | false =>
            go_wp2_with fail
            go_meet
            exact ⟨rfl, congrArg Value.bool (by first | exact send_t1 _ _ _ _ (by decide) | exact send_t2 _ _ _ _ _ (by decide) | exact send_n1v _ _ _ _ _ _ (by decide) HVS.out | exact send_nzv _ _ _ _ _ _ (by decide) HS0.out), rfl, rfl⟩
      · have HS0 := Lib.hid hs0
        have hs1 : (st == 0) = false := by simpa using hs0
        clear hs0
        by_cases hvs : v = s
        · have HVS := Lib.hid hvs
          subst hvs
          cases sm with
          | true =>
            go_wp2_with fail
            refine (rfold_any 3 val got _ hvb0 hgb).mono ?_
            rintro e w4 ⟨rfl, rfl⟩
            rw [fd_val 3 st val got (by decide) (by decide)]
            generalize hnow : valX 3 st val got true = now at *
            clear hnow
            go_wp2_with fail
            go_meet
            exact ⟨rfl, congrArg Value.bool (by first | exact send_t1 _ _ _ _ (by decide) | exact send_t2 _ _ _ _ _ (by decide) | exact send_n1 _ _ _ _ _ _ (by decide) HVS.out | exact send_nz _ _ _ _ _ _ (by decide) HS0.out), rfl, rfl⟩
          | false =>
            go_wp2_with fail
            go_meet
            exact ⟨rfl, congrArg Value.bool (by first | exact send_t1 _ _ _ _ (by decide) | exact send_t2 _ _ _ _ _ (by decide) | exact send_n1v _ _ _ _ _ _ (by decide) HVS.out | exact send_nzv _ _ _ _ _ _ (by decide) HS0.out), rfl, rfl⟩
        · have HVS := Lib.hid hvs
          have hvs1 : (v == s) = false := by simpa using hvs
          have hvs2 : (v != s) = true := by simpa using hvs
          clear hvs
          cases sm with
          | true =>
            go_wp2_with fail
            refine (rfold_any 3 val got _ hvb0 hgb).mono ?_
            rintro e w4 ⟨rfl, rfl⟩
            rw [fd_val 3 st val got (by decide) (by decide)]
            generalize hnow : valX 3 st val got true = now at *
            clear hnow
            go_wp2_with fail
            go_meet
            exact ⟨rfl, congrArg Value.bool (by first | exact send_t1 _ _ _ _ (by decide) | exact send_t2 _ _ _ _ _ (by decide) | exact send_n1 _ _ _ _ _ _ (by decide) HVS.out | exact send_nz _ _ _ _ _ _ (by decide) HS0.out), rfl, rfl⟩
          | false =>
            go_wp2_with fail
            go_meet
            exact ⟨rfl, congrArg Value.bool (by first | exact send_t1 _ _ _ _ (by decide) | exact send_t2 _ _ _ _ _ (by decide) | exact send_n1v _ _ _ _ _ _ (by decide) HVS.out | exact send_nzv _ _ _ _ _ _ (by decide) HS0.out), rfl, rfl⟩
    · subst hp
      by_cases hs0 : st = 0
      · have HS0 := Lib.hid hs0
        subst hs0
        by_cases hvs : v = s
        · have HVS := Lib.hid hvs
          subst hvs
          cases sm with
          | true =>
            go_wp2_with fail
            refine (rfold_any 4 val got _ hvb0 hgb).mono ?_
            rintro e w4 ⟨rfl, rfl⟩
            rw [fd_val 4 0 val got (by decide) (by decide)]
            generalize hnow : valX 4 0 val got true = now at *
            clear hnow
            go_wp2_with fail
            go_meet
            exact ⟨rfl, congrArg Value.bool (by first | exact send_t1 _ _ _ _ (by decide) | exact send_t2 _ _ _ _ _ (by decide) | exact send_n1 _ _ _ _ _ _ (by decide) HVS.out | exact send_nz _ _ _ _ _ _ (by decide) HS0.out), rfl, rfl⟩
          | false =>
            go_wp2_with fail
            go_meet
            exact ⟨rfl, congrArg Value.bool (by first | exact send_t1 _ _ _ _ (by decide) | exact send_t2 _ _ _ _ _ (by decide) | exact send_n1v _ _ _ _ _ _ (by decide) HVS.out | exact send_nzv _ _ _ _ _ _ (by decide) HS0.out), rfl, rfl⟩
        · have HVS := Lib.hid hvs
          have hvs1 : (v == s) = false := by simpa using hvs
          have hvs2 : (v != s) = true := by simpa using hvs
          clear hvs
          cases sm with
          | true =>
            go_wp2_with fail
            refine (rfold_any 4 val got _ hvb0 hgb).mono ?_
            rintro e w4 ⟨rfl, rfl⟩
            rw [fd_val 4 0 val got (by decide) (by decide)]
            generalize hnow : valX 4 0 val got true = now at *
            clear hnow
            go_wp2_with fail
            go_meet
            exact ⟨rfl, congrArg Value.bool (by first | exact send_t1 _ _ _ _ (by decide) | exact send_t2 _ _ _ _ _ (by decide) | exact send_n1 _ _ _ _ _ _ (by decide) HVS.out | exact send_nz _ _ _ _ _ _ (by decide) HS0.out), rfl, rfl⟩
          | false =>
            go_wp2_with fail
            go_meet
            exact ⟨rfl, congrArg Value.bool (by first | exact send_t1 _ _ _ _ (by decide) | exact send_t2 _ _ _ _ _ (by decide) | exact send_n1v _ _ _ _ _ _ (by decide) HVS.out | exact send_nzv _ _ _ _ _ _ (by decide) HS0.out), rfl, rfl⟩
      · have HS0 := Lib.hid hs0
        have hs1 : (st == 0) = false := by simpa using hs0
        clear hs0
        by_cases hvs : v = s
        · have HVS := Lib.hid hvs
          subst hvs
          cases sm with
          | true =>
            go_wp2_with fail
            refine (rfold_any 4 val got _ hvb0 hgb).mono ?_
            rintro e w4 ⟨rfl, rfl⟩
            rw [fd_val 4 st val got (by decide) (by decide)]
            generalize hnow : valX 4 st val got true = now at *
            clear hnow
            go_wp2_with fail
            go_meet
            exact ⟨rfl, congrArg Value.bool (by first | exact send_t1 _ _ _ _ (by decide) | exact send_t2 _ _ _ _ _ (by decide) | exact send_n1 _ _ _ _ _ _ (by decide) HVS.out | exact send_nz _ _ _ _ _ _ (by decide) HS0.out), rfl, rfl⟩
          | false =>
            go_wp2_with fail
            go_meet
            exact ⟨rfl, congrArg Value.bool (by first | exact send_t1 _ _ _ _ (by decide) | exact send_t2 _ _ _ _ _ (by decide) | exact send_n1v _ _ _ _ _ _ (by decide) HVS.out | exact send_nzv _ _ _ _ _ _ (by decide) HS0.out), rfl, rfl⟩
        · have HVS := Lib.hid hvs
          have hvs1 : (v == s) = false := by simpa using hvs
          have hvs2 : (v != s) = true := by simpa using hvs
          clear hvs
          cases sm with
          | true =>
            go_wp2_with fail
            refine (rfold_any 4 val got _ hvb0 hgb).mono ?_
            rintro e w4 ⟨rfl, rfl⟩
            rw [fd_val 4 st val got (by decide) (by decide)]
            generalize hnow : valX 4 st val got true = now at *
            clear hnow
            go_wp2_with fail
            go_meet
            exact ⟨rfl, congrArg Value.bool (by first | exact send_t1 _ _ _ _ (by decide) | exact send_t2 _ _ _ _ _ (by decide) | exact send_n1 _ _ _ _ _ _ (by decide) HVS.out | exact send_nz _ _ _ _ _ _ (by decide) HS0.out), rfl, rfl⟩
          | false =>
            go_wp2_with fail
            go_meet
            exact ⟨rfl, congrArg Value.bool (by first | exact send_t1 _ _ _ _ (by decide) | exact send_t2 _ _ _ _ _ (by decide) | exact send_n1v _ _ _ _ _ _ (by decide) HVS.out | exact send_nzv _ _ _ _ _ _ (by decide) HS0.out), rfl, rfl⟩
    · subst hp
      by_cases hs0 : st = 0
      · subst hs0
        cases sm with
        | true =>
          go_wp2_with fail
          go_meet
          exact ⟨rfl, rfl, rfl, rfl⟩
        | false =>
          go_wp2_with fail
          go_meet
          exact ⟨rfl, rfl, rfl, rfl⟩
      · have hs4 : 0 < st := by omega
        have hx := valX_rank (val := val) (got := got) (sm := sm) hs0
        have hB := HVB.out
        rw [valB_rank hs0] at hB
        have HX := Lib.hid hx
        have HB := Lib.hid hB
        have HSU := Lib.hid (fun W => rsum_any (cameI got sm) W (cameI_bd hgb))
        clear hx hB hs0
        cases sm with
        | true =>
          have e1 : cameI got true = got := rfl
          rw [e1] at HB HSU HX
          clear e1
          go_wp2_with fail
          refine (HSU.out _).mono ?_
          rintro e w4 ⟨rfl, rfl⟩
          rw [HB.out]
          go_wp2_with fail
          go_meet
          exact ⟨by rw [HX.out], rfl, congrArg Value.bool (rest_eq st), rfl⟩
        | false =>
          have e1 : cameI got false = 0 := rfl
          rw [e1] at HB HSU HX
          clear e1
          go_wp2_with fail
          refine (HSU.out _).mono ?_
          rintro e w4 ⟨rfl, rfl⟩
          rw [HB.out]
          go_wp2_with fail
          go_meet
          exact ⟨by rw [HX.out], rfl, congrArg Value.bool (rest_eq st), rfl⟩
  case rest =>
    obtain ⟨rfl, rfl, rfl, hW⟩ := hcut
    subst hW
    generalize valX p st val got sm = now at *
    obtain ⟨rst, hrst⟩ : ∃ b, b = restB p st := ⟨_, rfl⟩
    obtain ⟨mv, hmv⟩ : ∃ b, b = sendB p s st v val now := ⟨_, rfl⟩
    rw [← hmv, ← hrst] at HR
    rw [← hmv, ← hrst]
    clear hmv hrst
    obtain ⟨o, ho⟩ : ∃ o : Obj, o = .cells #[.int .i64 now, .slice none 0 0, .bool rst, .int .i64 0] 75 := ⟨_, rfl⟩
    have hx4 := HX3.out.alloc o
    have hb4 := below_alloc wc o
    have HRO := Lib.hid (rout_any N A n c es v (wc.alloc o) (hA.next hx4.bl) hnc hn)
    have HO4 := Lib.hid (heap_alloc_new wc o)
    have HR4 := Lib.hid ((hb4.block _ hl3).trans HR3.out)
    have g0 := hx4.g0
    have g1 := hx4.g1
    have HX4 := Lib.hid hx4
    have hz4 : (wc.alloc o).heap.size = wc.heap.size + 1 := by simp
    have HZ4 := Lib.hid hz4
    rw [ho] at HRO HO4 HR4 g0 g1 HX4 HZ4
    clear hx4 hb4 ho hz4 o r0 r1 r2 r3 f0 f1 f2 f3
    go_wp2_with fail
    refine HRO.out.mono ?_
    rintro e w5 ⟨hb5, A5, c5, rfl, ho5⟩
    generalize outE N es v = out at *
    have hx5 := HX4.out.next hb5
    have HR5 := Lib.hid ((hb5.block (w.heap.size + 1 + 1) (by rw [HZ4.out]; omega)).trans HR4.out)
    have HO5 := Lib.hid ((hb5.block wc.heap.size (by rw [HZ4.out]; omega)).trans HO4.out)
    have hz5 : wc.heap.size + 1 ≤ w5.heap.size := by have := hb5.size; rw [HZ4.out] at this; exact this
    have HOW := Lib.hid (show w5.ownsRow (wc.heap.size + 1) 62 3 (.slice A5 out.length c5) out.length (ec out) by rw [HZ4.out] at ho5; exact ho5)
    have HX5 := Lib.hid hx5
    clear hx5 hb5 ho5 HRO HO4 HR4 HX4 HZ4 g0 g1
    cases mv with
    | false =>
      have e1 : turnR N es p s l q st v val got sm = (now, [], rst, 0) := by simpa using HR.out
      have HR1 := Lib.hid e1
      clear e1 HR
      go_wp2_with fail
      go_loopw [23] (fun i W => i = .int .i64 0 ∧ W = w5) (fun i W => 0)
      case atStart => exact ⟨rfl, rfl⟩
      case round =>
        obtain ⟨rfl, hW⟩ := hrel
        subst hW
        have r0 : wr.cell? ⟨w.heap.size + 1 + 1, 0, none⟩ = some (.int .i64 0) := cell_of_row wr (w.heap.size + 1 + 1) 0 _ 75 (0, 0) HR5.out
        have f0 : wr.frozen? ⟨w.heap.size + 1 + 1, 0, none⟩ = false := unfrozen HR5.out 0
        have r1 : wr.cell? ⟨w.heap.size + 1 + 1, 1, none⟩ = some (.slice none 0 0) := cell_of_row wr (w.heap.size + 1 + 1) 1 _ 75 (0, 0) HR5.out
        have f1 : wr.frozen? ⟨w.heap.size + 1 + 1, 1, none⟩ = false := unfrozen HR5.out 1
        have r2 : wr.cell? ⟨w.heap.size + 1 + 1, 2, none⟩ = some (.bool false) := cell_of_row wr (w.heap.size + 1 + 1) 2 _ 75 (0, 0) HR5.out
        have f2 : wr.frozen? ⟨w.heap.size + 1 + 1, 2, none⟩ = false := unfrozen HR5.out 2
        have r3 : wr.cell? ⟨w.heap.size + 1 + 1, 3, none⟩ = some (.int .i64 0) := cell_of_row wr (w.heap.size + 1 + 1) 3 _ 75 (0, 0) HR5.out
        have f3 : wr.frozen? ⟨w.heap.size + 1 + 1, 3, none⟩ = false := unfrozen HR5.out 3
        have t0 : wr.cell? ⟨wc.heap.size, 0, none⟩ = some (.int .i64 now) := cell_of_row wr wc.heap.size 0 _ 75 (0, 0) HO5.out
        have t1 : wr.cell? ⟨wc.heap.size, 1, none⟩ = some (.slice none 0 0) := cell_of_row wr wc.heap.size 1 _ 75 (0, 0) HO5.out
        have t2 : wr.cell? ⟨wc.heap.size, 2, none⟩ = some (.bool rst) := cell_of_row wr wc.heap.size 2 _ 75 (0, 0) HO5.out
        have t3 : wr.cell? ⟨wc.heap.size, 3, none⟩ = some (.int .i64 0) := cell_of_row wr wc.heap.size 3 _ 75 (0, 0) HO5.out
        have hne : ¬ w.heap.size + 1 + 1 = wc.heap.size := by omega
        by_cases hl : (0 : Int) < (out.length : Int)
        · go_wp2_with fail
          refine bodyPost_ret (v := .agg #[.int .i64 now, .slice none 0 0, .bool rst, .int .i64 0]) (by simp [results, Try.results32, go_sem, r0, r1, r2, r3]) rfl ?_
          exact ru_none HR1.out ((((HX5.out.bl.setCell (by simp; omega) _).setCell (by simp; omega) _).setCell (by simp; omega) _).setCell (by simp; omega) _)
        · go_wp2_with fail
          refine bodyPost_ret (v := .agg #[.int .i64 now, .slice none 0 0, .bool rst, .int .i64 0]) (by simp [results, Try.results32, go_sem, r0, r1, r2, r3]) rfl ?_
          exact ru_none HR1.out ((((HX5.out.bl.setCell (by simp; omega) _).setCell (by simp; omega) _).setCell (by simp; omega) _).setCell (by simp; omega) _)
    | true =>
      have HR1 := Lib.hid (show turnR N es p s l q st v val got sm = if msgB p now out.length out = true then (now, msgL p now out.length out, rst, 0) else (0, [], false, 8) by simpa using HR.out)
      clear HR
      obtain ⟨i0, hi0, hz0, hzs, hzb⟩ := info_parts (show (Try.prog.info? 59).map (fun i => (i.zero, i.size, i.bytes)) = some (some (.agg #[.int .i64 0, .int .i64 0]), 2, 16) by kernel_rfl)
      have HI0 := Lib.hid hi0
      have HZ0 := Lib.hid hz0
      have HZS := Lib.hid hzs
      have HZB := Lib.hid hzb
      clear hi0 hz0 hzs hzb
      go_wp2_with fail
      go_loopw [23] (fun i W => RtRel p now rst out wc.heap.size w5 i W) (fun i W => out.length - (intOf i).toNat)
      case atStart => exact ⟨0, none, 0, rfl, Nat.zero_le _, World.ownsRow_nil _ _ _ _, HO5.out, Bel1.refl _ _ _, rfl⟩
      case round =>
        obtain ⟨k, A1, c1, rfl, hk, hown, hblk, hbel, hok⟩ := hrel
        have HOWN := Lib.hid hown
        have HOK := Lib.hid hok
        have HBL := Lib.hid hblk
        have hzr := hbel.size
        have HRR := Lib.hid ((hbel.block (w.heap.size + 1 + 1) (by omega) (by omega)).trans HR5.out)
        have HOR := Lib.hid (hbel.own HOW.out (by omega))
        have HBR := Lib.hid (show Below w.heap.size w wr from HX5.out.bl.trans (hbel.low (by have := HX5.out.bl.size; omega) (by omega)))
        have j0 : wr.cell? ⟨w.heap.size + 1, 0, none⟩ = some (.int .i64 p) := (hbel.cell (p := ⟨w.heap.size + 1, 0, none⟩) (by show w.heap.size + 1 < _; omega) (by show w.heap.size + 1 ≠ _; omega)).trans HX5.out.j0
        clear hown hok hblk
        by_cases hlt : k < out.length
        · obtain ⟨ad, rfl, hadb, e0, e1, e2⟩ := (Lies.of_own HOR.out).ed k hlt
          have HX := Lib.hid (show bd (eAt out k).2.2 from HWB.out _ (by rw [eAt_get out k hlt]; exact List.getElem_mem hlt))
          have HM := Lib.hid (show bd (out.length : Int) from ⟨by omega, by have := HLEN.out; omega⟩)
          have HSE := Lib.hid (fun W => rsent_any p now (eAt out k) out.length W HP.out HNB.out HX.out HM.out)
          have hkl : (k : Int) < (out.length : Int) := by omega
          have hq2 : (ad.add (k * 3)).block < wr.heap.size := by rw [block_add]; exact hadb
          go_wp2_with fail
          go_region_held3 (fun w' => w'.cell? ⟨w.heap.size + 1, 0, none⟩ = some (.int .i64 p) ∧ w'.cell? (ad.add (k * 3)) = some (.int .i64 (eAt out k).1) ∧ w'.cell? ⟨(ad.add (k * 3)).block, (ad.add (k * 3)).off + 1, none⟩ = some (.int .i64 (eAt out k).2.1) ∧ w'.cell? ⟨(ad.add (k * 3)).block, (ad.add (k * 3)).off + 2, none⟩ = some (.int .i64 (eAt out k).2.2))
            (first | exact q1 | exact ⟨j0, e0, e1, e2⟩)
            (first | ((go_at_call 60); (with_reducible refine (HSE.out _).mono ?_); rintro e w7 ⟨rfl, hb7⟩; have q1 := keep4 hb7 (by show _ < wr.heap.size; omega) hq2 j0 e0 e1 e2))
          have hb7' : Below wr.heap.size wr w7 := below_of_drew hb7
          have hz7 : wr.heap.size ≤ w7.heap.size := hb7'.size
          have HR7 := Lib.hid ((hb7'.block (w.heap.size + 1 + 1) (by omega)).trans HRR.out)
          have HL7 := Lib.hid ((hb7'.block wc.heap.size (by omega)).trans HBL.out)
          have HO7 := Lib.hid (own_next HOWN.out hb7')
          have HB7 := Lib.hid (HBR.out.trans (hb7'.mono HBR.out.size))
          have HE7 := Lib.hid (hbel.below hb7' hzr)
          have e7 := q1.2.2.1
          clear hb7 hb7' q1 j0 e0 e1 e2 HSE HOWN HBL HRR HBR hbel HOR
          by_cases hal : alB p now (eAt out k) out.length = true
          · have HAL := Lib.hid hal
            rw [HAL.out]
            have HL := Lib.hid (msgL_take p now out.length out k hlt)
            have HB := Lib.hid (show msgB p now out.length (out.take (k + 1)) = true by rw [msgB_take p now _ out k hlt, HOK.out, hal]; rfl)
            clear hal
            obtain ⟨x, hx⟩ : ∃ x : Int, x = alX p now (eAt out k) out.length := ⟨_, rfl⟩
            rw [← hx] at HL ⊢
            clear hx
            have hlen := HLEN.out
            have t1 : w7.cell? ⟨wc.heap.size, 1, none⟩ = some (.slice A1 k c1) := cell_of_row w7 wc.heap.size 1 _ 75 (0, 0) HL7.out
            have ta : ∀ o, (w7.alloc o).cell? ⟨wc.heap.size, 1, none⟩ = some (.slice A1 k c1) := fun o => (World.cell?_alloc_lt w7 o _ (by show wc.heap.size < _; omega)).trans t1
            have ea : ∀ o, (w7.alloc o).cell? ⟨(ad.add (k * 3)).block, (ad.add (k * 3)).off + 1, none⟩ = some (.int .i64 (eAt out k).2.1) := fun o => (World.cell?_alloc_lt w7 o _ (by show (ad.add (k * 3)).block < _; omega)).trans e7
            have hl8 : Lies (w7.drew.alloc (.cells #[.int .i64 (eAt out k).2.1, .int .i64 x] 59)) (w7.heap.size + 1) 2 (some ⟨w7.heap.size, 0, none⟩) 1 (mc [((eAt out k).2.1, x)]) := by
              refine ⟨rfl, fun j u hj => ⟨_, rfl, Nat.lt_succ_self _, ?_⟩⟩
              have : (⟨w7.heap.size, 0, none⟩ : Addr).add j = ⟨w7.heap.size, j, none⟩ := by unfold Addr.add; split <;> simp_all
              rw [this]
              refine (cell_of_row _ w7.heap.size j _ 59 (0, 0) (heap_alloc_new w7.drew _)).trans ?_
              simpa [mc] using hj
            have hb8 : Below w7.heap.size w7 (w7.drew.alloc (.cells #[.int .i64 (eAt out k).2.1, .int .i64 x] 59)) := below_of_drew (w := w7) (below_alloc w7.drew _)
            have hz8 : (w7.drew.alloc (.cells #[.int .i64 (eAt out k).2.1, .int .i64 x] 59)).heap.size = w7.heap.size + 1 := by simp
            obtain ⟨A9, c9, w9, hr, ho9, hb9, _, _⟩ := run_app (P := Try.prog) (w7.drew.alloc (.cells #[.int .i64 (eAt out k).2.1, .int .i64 x] 59)) w5.heap.size 29 29 59 i0 _ 2 16 Try.underlying29 HI0.out HZ0.out HZS.out HZB.out rfl (by decide) A1 k c1 _ (own_next HO7.out hb8) _ _ 1 1 _ hl8 (mc_one _) (by unfold maxLen; omega) (by omega) (by rw [hz8]; omega)
            have hl9 := (hb9.block wc.heap.size (by omega)).trans ((hb8.block wc.heap.size (by omega)).trans HL7.out)
            have t9 : w9.cell? ⟨wc.heap.size, 1, none⟩ = some (.slice A1 k c1) := cell_of_row w9 wc.heap.size 1 _ 75 (0, 0) hl9
            have f9 : w9.frozen? ⟨wc.heap.size, 1, none⟩ = false := unfrozen hl9 1
            have HO9 := Lib.hid (own_set ho9 (g := wc.heap.size) (by omega) 1 (.slice A9 (k + 1) c9))
            have HB9 := Lib.hid (((HE7.out.below hb8 (by omega)).below hb9 (Nat.le_refl _)).set 1 (.slice A9 (k + 1) c9))
            have HL9 := Lib.hid (set_heap (i := 1) hl9 (.slice A9 (k + 1) c9))
            have HR9 := Lib.hid hr
            have hk80 : k < 80 := by omega
            clear hr ho9 hb9 hl9 hb8 hl8 hz8 HE7 HO7 HL7 HR7 HB7 hlen g0 j0 j1
            go_wp2_with fail
            go_region_law (refine step_app rfl _ _ 29 29 rfl _ _ (by simp [Act.eval]) (by simp [Act.eval]) HR9.out ?_)
            go_wp2_with fail
            all_goals
              go_roundw
              case rel => exact ⟨k + 1, A9, c9, by go_num, by omega, by rw [HL.out, mc_append]; exact HO9.out, HL9.out, HB9.out, HB.out⟩
              case measure => simp [intOf]; omega
          · have hal' : alB p now (eAt out k) out.length = false := by simpa using hal
            have HAL := Lib.hid hal'
            have HNO := Lib.hid (msgB_no p now out.length out k hlt hal')
            clear hal hal'
            rw [HAL.out]
            have r0 : w7.cell? ⟨w.heap.size + 1 + 1, 0, none⟩ = some (.int .i64 0) := cell_of_row w7 (w.heap.size + 1 + 1) 0 _ 75 (0, 0) HR7.out
            have f0 : w7.frozen? ⟨w.heap.size + 1 + 1, 0, none⟩ = false := unfrozen HR7.out 0
            have r1 : w7.cell? ⟨w.heap.size + 1 + 1, 1, none⟩ = some (.slice none 0 0) := cell_of_row w7 (w.heap.size + 1 + 1) 1 _ 75 (0, 0) HR7.out
            have f1 : w7.frozen? ⟨w.heap.size + 1 + 1, 1, none⟩ = false := unfrozen HR7.out 1
            have r2 : w7.cell? ⟨w.heap.size + 1 + 1, 2, none⟩ = some (.bool false) := cell_of_row w7 (w.heap.size + 1 + 1) 2 _ 75 (0, 0) HR7.out
            have f2 : w7.frozen? ⟨w.heap.size + 1 + 1, 2, none⟩ = false := unfrozen HR7.out 2
            have r3 : w7.cell? ⟨w.heap.size + 1 + 1, 3, none⟩ = some (.int .i64 0) := cell_of_row w7 (w.heap.size + 1 + 1) 3 _ 75 (0, 0) HR7.out
            have f3 : w7.frozen? ⟨w.heap.size + 1 + 1, 3, none⟩ = false := unfrozen HR7.out 3
            go_wp2_with fail
            refine bodyPost_ret (v := .agg #[.int .i64 0, .slice none 0 0, .bool false, .int .i64 8]) (by simp [results, Try.results32, go_sem, r0, r1, r2, r3]) rfl ?_
            exact ru_none (HR1.out.trans (by rw [HNO.out]; rfl)) ((((HB7.out.setCell (by simp; omega) _).setCell (by simp; omega) _).setCell (by simp; omega) _).setCell (by simp; omega) _)
        · have hk' : k = out.length := by omega
          subst hk'
          have HT := Lib.hid (show out.take out.length = out from List.take_of_length_le (Nat.le_refl _))
          have r0 : wr.cell? ⟨w.heap.size + 1 + 1, 0, none⟩ = some (.int .i64 0) := cell_of_row wr (w.heap.size + 1 + 1) 0 _ 75 (0, 0) HRR.out
          have f0 : wr.frozen? ⟨w.heap.size + 1 + 1, 0, none⟩ = false := unfrozen HRR.out 0
          have r1 : wr.cell? ⟨w.heap.size + 1 + 1, 1, none⟩ = some (.slice none 0 0) := cell_of_row wr (w.heap.size + 1 + 1) 1 _ 75 (0, 0) HRR.out
          have f1 : wr.frozen? ⟨w.heap.size + 1 + 1, 1, none⟩ = false := unfrozen HRR.out 1
          have r2 : wr.cell? ⟨w.heap.size + 1 + 1, 2, none⟩ = some (.bool false) := cell_of_row wr (w.heap.size + 1 + 1) 2 _ 75 (0, 0) HRR.out
          have f2 : wr.frozen? ⟨w.heap.size + 1 + 1, 2, none⟩ = false := unfrozen HRR.out 2
          have r3 : wr.cell? ⟨w.heap.size + 1 + 1, 3, none⟩ = some (.int .i64 0) := cell_of_row wr (w.heap.size + 1 + 1) 3 _ 75 (0, 0) HRR.out
          have f3 : wr.frozen? ⟨w.heap.size + 1 + 1, 3, none⟩ = false := unfrozen HRR.out 3
          have t0 : wr.cell? ⟨wc.heap.size, 0, none⟩ = some (.int .i64 now) := cell_of_row wr wc.heap.size 0 _ 75 (0, 0) HBL.out
          have t1 : wr.cell? ⟨wc.heap.size, 1, none⟩ = some (.slice A1 out.length c1) := cell_of_row wr wc.heap.size 1 _ 75 (0, 0) HBL.out
          have t2 : wr.cell? ⟨wc.heap.size, 2, none⟩ = some (.bool rst) := cell_of_row wr wc.heap.size 2 _ 75 (0, 0) HBL.out
          have t3 : wr.cell? ⟨wc.heap.size, 3, none⟩ = some (.int .i64 0) := cell_of_row wr wc.heap.size 3 _ 75 (0, 0) HBL.out
          have hne : ¬ w.heap.size + 1 + 1 = wc.heap.size := by omega
          clear hbel
          go_wp2_with fail
          refine bodyPost_ret (v := .agg #[.int .i64 now, .slice A1 out.length c1, .bool rst, .int .i64 0]) (by simp [results, Try.results32, go_sem, r0, r1, r2, r3]) rfl ?_
          have ok := HOK.out
          have own := HOWN.out
          rw [HT.out] at ok own
          have e1 := HR1.out
          rw [if_pos ok] at e1
          have hlen := msgL_len p now out.length out
          rw [e1]
          refine ⟨((((HBR.out.setCell (by simp; omega) _).setCell (by simp; omega) _).setCell (by simp; omega) _).setCell (by simp; omega) _), A1, c1, by rw [hlen], ?_⟩
          show World.ownsRow _ w.heap.size 59 2 (.slice A1 (msgL p now out.length out).length c1) (msgL p now out.length out).length (mc (msgL p now out.length out))
          rw [hlen]
          refine World.ownsRow.lower (base := w5.heap.size) ?_ (by omega)
          exact own_set (own_set (own_set (own_set own (by omega) _ _) (by omega) _ _) (by omega) _ _) (by omega) _ _
theorem rturn_any (N : Int) (A : Option Addr) (n c : Nat) (es : List Ed) (p s l q st v val got : Int) (sm : Bool) (w : World) (hA : Lies w w.heap.size 3 A n (ec es)) (hnc : n ≤ c) (hn : n ≤ maxLen) (hv : bd val) (hg : bd got) :
    Calls Try.prog 32 #[.agg #[.int .i64 N, .slice A n c], .agg #[.int .i64 p, .int .i64 s, .int .i64 l, .int .i64 q], .int .i64 st, .int .i64 v, .int .i64 val, .int .i64 got, .bool sm] w (RuPost (turnR N es p s l q st v val got sm) w) := by
  by_cases h1 : vchk N es p s l q v = 0
  · by_cases h2 : st < 0 ∨ 40 < st
    · exact rturn_step N A n c es p s l q st v val got sm w hA hnc hn h1 h2
    · by_cases h3 : valB p st val got sm = true
      · exact rturn_ok N A n c es p s l q st v val got sm w hA hnc hn hv hg h1 h2 h3
      · by_cases h5 : p = 5
        · subst h5
          exact rturn_val N A n c es s l q st v val got sm w hA hnc hn hg h1 h2 h3
        · exact absurd (by unfold valB; rw [if_neg h5]) h3
  · exact rturn_v N A n c es p s l q st v val got sm w hA hnc hn h1
end Go.Proofs.Ytcaccjfnibjbpaa

