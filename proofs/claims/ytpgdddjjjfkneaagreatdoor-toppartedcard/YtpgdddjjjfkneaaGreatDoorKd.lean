import Derived.Test.YtpgdddjjjfkneaaGreatDoorKc
import Derived.Deep.DeepMust
/-
  Contracts of programFor, Start and Fold. No condition.
-/
namespace Go.Proofs.YtpgdddjjjfkneaaGreatDoor
open Go.ChangeShapes Go.WideShapes Go.ChangeAt Go.RowKit
set_option linter.unusedVariables false

theorem unfrozen {W : World} {b : Nat} {cs : Array Value} {T : TypeId} (h : W.heap[b]? = some (.cells cs T (0, 0))) (i : Nat) : W.frozen? ⟨b, i, none⟩ = false := by simp [World.frozen?, h]
theorem ret_ii {a b c d : Int} (h : a = b) (g : c = d) : Ending.returned (.tuple #[.int .i64 a, .int .i64 c]) = .returned (.tuple #[.int .i64 b, .int .i64 d]) := by rw [h, g]
/-- What Start and Turn tell first. -/
def vchk (N : Int) (es : List Ed) (p s l q v : Int) : Int := if jchk N es p s l q = 0 then (if 0 ≤ v ∧ v < N then 0 else 4) else jchk N es p s l q
theorem vchk_zero {N : Int} {es : List Ed} {p s l q v : Int} (h : vchk N es p s l q v = 0) : jchk N es p s l q = 0 ∧ 0 ≤ v ∧ v < N := by
  unfold vchk at h
  by_cases hj : jchk N es p s l q = 0
  · rw [if_pos hj] at h
    by_cases hv : 0 ≤ v ∧ v < N
    · exact ⟨hj, hv⟩
    · rw [if_neg hv] at h; cases h
  · rw [if_neg hj] at h; exact absurd h hj
/-- The block that the first three boxes leave for the answer. -/
theorem third (w : World) (N : Int) (A : Option Addr) (n c : Nat) (p s l q : Int) (o : Obj) (W : World)
    (hb : Below (((w.alloc (.cells #[.int .i64 N, .slice A n c] 27)).alloc (.cells #[.int .i64 p, .int .i64 s, .int .i64 l, .int .i64 q] 23)).alloc o).heap.size (((w.alloc (.cells #[.int .i64 N, .slice A n c] 27)).alloc (.cells #[.int .i64 p, .int .i64 s, .int .i64 l, .int .i64 q] 23)).alloc o) W) :
    W.heap[w.heap.size + 1 + 1]? = some o ∧ w.heap.size + 1 + 1 < W.heap.size := by
  have e : ((w.alloc (.cells #[.int .i64 N, .slice A n c] 27)).alloc (.cells #[.int .i64 p, .int .i64 s, .int .i64 l, .int .i64 q] 23)).heap.size = w.heap.size + 1 + 1 := by simp
  have hl : w.heap.size + 1 + 1 < (((w.alloc (.cells #[.int .i64 N, .slice A n c] 27)).alloc (.cells #[.int .i64 p, .int .i64 s, .int .i64 l, .int .i64 q] 23)).alloc o).heap.size := by simp
  refine ⟨(hb.block _ hl).trans ?_, Nat.lt_of_lt_of_le hl hb.size⟩
  rw [← e]
  exact heap_alloc_new _ _
set_option maxHeartbeats 1000000 in
theorem for_no (N : Int) (A : Option Addr) (n c : Nat) (es : List Ed) (p s l q v : Int) (w : World) (hA : Lies w w.heap.size 3 A n (ec es)) (hnc : n ≤ c) (hn : n ≤ maxLen) (hv : ¬ vchk N es p s l q v = 0) :
    Calls Tryz.prog 37 #[.agg #[.int .i64 N, .slice A n c], .agg #[.int .i64 p, .int .i64 s, .int .i64 l, .int .i64 q], .int .i64 v] w fun e w' =>
      e = .returned (.tuple #[.agg #[.nilFunc, .nilFunc, .nilFunc, .nilFunc, .nilFunc, .nilFunc], .int .i64 (vchk N es p s l q v)]) ∧ Below w.heap.size w w' := by
  have hbx := (Bx.init w N A n c p s l q).alloc (.cells #[.nilFunc, .nilFunc, .nilFunc, .nilFunc, .nilFunc, .nilFunc] 94)
  have hA1 := hA.next hbx.bl
  have HBX := Lib.hid hbx
  clear hbx
  by_cases hj : jchk N es p s l q = 0
  · have h4 : ¬ (0 ≤ v ∧ v < N) := by
      intro h
      apply hv
      unfold vchk
      rw [if_pos hj, if_pos h]
    have HR := Lib.hid (show vchk N es p s l q v = 4 by unfold vchk; rw [if_pos hj, if_neg h4])
    have HV := Lib.hid (show false = decide (0 ≤ v ∧ v < N) by simpa using h4)
    have HJ := Lib.hid hj
    clear hj h4 hv
    go_enter Tryz.func37, Tryz.ntmps37
    go_wp2_with fail
    refine (jcheck_any N A n c es p s l q _ hA1 hnc hn).mono ?_
    rintro e w1 ⟨rfl, hb1⟩
    rw [HJ.out]
    have hx1 := HBX.out.next hb1
    have HT := Lib.hid (third w N A n c p s l q _ w1 hb1)
    obtain ⟨z1, g0, g1, j0, j1, j2, j3, bl1⟩ := id hx1
    clear hb1 hA1 HBX
    go_wp2_with fail
    refine (isV_any N A n c v _ false HV.out).mono ?_
    rintro e w3 ⟨rfl, hb3⟩
    have H3 := Lib.hid (hx1.next hb3).bl
    have hr3 := (hb3.block _ HT.out.2).trans HT.out.1
    have r0 : w3.cell? ⟨w.heap.size + 1 + 1, 0, none⟩ = some .nilFunc := cell_of_row w3 (w.heap.size + 1 + 1) 0 _ 94 (0, 0) hr3
    have f0 : w3.frozen? ⟨w.heap.size + 1 + 1, 0, none⟩ = false := unfrozen hr3 0
    have r1 : w3.cell? ⟨w.heap.size + 1 + 1, 1, none⟩ = some .nilFunc := cell_of_row w3 (w.heap.size + 1 + 1) 1 _ 94 (0, 0) hr3
    have f1 : w3.frozen? ⟨w.heap.size + 1 + 1, 1, none⟩ = false := unfrozen hr3 1
    have r2 : w3.cell? ⟨w.heap.size + 1 + 1, 2, none⟩ = some .nilFunc := cell_of_row w3 (w.heap.size + 1 + 1) 2 _ 94 (0, 0) hr3
    have f2 : w3.frozen? ⟨w.heap.size + 1 + 1, 2, none⟩ = false := unfrozen hr3 2
    have r3 : w3.cell? ⟨w.heap.size + 1 + 1, 3, none⟩ = some .nilFunc := cell_of_row w3 (w.heap.size + 1 + 1) 3 _ 94 (0, 0) hr3
    have f3 : w3.frozen? ⟨w.heap.size + 1 + 1, 3, none⟩ = false := unfrozen hr3 3
    have r4 : w3.cell? ⟨w.heap.size + 1 + 1, 4, none⟩ = some .nilFunc := cell_of_row w3 (w.heap.size + 1 + 1) 4 _ 94 (0, 0) hr3
    have f4 : w3.frozen? ⟨w.heap.size + 1 + 1, 4, none⟩ = false := unfrozen hr3 4
    have r5 : w3.cell? ⟨w.heap.size + 1 + 1, 5, none⟩ = some .nilFunc := cell_of_row w3 (w.heap.size + 1 + 1) 5 _ 94 (0, 0) hr3
    have f5 : w3.frozen? ⟨w.heap.size + 1 + 1, 5, none⟩ = false := unfrozen hr3 5
    clear hr3 hb3 g0 g1 j0 j1 j2 j3 bl1 z1 hx1 HT
    go_wp2_with fail
    refine bodyPost_ret (v := .tuple #[.agg #[.nilFunc, .nilFunc, .nilFunc, .nilFunc, .nilFunc, .nilFunc], .int .i64 4]) (by simp [results, Tryz.results37, go_sem, r0, r1, r2, r3, r4, r5]) rfl ?_
    exact ⟨by rw [HR.out], ((((((H3.out.setCell (by simp; omega) _).setCell (by simp; omega) _).setCell (by simp; omega) _).setCell (by simp; omega) _).setCell (by simp; omega) _).setCell (by simp; omega) _)⟩
  · have HR := Lib.hid (show vchk N es p s l q v = jchk N es p s l q by unfold vchk; rw [if_neg hj])
    have h1 : (jchk N es p s l q != 0) = true := by simpa using hj
    clear hj hv
    go_enter Tryz.func37, Tryz.ntmps37
    go_wp2_with fail
    refine (jcheck_any N A n c es p s l q _ hA1 hnc hn).mono ?_
    rintro e w3 ⟨rfl, hb1⟩
    have H3 := Lib.hid (HBX.out.next hb1).bl
    have hr3 := (third w N A n c p s l q _ w3 hb1).1
    have r0 : w3.cell? ⟨w.heap.size + 1 + 1, 0, none⟩ = some .nilFunc := cell_of_row w3 (w.heap.size + 1 + 1) 0 _ 94 (0, 0) hr3
    have f0 : w3.frozen? ⟨w.heap.size + 1 + 1, 0, none⟩ = false := unfrozen hr3 0
    have r1 : w3.cell? ⟨w.heap.size + 1 + 1, 1, none⟩ = some .nilFunc := cell_of_row w3 (w.heap.size + 1 + 1) 1 _ 94 (0, 0) hr3
    have f1 : w3.frozen? ⟨w.heap.size + 1 + 1, 1, none⟩ = false := unfrozen hr3 1
    have r2 : w3.cell? ⟨w.heap.size + 1 + 1, 2, none⟩ = some .nilFunc := cell_of_row w3 (w.heap.size + 1 + 1) 2 _ 94 (0, 0) hr3
    have f2 : w3.frozen? ⟨w.heap.size + 1 + 1, 2, none⟩ = false := unfrozen hr3 2
    have r3 : w3.cell? ⟨w.heap.size + 1 + 1, 3, none⟩ = some .nilFunc := cell_of_row w3 (w.heap.size + 1 + 1) 3 _ 94 (0, 0) hr3
    have f3 : w3.frozen? ⟨w.heap.size + 1 + 1, 3, none⟩ = false := unfrozen hr3 3
    have r4 : w3.cell? ⟨w.heap.size + 1 + 1, 4, none⟩ = some .nilFunc := cell_of_row w3 (w.heap.size + 1 + 1) 4 _ 94 (0, 0) hr3
    have f4 : w3.frozen? ⟨w.heap.size + 1 + 1, 4, none⟩ = false := unfrozen hr3 4
    have r5 : w3.cell? ⟨w.heap.size + 1 + 1, 5, none⟩ = some .nilFunc := cell_of_row w3 (w.heap.size + 1 + 1) 5 _ 94 (0, 0) hr3
    have f5 : w3.frozen? ⟨w.heap.size + 1 + 1, 5, none⟩ = false := unfrozen hr3 5
    clear hr3 hb1 hA1 HBX
    go_wp2_with fail
    refine bodyPost_ret (v := .tuple #[.agg #[.nilFunc, .nilFunc, .nilFunc, .nilFunc, .nilFunc, .nilFunc], .int .i64 (jchk N es p s l q)]) (by simp [results, Tryz.results37, go_sem, r0, r1, r2, r3, r4, r5]) rfl ?_
    exact ⟨by rw [HR.out], ((((((H3.out.setCell (by simp; omega) _).setCell (by simp; omega) _).setCell (by simp; omega) _).setCell (by simp; omega) _).setCell (by simp; omega) _).setCell (by simp; omega) _)⟩
/-- What programFor answers for a job that is right and a vertex. -/
def ForPost (p : Int) (w : World) (e : Ending) (w' : World) : Prop :=
  Below w.heap.size w w' ∧ ∃ k0 k1 k2 k3 k4 k5 y, e = .returned (.tuple #[.agg #[.func (.func k0) #[] #[], .func (.func k1) #[] #[], .func (.func k2) #[] y, .func (.func k3) #[] #[], .func (.func k4) #[] #[], .func (.func k5) #[] #[]], .int .i64 0]) ∧
    Prg p k0 k1 k2 k3 k4 k5 y ∧ Cap w.heap.size p y w'
set_option maxHeartbeats 1000000 in
theorem for_ok (N : Int) (A : Option Addr) (n c : Nat) (es : List Ed) (p s l q v : Int) (w : World) (hA : Lies w w.heap.size 3 A n (ec es)) (hnc : n ≤ c) (hn : n ≤ maxLen) (hv : vchk N es p s l q v = 0) :
    Calls Tryz.prog 37 #[.agg #[.int .i64 N, .slice A n c], .agg #[.int .i64 p, .int .i64 s, .int .i64 l, .int .i64 q], .int .i64 v] w (ForPost p w) := by
  have hbx := (Bx.init w N A n c p s l q).alloc (.cells #[.nilFunc, .nilFunc, .nilFunc, .nilFunc, .nilFunc, .nilFunc] 94)
  have hA1 := hA.next hbx.bl
  have HBX := Lib.hid hbx
  clear hbx
  obtain ⟨hj, hv1⟩ := vchk_zero hv
  have HP := Lib.hid (badJ_not (jchk_zero hj).2).1
  have HV := Lib.hid (show true = decide (0 ≤ v ∧ v < N) by simpa using hv1)
  have HJ := Lib.hid hj
  clear hj hv hv1
  go_enter Tryz.func37, Tryz.ntmps37
  go_wp2_with fail
  refine (jcheck_any N A n c es p s l q _ hA1 hnc hn).mono ?_
  rintro e w1 ⟨rfl, hb1⟩
  rw [HJ.out]
  have hx1 := HBX.out.next hb1
  have HT := Lib.hid (third w N A n c p s l q _ w1 hb1)
  obtain ⟨z1, g0, g1, j0, j1, j2, j3, bl1⟩ := id hx1
  clear hb1 hA1 HBX
  go_wp2_with fail
  refine (isV_any N A n c v _ true HV.out).mono ?_
  rintro e w3 ⟨rfl, hb3⟩
  have hx3 := hx1.next hb3
  have HT3 := Lib.hid (show w3.heap[w.heap.size + 1 + 1]? = _ ∧ w.heap.size + 1 + 1 < w3.heap.size from ⟨(hb3.block _ HT.out.2).trans HT.out.1, Nat.lt_of_lt_of_le HT.out.2 hb3.size⟩)
  clear hb3 g0 g1 j0 j1 j2 j3 bl1 z1 hx1 HT
  obtain ⟨z1, g0, g1, j0, j1, j2, j3, bl1⟩ := id hx3
  go_wp2_with fail
  refine (of_yes p _ HP.out.1 HP.out.2).mono ?_
  rintro e w4 ⟨hb4, k0, k1, k2, k3, k4, k5, y, rfl, hP, hC⟩
  obtain ⟨o, ho⟩ : ∃ o : Obj, o = .cells #[.func (.func k0) #[] #[], .func (.func k1) #[] #[], .func (.func k2) #[] y, .func (.func k3) #[] #[], .func (.func k4) #[] #[], .func (.func k5) #[] #[]] 94 := ⟨_, rfl⟩
  have hb5 := hb4.trans ((below_alloc w4 o).mono hb4.size)
  have H3 := Lib.hid (hx3.next hb5).bl
  have hr3 := (hb5.block _ HT3.out.2).trans HT3.out.1
  have HC := Lib.hid ((hC.next (below_alloc w4 o)).low (B' := w.heap.size + 1 + 1 + 1) HT3.out.2)
  have HPR := Lib.hid hP
  rw [ho] at hr3 H3 HC
  have r0 : (w4.alloc (.cells #[.func (.func k0) #[] #[], .func (.func k1) #[] #[], .func (.func k2) #[] y, .func (.func k3) #[] #[], .func (.func k4) #[] #[], .func (.func k5) #[] #[]] 94)).cell? ⟨w.heap.size + 1 + 1, 0, none⟩ = some .nilFunc := cell_of_row (w4.alloc (.cells #[.func (.func k0) #[] #[], .func (.func k1) #[] #[], .func (.func k2) #[] y, .func (.func k3) #[] #[], .func (.func k4) #[] #[], .func (.func k5) #[] #[]] 94)) (w.heap.size + 1 + 1) 0 _ 94 (0, 0) hr3
  have f0 : (w4.alloc (.cells #[.func (.func k0) #[] #[], .func (.func k1) #[] #[], .func (.func k2) #[] y, .func (.func k3) #[] #[], .func (.func k4) #[] #[], .func (.func k5) #[] #[]] 94)).frozen? ⟨w.heap.size + 1 + 1, 0, none⟩ = false := unfrozen hr3 0
  have r1 : (w4.alloc (.cells #[.func (.func k0) #[] #[], .func (.func k1) #[] #[], .func (.func k2) #[] y, .func (.func k3) #[] #[], .func (.func k4) #[] #[], .func (.func k5) #[] #[]] 94)).cell? ⟨w.heap.size + 1 + 1, 1, none⟩ = some .nilFunc := cell_of_row (w4.alloc (.cells #[.func (.func k0) #[] #[], .func (.func k1) #[] #[], .func (.func k2) #[] y, .func (.func k3) #[] #[], .func (.func k4) #[] #[], .func (.func k5) #[] #[]] 94)) (w.heap.size + 1 + 1) 1 _ 94 (0, 0) hr3
  have f1 : (w4.alloc (.cells #[.func (.func k0) #[] #[], .func (.func k1) #[] #[], .func (.func k2) #[] y, .func (.func k3) #[] #[], .func (.func k4) #[] #[], .func (.func k5) #[] #[]] 94)).frozen? ⟨w.heap.size + 1 + 1, 1, none⟩ = false := unfrozen hr3 1
  have r2 : (w4.alloc (.cells #[.func (.func k0) #[] #[], .func (.func k1) #[] #[], .func (.func k2) #[] y, .func (.func k3) #[] #[], .func (.func k4) #[] #[], .func (.func k5) #[] #[]] 94)).cell? ⟨w.heap.size + 1 + 1, 2, none⟩ = some .nilFunc := cell_of_row (w4.alloc (.cells #[.func (.func k0) #[] #[], .func (.func k1) #[] #[], .func (.func k2) #[] y, .func (.func k3) #[] #[], .func (.func k4) #[] #[], .func (.func k5) #[] #[]] 94)) (w.heap.size + 1 + 1) 2 _ 94 (0, 0) hr3
  have f2 : (w4.alloc (.cells #[.func (.func k0) #[] #[], .func (.func k1) #[] #[], .func (.func k2) #[] y, .func (.func k3) #[] #[], .func (.func k4) #[] #[], .func (.func k5) #[] #[]] 94)).frozen? ⟨w.heap.size + 1 + 1, 2, none⟩ = false := unfrozen hr3 2
  have r3 : (w4.alloc (.cells #[.func (.func k0) #[] #[], .func (.func k1) #[] #[], .func (.func k2) #[] y, .func (.func k3) #[] #[], .func (.func k4) #[] #[], .func (.func k5) #[] #[]] 94)).cell? ⟨w.heap.size + 1 + 1, 3, none⟩ = some .nilFunc := cell_of_row (w4.alloc (.cells #[.func (.func k0) #[] #[], .func (.func k1) #[] #[], .func (.func k2) #[] y, .func (.func k3) #[] #[], .func (.func k4) #[] #[], .func (.func k5) #[] #[]] 94)) (w.heap.size + 1 + 1) 3 _ 94 (0, 0) hr3
  have f3 : (w4.alloc (.cells #[.func (.func k0) #[] #[], .func (.func k1) #[] #[], .func (.func k2) #[] y, .func (.func k3) #[] #[], .func (.func k4) #[] #[], .func (.func k5) #[] #[]] 94)).frozen? ⟨w.heap.size + 1 + 1, 3, none⟩ = false := unfrozen hr3 3
  have r4 : (w4.alloc (.cells #[.func (.func k0) #[] #[], .func (.func k1) #[] #[], .func (.func k2) #[] y, .func (.func k3) #[] #[], .func (.func k4) #[] #[], .func (.func k5) #[] #[]] 94)).cell? ⟨w.heap.size + 1 + 1, 4, none⟩ = some .nilFunc := cell_of_row (w4.alloc (.cells #[.func (.func k0) #[] #[], .func (.func k1) #[] #[], .func (.func k2) #[] y, .func (.func k3) #[] #[], .func (.func k4) #[] #[], .func (.func k5) #[] #[]] 94)) (w.heap.size + 1 + 1) 4 _ 94 (0, 0) hr3
  have f4 : (w4.alloc (.cells #[.func (.func k0) #[] #[], .func (.func k1) #[] #[], .func (.func k2) #[] y, .func (.func k3) #[] #[], .func (.func k4) #[] #[], .func (.func k5) #[] #[]] 94)).frozen? ⟨w.heap.size + 1 + 1, 4, none⟩ = false := unfrozen hr3 4
  have r5 : (w4.alloc (.cells #[.func (.func k0) #[] #[], .func (.func k1) #[] #[], .func (.func k2) #[] y, .func (.func k3) #[] #[], .func (.func k4) #[] #[], .func (.func k5) #[] #[]] 94)).cell? ⟨w.heap.size + 1 + 1, 5, none⟩ = some .nilFunc := cell_of_row (w4.alloc (.cells #[.func (.func k0) #[] #[], .func (.func k1) #[] #[], .func (.func k2) #[] y, .func (.func k3) #[] #[], .func (.func k4) #[] #[], .func (.func k5) #[] #[]] 94)) (w.heap.size + 1 + 1) 5 _ 94 (0, 0) hr3
  have f5 : (w4.alloc (.cells #[.func (.func k0) #[] #[], .func (.func k1) #[] #[], .func (.func k2) #[] y, .func (.func k3) #[] #[], .func (.func k4) #[] #[], .func (.func k5) #[] #[]] 94)).frozen? ⟨w.heap.size + 1 + 1, 5, none⟩ = false := unfrozen hr3 5
  clear hr3 hb4 hb5 g0 g1 j0 j1 j2 j3 bl1 z1 hx3 HT3 hC hP ho
  go_wp2_with fail
  refine bodyPost_ret (v := .tuple #[.agg #[.func (.func k0) #[] #[], .func (.func k1) #[] #[], .func (.func k2) #[] y, .func (.func k3) #[] #[], .func (.func k4) #[] #[], .func (.func k5) #[] #[]], .int .i64 0]) (by simp [results, Tryz.results37, go_sem, r0, r1, r2, r3, r4, r5]) rfl ?_
  refine ⟨((((((H3.out.setCell (by simp; omega) _).setCell (by simp; omega) _).setCell (by simp; omega) _).setCell (by simp; omega) _).setCell (by simp; omega) _).setCell (by simp; omega) _), k0, k1, k2, k3, k4, k5, y, rfl, HPR.out, Cap.low ?_ (B := w.heap.size + 1 + 1 + 1) (by omega)⟩
  exact ((((((HC.out.set (by simp) _).set (by simp) _).set (by simp) _).set (by simp) _).set (by simp) _).set (by simp) _)
/-- What Fold answers. -/
def fdX (p a b : Int) : Int := if 1 ≤ p ∧ p ≤ 5 then (if foldB p a b then foldX p a b else 0) else 0
def fdE (p a b : Int) : Int := if 1 ≤ p ∧ p ≤ 5 then (if foldB p a b then 0 else 8) else 1
set_option maxHeartbeats 1000000 in
theorem fold_any (p a b : Int) (w : World) (ha : bd a) (hb : bd b) :
    Calls Tryz.prog 88 #[.int .i64 p, .int .i64 a, .int .i64 b] w fun e w' => e = .returned (.tuple #[.int .i64 (fdX p a b), .int .i64 (fdE p a b)]) ∧ Below w.heap.size w w' := by
  by_cases hp : 1 ≤ p ∧ p ≤ 5
  · by_cases hf : foldB p a b = true
    · have HR := Lib.hid (show fdX p a b = foldX p a b ∧ fdE p a b = 0 by unfold fdX fdE; rw [if_pos hp, if_pos hf, if_pos hp, if_pos hf]; exact ⟨rfl, rfl⟩)
      have HP := Lib.hid hp
      have HF := Lib.hid hf
      clear hf hp
      go_enter Tryz.func88, Tryz.ntmps88
      go_wp2_with fail
      refine (of_yes p _ HP.out.1 HP.out.2).mono ?_
      rintro e w1 ⟨hb1, k0, k1, k2, k3, k4, k5, y, rfl, hP, hC⟩
      have HPR := Lib.hid hP
      have hc1 := hP.c1
      have H2 := Lib.hid (hb1.trans ((below_alloc w1 (.cells #[.func (.func k0) #[] #[], .func (.func k1) #[] #[], .func (.func k2) #[] y, .func (.func k3) #[] #[], .func (.func k4) #[] #[], .func (.func k5) #[] #[]] 94)).mono hb1.size))
      clear hP hC hb1
      go_wp2_with fail
      refine (HPR.out.fold a b _ ha hb).mono ?_
      rintro e w3 ⟨rfl, rfl⟩
      rw [HF.out]
      go_wp2_with fail
      go_ret2
      exact ⟨ret_ii HR.out.1.symm HR.out.2.symm, H2.out⟩
    · have hf' : foldB p a b = false := by simpa using hf
      have HR := Lib.hid (show fdX p a b = 0 ∧ fdE p a b = 8 by unfold fdX fdE; rw [if_pos hp, if_neg hf, if_pos hp, if_neg hf]; exact ⟨rfl, rfl⟩)
      have HP := Lib.hid hp
      have HF := Lib.hid hf'
      clear hf hp hf'
      go_enter Tryz.func88, Tryz.ntmps88
      go_wp2_with fail
      refine (of_yes p _ HP.out.1 HP.out.2).mono ?_
      rintro e w1 ⟨hb1, k0, k1, k2, k3, k4, k5, y, rfl, hP, hC⟩
      have HPR := Lib.hid hP
      have hc1 := hP.c1
      have H2 := Lib.hid (hb1.trans ((below_alloc w1 (.cells #[.func (.func k0) #[] #[], .func (.func k1) #[] #[], .func (.func k2) #[] y, .func (.func k3) #[] #[], .func (.func k4) #[] #[], .func (.func k5) #[] #[]] 94)).mono hb1.size))
      clear hP hC hb1
      go_wp2_with fail
      refine (HPR.out.fold a b _ ha hb).mono ?_
      rintro e w3 ⟨rfl, rfl⟩
      rw [HF.out]
      go_wp2_with fail
      go_ret2
      exact ⟨ret_ii HR.out.1.symm HR.out.2.symm, H2.out⟩
  · have HR := Lib.hid (show fdX p a b = 0 ∧ fdE p a b = 1 by unfold fdX fdE; rw [if_neg hp, if_neg hp]; exact ⟨rfl, rfl⟩)
    have HP := Lib.hid (show p < 1 ∨ 5 < p by omega)
    clear hp
    go_enter Tryz.func88, Tryz.ntmps88
    go_wp2_with fail
    refine (of_no p _ HP.out).mono ?_
    rintro e w1 ⟨rfl, hb1⟩
    have H2 := Lib.hid (hb1.trans ((below_alloc w1 (.cells #[.nilFunc, .nilFunc, .nilFunc, .nilFunc, .nilFunc, .nilFunc] 94)).mono hb1.size))
    clear hb1
    go_wp2_with fail
    go_ret2
    exact ⟨ret_ii HR.out.1.symm HR.out.2.symm, H2.out⟩
end Go.Proofs.YtpgdddjjjfkneaaGreatDoor

/-
  The contract of messages: what goes along the edges, in their order, or that one is too great. No condition but that the numbers are of 62 bits.
-/
namespace Go.Proofs.YtpgdddjjjfkneaaGreatDoor
open Go.ChangeShapes Go.WideShapes Go.ChangeAt Go.RowKit
set_option linter.unusedVariables false

theorem mc_length (ms : List Ms) : (mc ms).length = ms.length * 2 := by
  unfold mc
  induction ms with
  | nil => rfl
  | cons e r ih => simp only [List.flatMap_cons, List.length_append, ih, List.length_cons, List.length_nil]; omega
theorem mc_append (a b : List Ms) : mc (a ++ b) = mc a ++ mc b := by unfold mc; simp
theorem mc_one (ms : List Ms) : ∀ u ∈ mc ms, u.oneCell' = true := by
  intro u hu
  unfold mc at hu
  obtain ⟨e, _, he⟩ := List.mem_flatMap.1 hu
  simp at he
  rcases he with rfl | rfl <;> rfl
theorem mc_at (ms : List Ms) (k : Nat) (h : k < ms.length) : (mc ms)[k * 2]? = some (.int .i64 (mAt ms k).1) ∧ (mc ms)[k * 2 + 1]? = some (.int .i64 (mAt ms k).2) := by
  induction ms generalizing k with
  | nil => simp at h
  | cons e r ih =>
    cases k with
    | zero => simp [mc, mAt]
    | succ k =>
      have := ih k (by simpa using h)
      have e1 : (k + 1) * 2 = k * 2 + 2 := by omega
      have e2 : k * 2 + 2 + 1 = k * 2 + 1 + 2 := by omega
      rw [e1, e2]
      exact this
theorem Lies.ms_len {w : World} {B : Nat} {A : Option Addr} {n : Nat} {ms : List Ms} (h : Lies w B 2 A n (mc ms)) : ms.length = n := by
  have := h.1
  rw [mc_length] at this
  omega
/-- The cells of a message. -/
theorem Lies.ms {w : World} {B : Nat} {A : Option Addr} {n : Nat} {ms : List Ms} (h : Lies w B 2 A n (mc ms)) (k : Nat) (hk : k < n) :
    ∃ ad, A = some ad ∧ ad.block < B ∧ w.cell? (ad.add (k * 2)) = some (.int .i64 (mAt ms k).1) ∧ w.cell? ⟨(ad.add (k * 2)).block, (ad.add (k * 2)).off + 1, none⟩ = some (.int .i64 (mAt ms k).2) := by
  have hl := h.ms_len
  obtain ⟨a0, a1⟩ := mc_at ms k (by omega)
  obtain ⟨ad, e, hb, c0⟩ := h.2 _ _ a0
  obtain ⟨ad1, e1, _, c1⟩ := h.2 _ _ a1
  rw [e] at e1
  injection e1 with e1
  subst e1
  rw [← add_add] at c1
  exact ⟨ad, e, hb, c0, c1⟩
theorem msgL_take (p now m : Int) (es : List Ed) (k : Nat) (h : k < es.length) : msgL p now m (es.take (k + 1)) = msgL p now m (es.take k) ++ [((eAt es k).2.1, alX p now (eAt es k) m)] := by
  unfold msgL
  rw [List.take_succ_eq_append_getElem h, List.map_append, eAt_get es k h]; rfl
theorem msgL_len (p now m : Int) (es : List Ed) : (msgL p now m es).length = es.length := by unfold msgL; simp
theorem msgB_take (p now m : Int) (es : List Ed) (k : Nat) (h : k < es.length) : msgB p now m (es.take (k + 1)) = (msgB p now m (es.take k) && alB p now (eAt es k) m) := by
  unfold msgB
  rw [List.take_succ_eq_append_getElem h, List.all_append, eAt_get es k h]; simp
theorem msgB_no (p now m : Int) (es : List Ed) (k : Nat) (h : k < es.length) (hf : alB p now (eAt es k) m = false) : msgB p now m es = false := by
  unfold msgB
  rw [List.all_eq_false]
  exact ⟨es[k], List.getElem_mem h, by rw [← eAt_get es k h]; simpa using hf⟩
def MsRel (p now m : Int) (es : List Ed) (cs : Array Value) (w : World) (out i : Value) (W : World) : Prop :=
  ∃ (k : Nat) (A : Option Addr) (c : Nat), i = .int .i64 k ∧ k ≤ es.length ∧ out = .slice A k c ∧ W.ownsRow (w.heap.size + 1) 118 2 (.slice A k c) k (mc (msgL p now m (es.take k))) ∧
    Below (w.heap.size + 1) (w.alloc (.cells cs 94)) W ∧ msgB p now m (es.take k) = true
/-- What messages answers: the messages, or none and false. -/
def msL (p now m : Int) (es : List Ed) : List Ms := if msgB p now m es then msgL p now m es else []
def MsPost (l : List Ms) (b : Bool) (w : World) (r : Ending) (w' : World) : Prop :=
  Below w.heap.size w w' ∧ ∃ A c, r = .returned (.tuple #[.slice A l.length c, .bool b]) ∧ w'.ownsRow w.heap.size 118 2 (.slice A l.length c) l.length (mc l)
set_option maxHeartbeats 1000000 in
theorem messages_any (p : Int) (k0 k1 k2 k3 k4 k5 : Nat) (y : Array Value) (hP : Prg p k0 k1 k2 k3 k4 k5 y) (now : Int) (A : Option Addr) (n c : Nat) (es : List Ed) (w : World)
    (hA : Lies w w.heap.size 3 A n (ec es)) (hnc : n ≤ c) (hn : n ≤ 80) (hnow : bd now) (hW : ∀ e ∈ es, bd e.2.2) :
    Calls Tryz.prog 103 #[.agg #[.func (.func k0) #[] #[], .func (.func k1) #[] #[], .func (.func k2) #[] y, .func (.func k3) #[] #[], .func (.func k4) #[] #[], .func (.func k5) #[] #[]], .int .i64 now, .slice A n c] w
      (MsPost (msL p now n es) (msgB p now n es) w) := by
  obtain rfl := hA.ed_len
  obtain ⟨cs, hcs⟩ : ∃ cs : Array Value, cs = #[.func (.func k0) #[] #[], .func (.func k1) #[] #[], .func (.func k2) #[] y, .func (.func k3) #[] #[], .func (.func k4) #[] #[], .func (.func k5) #[] #[]] := ⟨_, rfl⟩
  have HCS := Lib.hid hcs
  have HPR := Lib.hid hP
  have hc4 := hP.c4
  have HW := Lib.hid hW
  have HM := Lib.hid (show bd (es.length : Int) from ⟨by omega, by omega⟩)
  clear hP hW
  obtain ⟨i0, hi0, hz0, hzs, hzb⟩ := info_parts (show (Tryz.prog.info? 118).map (fun i => (i.zero, i.size, i.bytes)) = some (some (.agg #[.int .i64 0, .int .i64 0]), 2, 16) by kernel_rfl)
  have HI0 := Lib.hid hi0
  have HZ0 := Lib.hid hz0
  have HZS := Lib.hid hzs
  have HZB := Lib.hid hzb
  clear hi0 hz0 hzs hzb
  go_enter Tryz.func103, Tryz.ntmps103
  go_wp2_with fail
  rw [← HCS.out]
  clear hcs
  go_loopw [8, 15] (fun o i W => MsRel p now es.length es cs w o i W) (fun o i W => es.length - (intOf i).toNat)
  case atStart => exact ⟨0, none, 0, rfl, Nat.zero_le _, rfl, World.ownsRow_nil _ _ _ _, Below.refl _ _, rfl⟩
  case round =>
    obtain ⟨k, A1, c1, rfl, hk, rfl, hown, hbb, hok⟩ := hrel
    have HOWN := Lib.hid hown
    have HOK := Lib.hid hok
    clear hown hok
    have hb : Below w.heap.size w wr := (below_alloc _ _).trans (hbb.mono (by omega))
    have hz : w.heap.size + 1 ≤ wr.heap.size := by have := hbb.size; simpa using this
    have hAr := hA.below hb
    by_cases hlt : k < es.length
    · obtain ⟨ad, rfl, hadb, e0, e1, e2⟩ := hAr.ed k hlt
      have q4 : ∀ o, (wr.alloc o).cell? ⟨w.heap.size, 4, none⟩ = some (.func (.func k4) #[] #[]) := fun o => (World.cell?_alloc_lt wr o _ (by show w.heap.size < _; omega)).trans ((hbb.cell (p := ⟨w.heap.size, 4, none⟩) (by simp)).trans (by rw [HCS.out]; simp [go_sem]))
      obtain ⟨o, ho⟩ : ∃ o : Obj, o = .cells #[.int .i64 (eAt es k).1, .int .i64 (eAt es k).2.1, .int .i64 (eAt es k).2.2] 80 := ⟨_, rfl⟩
      have hbo := below_alloc wr o
      have HX := Lib.hid (show bd (eAt es k).2.2 from HW.out _ (by rw [eAt_get es k hlt]; exact List.getElem_mem hlt))
      have hbbo := hbb.alloc hz o
      have HO1 := Lib.hid (own_next HOWN.out hbo)
      have t1 : (wr.alloc o).cell? ⟨wr.heap.size, 1, none⟩ = some (.int .i64 (eAt es k).2.1) := by rw [ho]; simp [go_sem]
      have hzo : wr.heap.size < (wr.alloc o).heap.size := by simp
      have HT1 := Lib.hid t1
      have HBO := Lib.hid hbbo
      rw [ho] at HT1 HBO HO1 hzo
      clear ho hbo t1 hbbo
      by_cases hf : alB p now (eAt es k) es.length = true
      · have HF := Lib.hid hf
        have HL := Lib.hid (msgL_take p now es.length es k hlt)
        have HB := Lib.hid (show msgB p now es.length (es.take (k + 1)) = true by rw [msgB_take p now _ es k hlt, HOK.out, hf]; rfl)
        clear hf
        go_wp2_with fail
        refine (HPR.out.along now (eAt es k) es.length _ hnow HX.out HM.out).mono ?_
        rintro e w2 ⟨rfl, hb2⟩
        rw [HF.out]
        have t1 := (hb2.cell (p := ⟨wr.heap.size, 1, none⟩) hzo).trans HT1.out
        have hbb2 := HBO.out.trans (hb2.mono (Nat.le_trans hz (Nat.le_of_lt hzo)))
        have HO2 := Lib.hid (own_next HO1.out hb2)
        have hz2 : w.heap.size + 1 ≤ w2.heap.size := Nat.le_trans (Nat.le_trans hz (Nat.le_of_lt hzo)) hb2.size
        clear hb2 HO1 HT1 HBO hbb e0 e1 e2 hAr hb
        obtain ⟨x, hx⟩ : ∃ x : Int, x = alX p now (eAt es k) es.length := ⟨_, rfl⟩
        rw [← hx] at HL ⊢
        clear hx
        have hl3 : Lies (w2.alloc (.cells #[.int .i64 (eAt es k).2.1, .int .i64 x] 118)) (w2.heap.size + 1) 2 (some ⟨w2.heap.size, 0, none⟩) 1 (mc [((eAt es k).2.1, x)]) := by
          refine ⟨rfl, fun j u hj => ⟨_, rfl, Nat.lt_succ_self _, ?_⟩⟩
          have : (⟨w2.heap.size, 0, none⟩ : Addr).add j = ⟨w2.heap.size, j, none⟩ := by unfold Addr.add; split <;> simp_all
          rw [this, cell_of_row _ _ j _ 118 (0, 0) (heap_alloc_new _ _)]
          simpa [mc] using hj
        have HL3 := Lib.hid hl3
        have HO3 := Lib.hid (own_next HO2.out (below_alloc w2 (.cells #[.int .i64 (eAt es k).2.1, .int .i64 x] 118)))
        have HB3 := Lib.hid (hbb2.alloc hz2 (.cells #[.int .i64 (eAt es k).2.1, .int .i64 x] 118))
        clear hl3 hbb2 HO2
        go_wp2_with (at_builtin; go_must (refine wpList_app _ rfl (.tmp 31) (.tmp 36) 37 rfl (w.heap.size + 1) 118 i0 _ 2 16 Tryz.underlying37 HI0.out HZ0.out HZS.out HZB.out rfl (by decide) A1 k c1 _ rfl HO3.out _ _ 1 1 (mc [((eAt es k).2.1, x)]) (by simp [Act.eval]) HL3.out (mc_one _) (k + 1) (mc (msgL p now es.length (es.take (k + 1)))) rfl (by rw [HL.out, mc_append]) (by unfold maxLen; omega) (by omega) (by simp; omega) ?_))
        intro A4 c4 w4 ho4 hb4
        have HO4 := Lib.hid ho4
        have HB4 := Lib.hid (HB3.out.trans hb4)
        clear ho4 hb4
        go_wp2_with fail
        go_roundw
        case rel => exact ⟨k + 1, A4, c4, by go_num, by omega, rfl, HO4.out, HB4.out, HB.out⟩
        case measure => simp [intOf]; omega
      · have hf' : alB p now (eAt es k) es.length = false := by simpa using hf
        have HF := Lib.hid hf'
        have HB := Lib.hid (msgB_no p now es.length es k hlt hf')
        clear hf hf'
        go_wp2_with fail
        refine (HPR.out.along now (eAt es k) es.length _ hnow HX.out HM.out).mono ?_
        rintro e w2 ⟨rfl, hb2⟩
        rw [HF.out]
        have HB2 := Lib.hid (HBO.out.trans (hb2.mono (Nat.le_trans hz (Nat.le_of_lt hzo))))
        clear hb2
        go_wp2_with fail
        refine bodyPost_ret (v := .tuple #[.slice none 0 0, .bool false]) (by simp [results, Tryz.results103, go_sem]) rfl ?_
        have e1 : msL p now es.length es = [] := by unfold msL; rw [HB.out]; rfl
        rw [e1, HB.out]
        exact ⟨(below_alloc _ _).trans (HB2.out.mono (by omega)), none, 0, rfl, World.ownsRow_nil _ _ _ _⟩
    · have hk' : k = es.length := by omega
      subst hk'
      have HT := Lib.hid (show es.take es.length = es from List.take_of_length_le (Nat.le_refl _))
      go_wp2_with fail
      refine bodyPost_ret (v := .tuple #[.slice A1 es.length c1, .bool true]) (by simp [results, Tryz.results103, go_sem]) rfl ?_
      have ok := HOK.out
      rw [HT.out] at ok
      have e1 : msL p now es.length es = msgL p now es.length es := by unfold msL; rw [ok]; rfl
      have own := HOWN.out
      rw [HT.out] at own
      have hlen := msgL_len p now es.length es
      rw [e1, ok]
      refine ⟨hb, A1, c1, by rw [hlen], ?_⟩
      rw [hlen]
      exact own.lower (by omega)
end Go.Proofs.YtpgdddjjjfkneaaGreatDoor


