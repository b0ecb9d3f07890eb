/-
  Contracts of programFor, Start and Fold. No condition.
-/
import Derived.Test.YtkmflofokgkekaaProC
namespace Go.Proofs.Ytkmflofokgkekaa
open Go.ChangeShapes Go.WideShapes Go.ChangeAt Go.RowKit
set_option linter.unusedVariables false

theorem unfrozen {W : World} {b : Nat} {cs : Array Value} {T : TypeId} (h : W.heap[b]? = some (.cells cs T (0, 0))) (i : Nat) : W.frozen? ⟨b, i, none⟩ = false := by simp [World.frozen?, h]

theorem ret_ii {a b c d : Int} (h : a = b) (g : c = d) : Ending.returned (.tuple #[.int .i64 a, .int .i64 c]) = .returned (.tuple #[.int .i64 b, .int .i64 d]) := by rw [h, g]

/-- What Start and Turn tell first. -/
def vchk (N : Int) (es : List Ed) (p s l q v : Int) : Int := if jchk N es p s l q = 0 then (if 0 ≤ v ∧ v < N then 0 else 4) else jchk N es p s l q

theorem vchk_zero {N : Int} {es : List Ed} {p s l q v : Int} (h : vchk N es p s l q v = 0) : jchk N es p s l q = 0 ∧ 0 ≤ v ∧ v < N := by
  unfold vchk at h
  by_cases hj : jchk N es p s l q = 0
  · rw [if_pos hj] at h
    by_cases hv : 0 ≤ v ∧ v < N
    · exact ⟨hj, hv⟩
    · rw [if_neg hv] at h; cases h
  · rw [if_neg hj] at h; exact absurd h hj

/-- The block that the first three boxes leave for the answer. -/
theorem third (w : World) (N : Int) (A : Option Addr) (n c : Nat) (p s l q : Int) (o : Obj) (W : World)
    (hb : Below (((w.alloc (.cells #[.int .i64 N, .slice A n c] 24)).alloc (.cells #[.int .i64 p, .int .i64 s, .int .i64 l, .int .i64 q] 26)).alloc o).heap.size (((w.alloc (.cells #[.int .i64 N, .slice A n c] 24)).alloc (.cells #[.int .i64 p, .int .i64 s, .int .i64 l, .int .i64 q] 26)).alloc o) W) :
    W.heap[w.heap.size + 1 + 1]? = some o ∧ w.heap.size + 1 + 1 < W.heap.size := by
  have e : ((w.alloc (.cells #[.int .i64 N, .slice A n c] 24)).alloc (.cells #[.int .i64 p, .int .i64 s, .int .i64 l, .int .i64 q] 26)).heap.size = w.heap.size + 1 + 1 := by simp
  have hl : w.heap.size + 1 + 1 < (((w.alloc (.cells #[.int .i64 N, .slice A n c] 24)).alloc (.cells #[.int .i64 p, .int .i64 s, .int .i64 l, .int .i64 q] 26)).alloc o).heap.size := by simp
  refine ⟨(hb.block _ hl).trans ?_, Nat.lt_of_lt_of_le hl hb.size⟩
  rw [← e]
  exact heap_alloc_new _ _

set_option maxHeartbeats 1000000 in
theorem for_no (N : Int) (A : Option Addr) (n c : Nat) (es : List Ed) (p s l q v : Int) (w : World) (hA : Lies w w.heap.size 3 A n (ec es)) (hnc : n ≤ c) (hn : n ≤ maxLen) (hv : ¬ vchk N es p s l q v = 0) :
    Calls Try.prog 42 #[.agg #[.int .i64 N, .slice A n c], .agg #[.int .i64 p, .int .i64 s, .int .i64 l, .int .i64 q], .int .i64 v] w fun e w' =>
      e = .returned (.tuple #[.agg #[.nilFunc, .nilFunc, .nilFunc, .nilFunc, .nilFunc, .nilFunc], .int .i64 (vchk N es p s l q v)]) ∧ Below w.heap.size w w' := by
  have hbx := (Bx.init w N A n c p s l q).alloc (.cells #[.nilFunc, .nilFunc, .nilFunc, .nilFunc, .nilFunc, .nilFunc] 78)
  have hA1 := hA.next hbx.bl
  have HBX := Lib.hid hbx
  clear hbx
  by_cases hj : jchk N es p s l q = 0
  · have h4 : ¬ (0 ≤ v ∧ v < N) := by
      intro h
      apply hv
      unfold vchk
      rw [if_pos hj, if_pos h]
    have HR := Lib.hid (show vchk N es p s l q v = 4 by unfold vchk; rw [if_pos hj, if_neg h4])
    have HV := Lib.hid (show false = decide (0 ≤ v ∧ v < N) by simpa using h4)
    have HJ := Lib.hid hj
    clear hj h4 hv
    go_enter Try.func42, Try.ntmps42
    go_wp2_with fail
    refine (jcheck_any N A n c es p s l q _ hA1 hnc hn).mono ?_
    rintro e w1 ⟨rfl, hb1⟩
    rw [HJ.out]
    have hx1 := HBX.out.next hb1
    have HT := Lib.hid (third w N A n c p s l q _ w1 hb1)
    obtain ⟨z1, g0, g1, j0, j1, j2, j3, bl1⟩ := id hx1
    clear hb1 hA1 HBX
    go_wp2_with fail
    refine (isV_any N A n c v _ false HV.out).mono ?_
    rintro e w3 ⟨rfl, hb3⟩
    have H3 := Lib.hid (hx1.next hb3).bl
    have hr3 := (hb3.block _ HT.out.2).trans HT.out.1
    have r0 : w3.cell? ⟨w.heap.size + 1 + 1, 0, none⟩ = some .nilFunc := cell_of_row w3 (w.heap.size + 1 + 1) 0 _ 78 (0, 0) hr3
    have f0 : w3.frozen? ⟨w.heap.size + 1 + 1, 0, none⟩ = false := unfrozen hr3 0
    have r1 : w3.cell? ⟨w.heap.size + 1 + 1, 1, none⟩ = some .nilFunc := cell_of_row w3 (w.heap.size + 1 + 1) 1 _ 78 (0, 0) hr3
    have f1 : w3.frozen? ⟨w.heap.size + 1 + 1, 1, none⟩ = false := unfrozen hr3 1
    have r2 : w3.cell? ⟨w.heap.size + 1 + 1, 2, none⟩ = some .nilFunc := cell_of_row w3 (w.heap.size + 1 + 1) 2 _ 78 (0, 0) hr3
    have f2 : w3.frozen? ⟨w.heap.size + 1 + 1, 2, none⟩ = false := unfrozen hr3 2
    have r3 : w3.cell? ⟨w.heap.size + 1 + 1, 3, none⟩ = some .nilFunc := cell_of_row w3 (w.heap.size + 1 + 1) 3 _ 78 (0, 0) hr3
    have f3 : w3.frozen? ⟨w.heap.size + 1 + 1, 3, none⟩ = false := unfrozen hr3 3
    have r4 : w3.cell? ⟨w.heap.size + 1 + 1, 4, none⟩ = some .nilFunc := cell_of_row w3 (w.heap.size + 1 + 1) 4 _ 78 (0, 0) hr3
    have f4 : w3.frozen? ⟨w.heap.size + 1 + 1, 4, none⟩ = false := unfrozen hr3 4
    have r5 : w3.cell? ⟨w.heap.size + 1 + 1, 5, none⟩ = some .nilFunc := cell_of_row w3 (w.heap.size + 1 + 1) 5 _ 78 (0, 0) hr3
    have f5 : w3.frozen? ⟨w.heap.size + 1 + 1, 5, none⟩ = false := unfrozen hr3 5
    clear hr3 hb3 g0 g1 j0 j1 j2 j3 bl1 z1 hx1 HT
    go_wp2_with fail
    refine bodyPost_ret (v := .tuple #[.agg #[.nilFunc, .nilFunc, .nilFunc, .nilFunc, .nilFunc, .nilFunc], .int .i64 4]) (by simp [results, Try.results42, go_sem, r0, r1, r2, r3, r4, r5]) rfl ?_
    exact ⟨by rw [HR.out], ((((((H3.out.setCell (by simp; omega) _).setCell (by simp; omega) _).setCell (by simp; omega) _).setCell (by simp; omega) _).setCell (by simp; omega) _).setCell (by simp; omega) _)⟩
  · have HR := Lib.hid (show vchk N es p s l q v = jchk N es p s l q by unfold vchk; rw [if_neg hj])
    have h1 : (jchk N es p s l q != 0) = true := by simpa using hj
    clear hj hv
    go_enter Try.func42, Try.ntmps42
    go_wp2_with fail
    refine (jcheck_any N A n c es p s l q _ hA1 hnc hn).mono ?_
    rintro e w3 ⟨rfl, hb1⟩
    have H3 := Lib.hid (HBX.out.next hb1).bl
    have hr3 := (third w N A n c p s l q _ w3 hb1).1
    have r0 : w3.cell? ⟨w.heap.size + 1 + 1, 0, none⟩ = some .nilFunc := cell_of_row w3 (w.heap.size + 1 + 1) 0 _ 78 (0, 0) hr3
    have f0 : w3.frozen? ⟨w.heap.size + 1 + 1, 0, none⟩ = false := unfrozen hr3 0
    have r1 : w3.cell? ⟨w.heap.size + 1 + 1, 1, none⟩ = some .nilFunc := cell_of_row w3 (w.heap.size + 1 + 1) 1 _ 78 (0, 0) hr3
    have f1 : w3.frozen? ⟨w.heap.size + 1 + 1, 1, none⟩ = false := unfrozen hr3 1
    have r2 : w3.cell? ⟨w.heap.size + 1 + 1, 2, none⟩ = some .nilFunc := cell_of_row w3 (w.heap.size + 1 + 1) 2 _ 78 (0, 0) hr3
    have f2 : w3.frozen? ⟨w.heap.size + 1 + 1, 2, none⟩ = false := unfrozen hr3 2
    have r3 : w3.cell? ⟨w.heap.size + 1 + 1, 3, none⟩ = some .nilFunc := cell_of_row w3 (w.heap.size + 1 + 1) 3 _ 78 (0, 0) hr3
    have f3 : w3.frozen? ⟨w.heap.size + 1 + 1, 3, none⟩ = false := unfrozen hr3 3
    have r4 : w3.cell? ⟨w.heap.size + 1 + 1, 4, none⟩ = some .nilFunc := cell_of_row w3 (w.heap.size + 1 + 1) 4 _ 78 (0, 0) hr3
    have f4 : w3.frozen? ⟨w.heap.size + 1 + 1, 4, none⟩ = false := unfrozen hr3 4
    have r5 : w3.cell? ⟨w.heap.size + 1 + 1, 5, none⟩ = some .nilFunc := cell_of_row w3 (w.heap.size + 1 + 1) 5 _ 78 (0, 0) hr3
    have f5 : w3.frozen? ⟨w.heap.size + 1 + 1, 5, none⟩ = false := unfrozen hr3 5
    clear hr3 hb1 hA1 HBX
    go_wp2_with fail
    refine bodyPost_ret (v := .tuple #[.agg #[.nilFunc, .nilFunc, .nilFunc, .nilFunc, .nilFunc, .nilFunc], .int .i64 (jchk N es p s l q)]) (by simp [results, Try.results42, go_sem, r0, r1, r2, r3, r4, r5]) rfl ?_
    exact ⟨by rw [HR.out], ((((((H3.out.setCell (by simp; omega) _).setCell (by simp; omega) _).setCell (by simp; omega) _).setCell (by simp; omega) _).setCell (by simp; omega) _).setCell (by simp; omega) _)⟩

/-- What programFor answers for a job that is right and a vertex. -/
def ForPost (p : Int) (w : World) (e : Ending) (w' : World) : Prop :=
  Below w.heap.size w w' ∧ ∃ k0 k1 k2 k3 k4 k5 y, e = .returned (.tuple #[.agg #[.func (.func k0) #[] #[], .func (.func k1) #[] #[], .func (.func k2) #[] y, .func (.func k3) #[] #[], .func (.func k4) #[] #[], .func (.func k5) #[] #[]], .int .i64 0]) ∧
    Prg p k0 k1 k2 k3 k4 k5 y ∧ Cap w.heap.size p y w'

set_option maxHeartbeats 1000000 in
theorem for_ok (N : Int) (A : Option Addr) (n c : Nat) (es : List Ed) (p s l q v : Int) (w : World) (hA : Lies w w.heap.size 3 A n (ec es)) (hnc : n ≤ c) (hn : n ≤ maxLen) (hv : vchk N es p s l q v = 0) :
    Calls Try.prog 42 #[.agg #[.int .i64 N, .slice A n c], .agg #[.int .i64 p, .int .i64 s, .int .i64 l, .int .i64 q], .int .i64 v] w (ForPost p w) := by
  have hbx := (Bx.init w N A n c p s l q).alloc (.cells #[.nilFunc, .nilFunc, .nilFunc, .nilFunc, .nilFunc, .nilFunc] 78)
  have hA1 := hA.next hbx.bl
  have HBX := Lib.hid hbx
  clear hbx
  obtain ⟨hj, hv1⟩ := vchk_zero hv
  have HP := Lib.hid (badJ_not (jchk_zero hj).2).1
  have HV := Lib.hid (show true = decide (0 ≤ v ∧ v < N) by simpa using hv1)
  have HJ := Lib.hid hj
  clear hj hv hv1
  go_enter Try.func42, Try.ntmps42
  go_wp2_with fail
  refine (jcheck_any N A n c es p s l q _ hA1 hnc hn).mono ?_
  rintro e w1 ⟨rfl, hb1⟩
  rw [HJ.out]
  have hx1 := HBX.out.next hb1
  have HT := Lib.hid (third w N A n c p s l q _ w1 hb1)
  obtain ⟨z1, g0, g1, j0, j1, j2, j3, bl1⟩ := id hx1
  clear hb1 hA1 HBX
  go_wp2_with fail
  refine (isV_any N A n c v _ true HV.out).mono ?_
  rintro e w3 ⟨rfl, hb3⟩
  have hx3 := hx1.next hb3
  have HT3 := Lib.hid (show w3.heap[w.heap.size + 1 + 1]? = _ ∧ w.heap.size + 1 + 1 < w3.heap.size from ⟨(hb3.block _ HT.out.2).trans HT.out.1, Nat.lt_of_lt_of_le HT.out.2 hb3.size⟩)
  clear hb3 g0 g1 j0 j1 j2 j3 bl1 z1 hx1 HT
  obtain ⟨z1, g0, g1, j0, j1, j2, j3, bl1⟩ := id hx3
  go_wp2_with fail
  refine (of_yes p _ HP.out.1 HP.out.2).mono ?_
  rintro e w4 ⟨hb4, k0, k1, k2, k3, k4, k5, y, rfl, hP, hC⟩
  obtain ⟨o, ho⟩ : ∃ o : Obj, o = .cells #[.func (.func k0) #[] #[], .func (.func k1) #[] #[], .func (.func k2) #[] y, .func (.func k3) #[] #[], .func (.func k4) #[] #[], .func (.func k5) #[] #[]] 78 := ⟨_, rfl⟩
  have hb5 := hb4.trans ((below_alloc w4 o).mono hb4.size)
  have H3 := Lib.hid (hx3.next hb5).bl
  have hr3 := (hb5.block _ HT3.out.2).trans HT3.out.1
  have HC := Lib.hid ((hC.next (below_alloc w4 o)).low (B' := w.heap.size + 1 + 1 + 1) HT3.out.2)
  have HPR := Lib.hid hP
  rw [ho] at hr3 H3 HC
  have r0 : (w4.alloc (.cells #[.func (.func k0) #[] #[], .func (.func k1) #[] #[], .func (.func k2) #[] y, .func (.func k3) #[] #[], .func (.func k4) #[] #[], .func (.func k5) #[] #[]] 78)).cell? ⟨w.heap.size + 1 + 1, 0, none⟩ = some .nilFunc := cell_of_row (w4.alloc (.cells #[.func (.func k0) #[] #[], .func (.func k1) #[] #[], .func (.func k2) #[] y, .func (.func k3) #[] #[], .func (.func k4) #[] #[], .func (.func k5) #[] #[]] 78)) (w.heap.size + 1 + 1) 0 _ 78 (0, 0) hr3
  have f0 : (w4.alloc (.cells #[.func (.func k0) #[] #[], .func (.func k1) #[] #[], .func (.func k2) #[] y, .func (.func k3) #[] #[], .func (.func k4) #[] #[], .func (.func k5) #[] #[]] 78)).frozen? ⟨w.heap.size + 1 + 1, 0, none⟩ = false := unfrozen hr3 0
  have r1 : (w4.alloc (.cells #[.func (.func k0) #[] #[], .func (.func k1) #[] #[], .func (.func k2) #[] y, .func (.func k3) #[] #[], .func (.func k4) #[] #[], .func (.func k5) #[] #[]] 78)).cell? ⟨w.heap.size + 1 + 1, 1, none⟩ = some .nilFunc := cell_of_row (w4.alloc (.cells #[.func (.func k0) #[] #[], .func (.func k1) #[] #[], .func (.func k2) #[] y, .func (.func k3) #[] #[], .func (.func k4) #[] #[], .func (.func k5) #[] #[]] 78)) (w.heap.size + 1 + 1) 1 _ 78 (0, 0) hr3
  have f1 : (w4.alloc (.cells #[.func (.func k0) #[] #[], .func (.func k1) #[] #[], .func (.func k2) #[] y, .func (.func k3) #[] #[], .func (.func k4) #[] #[], .func (.func k5) #[] #[]] 78)).frozen? ⟨w.heap.size + 1 + 1, 1, none⟩ = false := unfrozen hr3 1
  have r2 : (w4.alloc (.cells #[.func (.func k0) #[] #[], .func (.func k1) #[] #[], .func (.func k2) #[] y, .func (.func k3) #[] #[], .func (.func k4) #[] #[], .func (.func k5) #[] #[]] 78)).cell? ⟨w.heap.size + 1 + 1, 2, none⟩ = some .nilFunc := cell_of_row (w4.alloc (.cells #[.func (.func k0) #[] #[], .func (.func k1) #[] #[], .func (.func k2) #[] y, .func (.func k3) #[] #[], .func (.func k4) #[] #[], .func (.func k5) #[] #[]] 78)) (w.heap.size + 1 + 1) 2 _ 78 (0, 0) hr3
  have f2 : (w4.alloc (.cells #[.func (.func k0) #[] #[], .func (.func k1) #[] #[], .func (.func k2) #[] y, .func (.func k3) #[] #[], .func (.func k4) #[] #[], .func (.func k5) #[] #[]] 78)).frozen? ⟨w.heap.size + 1 + 1, 2, none⟩ = false := unfrozen hr3 2
  have r3 : (w4.alloc (.cells #[.func (.func k0) #[] #[], .func (.func k1) #[] #[], .func (.func k2) #[] y, .func (.func k3) #[] #[], .func (.func k4) #[] #[], .func (.func k5) #[] #[]] 78)).cell? ⟨w.heap.size + 1 + 1, 3, none⟩ = some .nilFunc := cell_of_row (w4.alloc (.cells #[.func (.func k0) #[] #[], .func (.func k1) #[] #[], .func (.func k2) #[] y, .func (.func k3) #[] #[], .func (.func k4) #[] #[], .func (.func k5) #[] #[]] 78)) (w.heap.size + 1 + 1) 3 _ 78 (0, 0) hr3
  have f3 : (w4.alloc (.cells #[.func (.func k0) #[] #[], .func (.func k1) #[] #[], .func (.func k2) #[] y, .func (.func k3) #[] #[], .func (.func k4) #[] #[], .func (.func k5) #[] #[]] 78)).frozen? ⟨w.heap.size + 1 + 1, 3, none⟩ = false := unfrozen hr3 3
  have r4 : (w4.alloc (.cells #[.func (.func k0) #[] #[], .func (.func k1) #[] #[], .func (.func k2) #[] y, .func (.func k3) #[] #[], .func (.func k4) #[] #[], .func (.func k5) #[] #[]] 78)).cell? ⟨w.heap.size + 1 + 1, 4, none⟩ = some .nilFunc := cell_of_row (w4.alloc (.cells #[.func (.func k0) #[] #[], .func (.func k1) #[] #[], .func (.func k2) #[] y, .func (.func k3) #[] #[], .func (.func k4) #[] #[], .func (.func k5) #[] #[]] 78)) (w.heap.size + 1 + 1) 4 _ 78 (0, 0) hr3
  have f4 : (w4.alloc (.cells #[.func (.func k0) #[] #[], .func (.func k1) #[] #[], .func (.func k2) #[] y, .func (.func k3) #[] #[], .func (.func k4) #[] #[], .func (.func k5) #[] #[]] 78)).frozen? ⟨w.heap.size + 1 + 1, 4, none⟩ = false := unfrozen hr3 4
  have r5 : (w4.alloc (.cells #[.func (.func k0) #[] #[], .func (.func k1) #[] #[], .func (.func k2) #[] y, .func (.func k3) #[] #[], .func (.func k4) #[] #[], .func (.func k5) #[] #[]] 78)).cell? ⟨w.heap.size + 1 + 1, 5, none⟩ = some .nilFunc := cell_of_row (w4.alloc (.cells #[.func (.func k0) #[] #[], .func (.func k1) #[] #[], .func (.func k2) #[] y, .func (.func k3) #[] #[], .func (.func k4) #[] #[], .func (.func k5) #[] #[]] 78)) (w.heap.size + 1 + 1) 5 _ 78 (0, 0) hr3
  have f5 : (w4.alloc (.cells #[.func (.func k0) #[] #[], .func (.func k1) #[] #[], .func (.func k2) #[] y, .func (.func k3) #[] #[], .func (.func k4) #[] #[], .func (.func k5) #[] #[]] 78)).frozen? ⟨w.heap.size + 1 + 1, 5, none⟩ = false := unfrozen hr3 5
  clear hr3 hb4 hb5 g0 g1 j0 j1 j2 j3 bl1 z1 hx3 HT3 hC hP ho
  go_wp2_with fail
  refine bodyPost_ret (v := .tuple #[.agg #[.func (.func k0) #[] #[], .func (.func k1) #[] #[], .func (.func k2) #[] y, .func (.func k3) #[] #[], .func (.func k4) #[] #[], .func (.func k5) #[] #[]], .int .i64 0]) (by simp [results, Try.results42, go_sem, r0, r1, r2, r3, r4, r5]) rfl ?_
  refine ⟨((((((H3.out.setCell (by simp; omega) _).setCell (by simp; omega) _).setCell (by simp; omega) _).setCell (by simp; omega) _).setCell (by simp; omega) _).setCell (by simp; omega) _), k0, k1, k2, k3, k4, k5, y, rfl, HPR.out, Cap.low ?_ (B := w.heap.size + 1 + 1 + 1) (by omega)⟩
  exact ((((((HC.out.set (by simp) _).set (by simp) _).set (by simp) _).set (by simp) _).set (by simp) _).set (by simp) _)

/-- The value at the beginning, or what is told. -/
def stV (N : Int) (es : List Ed) (p s l q v : Int) : Int := if vchk N es p s l q v = 0 then startI p s v else 0

set_option maxHeartbeats 1000000 in
theorem start_any (N : Int) (A : Option Addr) (n c : Nat) (es : List Ed) (p s l q v : Int) (w : World) (hA : Lies w w.heap.size 3 A n (ec es)) (hnc : n ≤ c) (hn : n ≤ maxLen) :
    Calls Try.prog 29 #[.agg #[.int .i64 N, .slice A n c], .agg #[.int .i64 p, .int .i64 s, .int .i64 l, .int .i64 q], .int .i64 v] w fun e w' =>
      e = .returned (.tuple #[.int .i64 (stV N es p s l q v), .int .i64 (vchk N es p s l q v)]) ∧ Below w.heap.size w w' := by
  have hbx := Bx.init w N A n c p s l q
  have hA1 := hA.next hbx.bl
  have HBX := Lib.hid hbx
  clear hbx
  by_cases hv : vchk N es p s l q v = 0
  · have HR := Lib.hid (show stV N es p s l q v = startI p s v by unfold stV; rw [if_pos hv])
    have HV := Lib.hid hv
    clear hv
    go_enter Try.func29, Try.ntmps29
    go_wp2_with fail
    refine (for_ok N A n c es p s l q v _ hA1 hnc hn HV.out).mono ?_
    rintro e w1 ⟨hb1, k0, k1, k2, k3, k4, k5, y, rfl, hP, hC⟩
    have hx1 := HBX.out.next hb1
    have hx2 := hx1.alloc (.cells #[.func (.func k0) #[] #[], .func (.func k1) #[] #[], .func (.func k2) #[] y, .func (.func k3) #[] #[], .func (.func k4) #[] #[], .func (.func k5) #[] #[]] 78)
    have HPR := Lib.hid hP
    have hc0 := hP.c0
    have H2 := Lib.hid hx2.bl
    have j1 := hx2.j1
    clear hP hC hb1 hx1 hx2 hA1 HBX
    go_wp2_with fail
    refine (HPR.out.start s v _).mono ?_
    rintro e w3 ⟨rfl, rfl⟩
    go_wp2_with fail
    go_ret2
    exact ⟨ret_ii HR.out.symm HV.out.symm, H2.out⟩
  · have HR := Lib.hid (show stV N es p s l q v = 0 by unfold stV; rw [if_neg hv])
    have hv1 : (vchk N es p s l q v != 0) = true := by simpa using hv
    have HV := Lib.hid hv
    clear hv
    go_enter Try.func29, Try.ntmps29
    go_wp2_with fail
    refine (for_no N A n c es p s l q v _ hA1 hnc hn HV.out).mono ?_
    rintro e w1 ⟨rfl, hb1⟩
    have H2 := Lib.hid ((HBX.out.next hb1).alloc (.cells #[.nilFunc, .nilFunc, .nilFunc, .nilFunc, .nilFunc, .nilFunc] 78)).bl
    clear hb1 hA1 HBX
    go_wp2_with fail
    go_ret2
    exact ⟨ret_ii HR.out.symm rfl, H2.out⟩

/-- What Fold answers. -/
def fdX (p a b : Int) : Int := if 1 ≤ p ∧ p ≤ 5 then (if foldB p a b then foldX p a b else 0) else 0
def fdE (p a b : Int) : Int := if 1 ≤ p ∧ p ≤ 5 then (if foldB p a b then 0 else 8) else 1

set_option maxHeartbeats 1000000 in
theorem fold_any (p a b : Int) (w : World) (ha : bd a) (hb : bd b) :
    Calls Try.prog 78 #[.int .i64 p, .int .i64 a, .int .i64 b] w fun e w' => e = .returned (.tuple #[.int .i64 (fdX p a b), .int .i64 (fdE p a b)]) ∧ Below w.heap.size w w' := by
  by_cases hp : 1 ≤ p ∧ p ≤ 5
  · by_cases hf : foldB p a b = true
    · have HR := Lib.hid (show fdX p a b = foldX p a b ∧ fdE p a b = 0 by unfold fdX fdE; rw [if_pos hp, if_pos hf, if_pos hp, if_pos hf]; exact ⟨rfl, rfl⟩)
      have HP := Lib.hid hp
      have HF := Lib.hid hf
      clear hf hp
      go_enter Try.func78, Try.ntmps78
      go_wp2_with fail
      refine (of_yes p _ HP.out.1 HP.out.2).mono ?_
      rintro e w1 ⟨hb1, k0, k1, k2, k3, k4, k5, y, rfl, hP, hC⟩
      have HPR := Lib.hid hP
      have hc1 := hP.c1
      have H2 := Lib.hid (hb1.trans ((below_alloc w1 (.cells #[.func (.func k0) #[] #[], .func (.func k1) #[] #[], .func (.func k2) #[] y, .func (.func k3) #[] #[], .func (.func k4) #[] #[], .func (.func k5) #[] #[]] 78)).mono hb1.size))
      clear hP hC hb1
      go_wp2_with fail
      refine (HPR.out.fold a b _ ha hb).mono ?_
      rintro e w3 ⟨rfl, rfl⟩
      rw [HF.out]
      go_wp2_with fail
      go_ret2
      exact ⟨ret_ii HR.out.1.symm HR.out.2.symm, H2.out⟩
    · have hf' : foldB p a b = false := by simpa using hf
      have HR := Lib.hid (show fdX p a b = 0 ∧ fdE p a b = 8 by unfold fdX fdE; rw [if_pos hp, if_neg hf, if_pos hp, if_neg hf]; exact ⟨rfl, rfl⟩)
      have HP := Lib.hid hp
      have HF := Lib.hid hf'
      clear hf hp hf'
      go_enter Try.func78, Try.ntmps78
      go_wp2_with fail
      refine (of_yes p _ HP.out.1 HP.out.2).mono ?_
      rintro e w1 ⟨hb1, k0, k1, k2, k3, k4, k5, y, rfl, hP, hC⟩
      have HPR := Lib.hid hP
      have hc1 := hP.c1
      have H2 := Lib.hid (hb1.trans ((below_alloc w1 (.cells #[.func (.func k0) #[] #[], .func (.func k1) #[] #[], .func (.func k2) #[] y, .func (.func k3) #[] #[], .func (.func k4) #[] #[], .func (.func k5) #[] #[]] 78)).mono hb1.size))
      clear hP hC hb1
      go_wp2_with fail
      refine (HPR.out.fold a b _ ha hb).mono ?_
      rintro e w3 ⟨rfl, rfl⟩
      rw [HF.out]
      go_wp2_with fail
      go_ret2
      exact ⟨ret_ii HR.out.1.symm HR.out.2.symm, H2.out⟩
  · have HR := Lib.hid (show fdX p a b = 0 ∧ fdE p a b = 1 by unfold fdX fdE; rw [if_neg hp, if_neg hp]; exact ⟨rfl, rfl⟩)
    have HP := Lib.hid (show p < 1 ∨ 5 < p by omega)
    clear hp
    go_enter Try.func78, Try.ntmps78
    go_wp2_with fail
    refine (of_no p _ HP.out).mono ?_
    rintro e w1 ⟨rfl, hb1⟩
    have H2 := Lib.hid (hb1.trans ((below_alloc w1 (.cells #[.nilFunc, .nilFunc, .nilFunc, .nilFunc, .nilFunc, .nilFunc] 78)).mono hb1.size))
    clear hb1
    go_wp2_with fail
    go_ret2
    exact ⟨ret_ii HR.out.1.symm HR.out.2.symm, H2.out⟩

end Go.Proofs.Ytkmflofokgkekaa
