/-
  The walks of ProgChecks and ProgStarts. No condition.
-/
import Derived.Test.YtielmlcgdolgkaaLawA
namespace Go.Proofs.Ytielmlcgdolgkaa
open Go.ChangeShapes Go.WideShapes Go.ChangeAt Go.RowKit
set_option linter.unusedVariables false

theorem bxS {w : World} {N : Int} {A : Option Addr} {n c : Nat} {p s l q : Int} {W : World} (h : Bx w N A n c p s l q W) : W.cell? ⟨w.heap.size, 0, none⟩ = some (.int .i64 N) ∧ W.cell? ⟨w.heap.size, 1, none⟩ = some (.slice A n c) ∧ W.cell? ⟨w.heap.size + 1, 0, none⟩ = some (.int .i64 p) ∧ W.cell? ⟨w.heap.size + 1, 1, none⟩ = some (.int .i64 s) ∧ W.cell? ⟨w.heap.size + 1, 2, none⟩ = some (.int .i64 l) ∧ W.cell? ⟨w.heap.size + 1, 3, none⟩ = some (.int .i64 q) ∧ Bx w N A n c p s l q W := ⟨h.g0, h.g1, h.j0, h.j1, h.j2, h.j3, h⟩
theorem Bx.drew {w : World} {N : Int} {A : Option Addr} {n c : Nat} {p s l q : Int} {W : World} (h : Bx w N A n c p s l q W) : Bx w N A n c p s l q W.drew := h.next ⟨rfl, rfl, rfl, Nat.le_refl _, fun _ _ => rfl⟩

set_option maxHeartbeats 1000000 in
theorem checks_walk (N : Int) (A : Option Addr) (n c : Nat) (es : List Ed) (p s l q : Int) (w : World) (hA : Lies w w.heap.size 3 A n (ec es)) (hnc : n ≤ c) (hn : n ≤ maxLen) :
    Calls Try.prog 3 #[.agg #[.int .i64 N, .slice A n c], .agg #[.int .i64 p, .int .i64 s, .int .i64 l, .int .i64 q]] w fun e w' => e = .returned (.bool true) ∧ Below w.heap.size w w' := by
  have HBX := Lib.hid (Bx.init w N A n c p s l q)
  by_cases h200 : 200 < n
  · skip
    go_enter Try.func3, Try.ntmps3
    go_wp2_with fail
    refine (great_any N A n c _ true (by simpa using h200)).mono ?_
    rintro e w1 ⟨rfl, hb1⟩
    have B1 := Lib.hid (HBX.out.next hb1).bl
    clear hb1
    go_wp2_with fail
    refine (knows_any _).mono ?_
    rintro e w2 ⟨rfl, hb2⟩
    have B2 := Lib.hid (B1.out.trans (hb2.mono B1.out.size))
    clear hb2
    go_wp2_with fail
    go_ret
    exact ⟨rfl, B2.out⟩
  · have HC := Lib.hid (fun W (h : Bx w N A n c p s l q W) => jcheck_any N A n c es p s l q W (hA.next h.bl) hnc hn)
    have HR := Lib.hid (fun W (h : Bx w N A n c p s l q W) => rjcheck_any N A n c es p s l q W (hA.next h.bl) hnc hn)
    go_enter Try.func3, Try.ntmps3
    go_wp2_with fail
    refine (great_any N A n c _ false (by simpa using h200)).mono ?_
    rintro e w1 ⟨rfl, hb1⟩
    have hx1 := HBX.out.next hb1
    have HX1 := Lib.hid hx1.drew
    clear hb1 hx1 HBX
    generalize jchk N es p s l q = J at *
    go_wp2_with fail
    have q0 := bxS HX1.out
    go_region_held3 (fun w' => w'.cell? ⟨w.heap.size, 0, none⟩ = some (.int .i64 N) ∧ w'.cell? ⟨w.heap.size, 1, none⟩ = some (.slice A n c) ∧ w'.cell? ⟨w.heap.size + 1, 0, none⟩ = some (.int .i64 p) ∧ w'.cell? ⟨w.heap.size + 1, 1, none⟩ = some (.int .i64 s) ∧ w'.cell? ⟨w.heap.size + 1, 2, none⟩ = some (.int .i64 l) ∧ w'.cell? ⟨w.heap.size + 1, 3, none⟩ = some (.int .i64 q) ∧ Bx w N A n c p s l q w')
      (first | exact q1 | exact q0)
      (first | ((go_at_call 12); (with_reducible refine (HC.out _ (by first | exact q1.2.2.2.2.2.2 | exact q0.2.2.2.2.2.2)).mono ?_); rintro e w2 ⟨rfl, hb2⟩; have q1 := bxS ((by first | exact q1.2.2.2.2.2.2.next hb2 | exact q0.2.2.2.2.2.2.next hb2) : Bx w N A n c p s l q w2)) | ((go_at_call 13); (with_reducible refine (HR.out _ (by first | exact q1.2.2.2.2.2.2 | exact q0.2.2.2.2.2.2)).mono ?_); rintro e w2 ⟨rfl, hb2⟩; have q1 := bxS ((by first | exact q1.2.2.2.2.2.2.next hb2 | exact q0.2.2.2.2.2.2.next hb2) : Bx w N A n c p s l q w2)) | ((go_at_call 11); (with_reducible refine (knows_any _).mono ?_); rintro e w2 ⟨rfl, hb2⟩; have q1 := bxS ((by first | exact q1.2.2.2.2.2.2.next hb2 | exact q0.2.2.2.2.2.2.next hb2) : Bx w N A n c p s l q w2)))
    go_wp2_with fail
    go_ret
    exact ⟨rfl, q1.2.2.2.2.2.2.bl⟩

set_option maxHeartbeats 1000000 in
theorem starts_walk (N : Int) (A : Option Addr) (n c : Nat) (es : List Ed) (p s l q v : Int) (w : World) (hA : Lies w w.heap.size 3 A n (ec es)) (hnc : n ≤ c) (hn : n ≤ maxLen) :
    Calls Try.prog 4 #[.agg #[.int .i64 N, .slice A n c], .agg #[.int .i64 p, .int .i64 s, .int .i64 l, .int .i64 q], .int .i64 v] w fun e w' => e = .returned (.bool true) ∧ Below w.heap.size w w' := by
  have HBX := Lib.hid (Bx.init w N A n c p s l q)
  by_cases h200 : 200 < n
  · skip
    go_enter Try.func4, Try.ntmps4
    go_wp2_with fail
    refine (great_any N A n c _ true (by simpa using h200)).mono ?_
    rintro e w1 ⟨rfl, hb1⟩
    have B1 := Lib.hid (HBX.out.next hb1).bl
    clear hb1
    go_wp2_with fail
    refine (knows_any _).mono ?_
    rintro e w2 ⟨rfl, hb2⟩
    have B2 := Lib.hid (B1.out.trans (hb2.mono B1.out.size))
    clear hb2
    go_wp2_with fail
    go_ret
    exact ⟨rfl, B2.out⟩
  · have HC := Lib.hid (fun W (h : Bx w N A n c p s l q W) => start_any N A n c es p s l q v W (hA.next h.bl) hnc hn)
    have HR := Lib.hid (fun W (h : Bx w N A n c p s l q W) => rjcheck_any N A n c es p s l q W (hA.next h.bl) hnc hn)
    by_cases hj : jchk N es p s l q = 0
    · by_cases hv : 0 ≤ v ∧ v < N
      · have HV := Lib.hid (show vchk N es p s l q v = 0 ∧ stV N es p s l q v = startI p s v by
          have e : vchk N es p s l q v = 0 := by unfold vchk; rw [if_pos hj, if_pos hv]
          exact ⟨e, by unfold stV; rw [if_pos e]⟩)
        have hok := (jchk_zero hj).1
        have hp := (badJ_not (jchk_zero hj).2).1
        have h24 := (chk_zero hok).2.1
        have HRS := Lib.hid (fun W => rstart_any p s l q v W hp hv.1 (by omega))
        have HJ := Lib.hid hj
        obtain ⟨v0, v1⟩ := hv
        have v2 : ¬ v < 0 := by omega
        have v3 : ¬ N ≤ v := by omega
        clear hj hok hp h24
        go_enter Try.func4, Try.ntmps4
        go_wp2_with fail
        refine (great_any N A n c _ false (by simpa using h200)).mono ?_
        rintro e w1 ⟨rfl, hb1⟩
        have HX1 := Lib.hid (HBX.out.next hb1)
        clear hb1 HBX
        obtain ⟨z1, g0, g1, j0, j1, j2, j3, bl1⟩ := HX1.out
        go_wp2_with fail
        refine (HC.out _ HX1.out).mono ?_
        rintro e w2 ⟨rfl, hb2⟩
        rw [HV.out.1, HV.out.2]
        have HX2 := Lib.hid (HX1.out.next hb2)
        clear hb2 HX1 z1 g0 g1 j0 j1 j2 j3 bl1
        obtain ⟨z1, g0, g1, j0, j1, j2, j3, bl1⟩ := HX2.out
        go_wp2_with fail
        refine (HR.out _ HX2.out).mono ?_
        rintro e w3 ⟨rfl, hb3⟩
        rw [HJ.out]
        have HX3 := Lib.hid (HX2.out.next hb3)
        clear hb3 HX2 z1 g0 g1 j0 j1 j2 j3 bl1
        obtain ⟨z1, g0, g1, j0, j1, j2, j3, bl1⟩ := HX3.out
        go_wp2_with fail
        refine (HRS.out _).mono ?_
        rintro e w4 ⟨rfl, hb4⟩
        have HX4 := Lib.hid (HX3.out.next hb4)
        clear hb4 HX3 z1 g0 g1 j0 j1 j2 j3 bl1
        go_wp2_with fail
        refine (knows_any _).mono ?_
        rintro e w5 ⟨rfl, hb5⟩
        have B5 := Lib.hid (HX4.out.next hb5).bl
        clear hb5 HX4
        go_wp2_with fail
        go_ret
        exact ⟨rfl, B5.out⟩
      · have HV := Lib.hid (show vchk N es p s l q v = 4 ∧ stV N es p s l q v = 0 by
          have e : vchk N es p s l q v = 4 := by unfold vchk; rw [if_pos hj, if_neg hv]
          exact ⟨e, by unfold stV; rw [e]; rfl⟩)
        have HJ := Lib.hid hj
        have HNV := Lib.hid hv
        clear hj hv
        go_enter Try.func4, Try.ntmps4
        go_wp2_with fail
        refine (great_any N A n c _ false (by simpa using h200)).mono ?_
        rintro e w1 ⟨rfl, hb1⟩
        have HX1 := Lib.hid (HBX.out.next hb1)
        clear hb1 HBX
        obtain ⟨z1, g0, g1, j0, j1, j2, j3, bl1⟩ := HX1.out
        go_wp2_with fail
        refine (HC.out _ HX1.out).mono ?_
        rintro e w2 ⟨rfl, hb2⟩
        rw [HV.out.1, HV.out.2]
        have HX2 := Lib.hid (HX1.out.next hb2)
        clear hb2 HX1 z1 g0 g1 j0 j1 j2 j3 bl1
        obtain ⟨z1, g0, g1, j0, j1, j2, j3, bl1⟩ := HX2.out
        go_wp2_with fail
        refine (HR.out _ HX2.out).mono ?_
        rintro e w3 ⟨rfl, hb3⟩
        rw [HJ.out]
        have HX3 := Lib.hid (HX2.out.next hb3)
        clear hb3 HX2 z1 g0 g1 j0 j1 j2 j3 bl1
        obtain ⟨z1, g0, g1, j0, j1, j2, j3, bl1⟩ := HX3.out
        by_cases v0 : v < 0
        · go_wp2_with fail
          refine (knows_any _).mono ?_
          rintro e w5 ⟨rfl, hb5⟩
          have B5 := Lib.hid (HX3.out.next hb5).bl
          clear hb5 HX3
          go_wp2_with fail
          go_ret
          exact ⟨rfl, B5.out⟩
        · have v1 : N ≤ v := by have := HNV.out; omega
          go_wp2_with fail
          refine (knows_any _).mono ?_
          rintro e w5 ⟨rfl, hb5⟩
          have B5 := Lib.hid (HX3.out.next hb5).bl
          clear hb5 HX3
          go_wp2_with fail
          go_ret
          exact ⟨rfl, B5.out⟩
    · have HV := Lib.hid (show vchk N es p s l q v = jchk N es p s l q ∧ stV N es p s l q v = 0 by
        have e : vchk N es p s l q v = jchk N es p s l q := by unfold vchk; rw [if_neg hj]
        exact ⟨e, by unfold stV; rw [e, if_neg hj]⟩)
      have hj1 : (jchk N es p s l q != 0) = true := by simpa using hj
      clear hj
      go_enter Try.func4, Try.ntmps4
      go_wp2_with fail
      refine (great_any N A n c _ false (by simpa using h200)).mono ?_
      rintro e w1 ⟨rfl, hb1⟩
      have HX1 := Lib.hid (HBX.out.next hb1)
      clear hb1 HBX
      obtain ⟨z1, g0, g1, j0, j1, j2, j3, bl1⟩ := HX1.out
      go_wp2_with fail
      refine (HC.out _ HX1.out).mono ?_
      rintro e w2 ⟨rfl, hb2⟩
      rw [HV.out.1, HV.out.2]
      have HX2 := Lib.hid (HX1.out.next hb2)
      clear hb2 HX1 z1 g0 g1 j0 j1 j2 j3 bl1
      obtain ⟨z1, g0, g1, j0, j1, j2, j3, bl1⟩ := HX2.out
      go_wp2_with fail
      refine (HR.out _ HX2.out).mono ?_
      rintro e w3 ⟨rfl, hb3⟩
      have HX3 := Lib.hid (HX2.out.next hb3)
      clear hb3 HX2 z1 g0 g1 j0 j1 j2 j3 bl1
      go_wp2_with fail
      refine (knows_any _).mono ?_
      rintro e w5 ⟨rfl, hb5⟩
      have B5 := Lib.hid (HX3.out.next hb5).bl
      clear hb5 HX3
      go_wp2_with fail
      go_ret
      exact ⟨rfl, B5.out⟩
end Go.Proofs.Ytielmlcgdolgkaa
