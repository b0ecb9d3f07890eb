/-
  The walk of SeqBegins: a run begins as the document says. No condition.
-/
import Derived.Test.YtkmflofokgkekaaSqP
import Derived.Test.YtkmflofokgkekaaSqJ
import Derived.Deep.RegionHeld3
import Derived.BigRegion
namespace Go.Proofs.Ytkmflofokgkekaa
open Go.ChangeShapes Go.WideShapes Go.ChangeAt Go.RowKit
set_option linter.unusedVariables false

set_option maxRecDepth 20000 in
set_option maxHeartbeats 4000000 in
theorem begins_walk (N : Int) (A : Option Addr) (n c : Nat) (es : List Ed) (p s l q : Int) (w : World) (hA : Lies w w.heap.size 3 A n (ec es)) (hnc : n ≤ c) (hn : n ≤ maxLen) :
    Calls Try.prog 4 #[.agg #[.int .i64 N, .slice A n c], .agg #[.int .i64 p, .int .i64 s, .int .i64 l, .int .i64 q]] w fun e w' => e = .returned (.bool true) ∧ Below w.heap.size w w' := by
  have mixed : Try.prog.follows .mixedOrders = true := by kernel_rfl
  obtain ⟨w2, hw2⟩ : ∃ w2, w2 = (w.alloc (.cells #[.int .i64 N, .slice A n c] 24)).alloc (.cells #[.int .i64 p, .int .i64 s, .int .i64 l, .int .i64 q] 26) := ⟨_, rfl⟩
  have HBX := Lib.hid (show Bx w N A n c p s l q w2 by rw [hw2]; exact Bx.init w N A n c p s l q)
  have HA := Lib.hid (hA.next HBX.out.bl)
  clear hA
  go_enter Try.func4, Try.ntmps4
  go_wp2_with fail
  rw [← hw2]
  clear hw2
  by_cases hg : 200 < n
  · refine (great_any N A n c _ true (by simpa using hg)).mono ?_
    rintro e w1 ⟨rfl, hb1⟩
    have HB1 := Lib.hid (HBX.out.next hb1).bl
    clear hb1
    go_wp2_with fail
    refine (knows_any _).mono ?_
    rintro e wk ⟨rfl, hbk⟩
    have BK := Lib.hid (HB1.out.trans (hbk.mono HB1.out.size))
    clear hbk
    go_wp2_with fail
    go_ret
    exact ⟨rfl, BK.out⟩
  · refine (great_any N A n c _ false (by simpa using hg)).mono ?_
    rintro e w1 ⟨rfl, hb1⟩
    have HB1 := Lib.hid hb1
    have HX1 := Lib.hid (HBX.out.next hb1)
    clear hb1 hg
    have g0 := HX1.out.g0
    have g1 := HX1.out.g1
    have j0 := HX1.out.j0
    have j1 := HX1.out.j1
    have j2 := HX1.out.j2
    have j3 := HX1.out.j3
    go_wp2_with fail
    refine (begin_any N A n c es p s l q _ (HA.out.next HB1.out) hnc hn).mono ?_
    rintro e w5 ⟨hb5, X1, x1, X2, x2, X3, x3, rfl, hs5, f1, f2, f3⟩
    have HBR := Lib.hid (show beginR N es p s l q = if jchk N es p s l q = 0 then (beginS N p s, 0) else (noSt, jchk N es p s l q) from rfl)
    obtain ⟨t, ht⟩ : ∃ t, t = beginR N es p s l q := ⟨_, rfl⟩
    rw [← ht] at hs5 HBR ⊢
    clear ht f1 f2 f3
    obtain ⟨S0, e0⟩ := t
    dsimp only at hs5 ⊢
    have hb5' := hb5.trans ((below_alloc w5 (.cells #[.int .i64 S0.step, .slice X1 S0.vals.length x1, .slice X2 S0.rest.length x2, .slice X3 S0.inn.length x3] 31)).mono hb5.size)
    have HB5 := Lib.hid (HB1.out.trans (hb5'.mono HB1.out.size))
    have HS5 := Lib.hid (hs5.next (below_alloc w5 (.cells #[.int .i64 S0.step, .slice X1 S0.vals.length x1, .slice X2 S0.rest.length x2, .slice X3 S0.inn.length x3] 31)))
    have HZ5 := Lib.hid (heap_alloc_new w5 (.cells #[.int .i64 S0.step, .slice X1 S0.vals.length x1, .slice X2 S0.rest.length x2, .slice X3 S0.inn.length x3] 31))
    clear hb5 hb5' hs5 g0 g1 j0 j1 j2 j3
    go_upto_region 4 with fail
    generalize w5.alloc (.cells #[.int .i64 S0.step, .slice X1 S0.vals.length x1, .slice X2 S0.rest.length x2, .slice X3 S0.inn.length x3] 31) = W5 at HB5 HS5 HZ5 ⊢
    generalize w5.heap.size = bs at HZ5 ⊢
    have HX5 := Lib.hid (HBX.out.next HB5.out)
    have g0 := HX5.out.g0
    have g1 := HX5.out.g1
    have j0 := HX5.out.j0
    have j1 := HX5.out.j1
    have j2 := HX5.out.j2
    have j3 := HX5.out.j3
    go_wp2_with fail
    refine (rjcheck_any N A n c es p s l q _ (HA.out.next HB5.out) hnc hn).mono ?_
    rintro e w6 ⟨rfl, hb6⟩
    have HB6 := Lib.hid (HB5.out.trans (hb6.mono HB5.out.size))
    have HS6 := Lib.hid (HS5.out.next hb6)
    have HZ6 := Lib.hid ((hb6.block _ (lt_of_block HZ5.out)).trans HZ5.out)
    have HW6 := Lib.hid (HBX.out.next HB6.out).bl
    clear hb6 g0 g1 j0 j1 j2 j3 HS5 HZ5 HX5
    by_cases hj : jchk N es p s l q = 0
    · have HJ := Lib.hid hj
      rw [hj]
      have hh := HBR.out
      rw [if_pos hj] at hh
      injection hh with h1 h2
      subst h2
      have HS0 := Lib.hid h1
      clear hj h1
      have HF := Lib.hid (show ∀ W : World, Below w6.heap.size w6 W → W.cell? ⟨w.heap.size, 0, none⟩ = some (.int .i64 N) ∧ W.cell? ⟨w.heap.size, 1, none⟩ = some (.slice A n c) ∧ W.cell? ⟨w.heap.size + 1, 0, none⟩ = some (.int .i64 p) ∧ W.cell? ⟨w.heap.size + 1, 1, none⟩ = some (.int .i64 s) ∧ W.cell? ⟨w.heap.size + 1, 2, none⟩ = some (.int .i64 l) ∧ W.cell? ⟨w.heap.size + 1, 3, none⟩ = some (.int .i64 q) ∧ W.cell? ⟨bs, 0, none⟩ = some (.int .i64 S0.step) ∧ W.cell? ⟨bs, 1, none⟩ = some (.slice X1 S0.vals.length x1) ∧ W.cell? ⟨bs, 2, none⟩ = some (.slice X2 S0.rest.length x2) ∧ W.cell? ⟨bs, 3, none⟩ = some (.slice X3 S0.inn.length x3) ∧ Below w6.heap.size w6 W by
        intro W hb
        have h := HBX.out.next (HB6.out.trans (hb.mono HB6.out.size))
        have hz := (hb.block _ (lt_of_block HZ6.out)).trans HZ6.out
        exact ⟨h.g0, h.g1, h.j0, h.j1, h.j2, h.j3, cell_of_row W bs 0 _ 31 (0, 0) hz, cell_of_row W bs 1 _ 31 (0, 0) hz, cell_of_row W bs 2 _ 31 (0, 0) hz, cell_of_row W bs 3 _ 31 (0, 0) hz, hb⟩)
      have C20 := Lib.hid (fun (W : World) => rbegin_any N A n c es p s l q W HJ.out)
      rw [← HS0.out] at C20
      have q0 := HF.out w6.drew ((Below.refl _ _).drew)
      go_wp2_with fail
      go_region_held3 (fun w' => w'.cell? ⟨w.heap.size, 0, none⟩ = some (.int .i64 N) ∧ w'.cell? ⟨w.heap.size, 1, none⟩ = some (.slice A n c) ∧ w'.cell? ⟨w.heap.size + 1, 0, none⟩ = some (.int .i64 p) ∧ w'.cell? ⟨w.heap.size + 1, 1, none⟩ = some (.int .i64 s) ∧ w'.cell? ⟨w.heap.size + 1, 2, none⟩ = some (.int .i64 l) ∧ w'.cell? ⟨w.heap.size + 1, 3, none⟩ = some (.int .i64 q) ∧ w'.cell? ⟨bs, 0, none⟩ = some (.int .i64 S0.step) ∧ w'.cell? ⟨bs, 1, none⟩ = some (.slice X1 S0.vals.length x1) ∧ w'.cell? ⟨bs, 2, none⟩ = some (.slice X2 S0.rest.length x2) ∧ w'.cell? ⟨bs, 3, none⟩ = some (.slice X3 S0.inn.length x3) ∧ Below w6.heap.size w6 w')
        (first | exact q1 | exact q0)
        (first | ((go_at_call 20); (with_reducible refine (C20.out _).mono ?_); rintro e w7 ⟨hb7, Z1, z1, Z2, z2, Z3, z3, rfl, hs7, _, _, _⟩; have q1 := HF.out w7 (((by first | exact q1.2.2.2.2.2.2.2.2.2.2 | exact q0.2.2.2.2.2.2.2.2.2.2) : Below w6.heap.size w6 _).trans (hb7.mono (((by first | exact q1.2.2.2.2.2.2.2.2.2.2 | exact q0.2.2.2.2.2.2.2.2.2.2) : Below w6.heap.size w6 _)).size))) | ((go_at_call 19); (with_reducible refine (same_yes S0 X1 x1 X2 x2 X3 x3 Z1 z1 Z2 z2 Z3 z3 _ (HS6.out.next q1.2.2.2.2.2.2.2.2.2.2) hs7).mono ?_); rintro e w8 ⟨rfl, hb8⟩; have q1 := HF.out w8 ((q1.2.2.2.2.2.2.2.2.2.2).trans (hb8.mono (q1.2.2.2.2.2.2.2.2.2.2).size))) | ((go_at_call 12); (with_reducible refine (knows_any _).mono ?_); rintro e w9 ⟨rfl, hb9⟩; have q1 := HF.out w9 ((q1.2.2.2.2.2.2.2.2.2.2).trans (hb9.mono (q1.2.2.2.2.2.2.2.2.2.2).size))))
      go_wp2_with fail
      go_ret
      exact ⟨rfl, HW6.out.trans ((q1.2.2.2.2.2.2.2.2.2.2).mono HW6.out.size)⟩
    · have hh := HBR.out
      rw [if_neg hj] at hh
      injection hh with h1 h2
      subst h1 h2
      have hj1 : (jchk N es p s l q != 0) = true := by simpa using hj
      clear hj
      have b0 := cell_of_row w6 bs 0 _ 31 (0, 0) HZ6.out
      have b1 := cell_of_row w6 bs 1 _ 31 (0, 0) HZ6.out
      have b2 := cell_of_row w6 bs 2 _ 31 (0, 0) HZ6.out
      have b3 := cell_of_row w6 bs 3 _ 31 (0, 0) HZ6.out
      have HC := Lib.hid (same_yes noSt X1 x1 X2 x2 X3 x3 none 0 none 0 none 0 w6 HS6.out (StL.no _ _))
      clear HBR
      generalize jchk N es p s l q = e0 at *
      go_wp2_with fail
      refine HC.out.mono ?_
      rintro e w7 ⟨rfl, hb7⟩
      have HB7 := Lib.hid (HW6.out.trans (hb7.mono HW6.out.size))
      clear hb7 b0 b1 b2 b3
      go_wp2_with fail
      refine (knows_any _).mono ?_
      rintro e wk ⟨rfl, hbk⟩
      have BK := Lib.hid (HB7.out.trans (hbk.mono HB7.out.size))
      clear hbk
      go_wp2_with fail
      go_ret
      exact ⟨rfl, BK.out⟩

end Go.Proofs.Ytkmflofokgkekaa
