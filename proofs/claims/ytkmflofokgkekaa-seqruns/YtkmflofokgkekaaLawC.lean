/-
  The walk of SeqRuns: a job comes to the answer that the document says. No condition.
-/
import Derived.Test.YtkmflofokgkekaaSqP
import Derived.Test.YtkmflofokgkekaaSqO
import Derived.Deep.RegionHeld3
import Derived.BigRegion
namespace Go.Proofs.Ytkmflofokgkekaa
open Go.ChangeShapes Go.WideShapes Go.ChangeAt Go.RowKit
set_option linter.unusedVariables false

set_option maxRecDepth 20000 in
set_option maxHeartbeats 4000000 in
theorem runs_walk (N : Int) (A : Option Addr) (n c : Nat) (es : List Ed) (p s l q : Int) (w : World) (hA : Lies w w.heap.size 3 A n (ec es)) (hnc : n ≤ c) (hn : n ≤ maxLen) :
    Calls Try.prog 5 #[.agg #[.int .i64 N, .slice A n c], .agg #[.int .i64 p, .int .i64 s, .int .i64 l, .int .i64 q]] w fun e w' => e = .returned (.bool true) ∧ Below w.heap.size w w' := by
  have mixed : Try.prog.follows .mixedOrders = true := by kernel_rfl
  obtain ⟨w2, hw2⟩ : ∃ w2, w2 = (w.alloc (.cells #[.int .i64 N, .slice A n c] 24)).alloc (.cells #[.int .i64 p, .int .i64 s, .int .i64 l, .int .i64 q] 26) := ⟨_, rfl⟩
  have HBX := Lib.hid (show Bx w N A n c p s l q w2 by rw [hw2]; exact Bx.init w N A n c p s l q)
  have HA := Lib.hid (hA.next HBX.out.bl)
  clear hA
  go_enter Try.func5, Try.ntmps5
  go_wp2_with fail
  rw [← hw2]
  clear hw2
  by_cases hg : 200 < n
  · refine (great_any N A n c _ true (by simpa using hg)).mono ?_
    rintro e w1 ⟨rfl, hb1⟩
    have HB1 := Lib.hid (HBX.out.next hb1).bl
    clear hb1
    go_wp2_with fail
    refine (knows_any _).mono ?_
    rintro e wk ⟨rfl, hbk⟩
    have BK := Lib.hid (HB1.out.trans (hbk.mono HB1.out.size))
    clear hbk
    go_wp2_with fail
    go_ret
    exact ⟨rfl, BK.out⟩
  · refine (great_any N A n c _ false (by simpa using hg)).mono ?_
    rintro e w1 ⟨rfl, hb1⟩
    have HB1 := Lib.hid hb1
    have HX1 := Lib.hid (HBX.out.next hb1)
    clear hb1 hg
    have g0 := HX1.out.g0
    have g1 := HX1.out.g1
    have j0 := HX1.out.j0
    have j1 := HX1.out.j1
    have j2 := HX1.out.j2
    have j3 := HX1.out.j3
    go_wp2_with fail
    refine (states_any N A n c es p s l q _ (HA.out.next HB1.out) hnc hn).mono ?_
    rintro e w5 ⟨hb5, hpost⟩
    obtain ⟨LV, kd, st, vs, Y, y, rfl, hly, hans⟩ : ∃ LV kd st vs Y y, e = .returned (.tuple #[LV, .agg #[.int .i64 kd, .int .i64 st, .slice Y (List.length vs) y]]) ∧ (Lies w5 w5.heap.size 1 Y vs.length (vc vs) ∧ vs.length ≤ 1000000) ∧ IsAns N es p s l q kd st vs := by
      rcases hpost with ⟨hj, rfl⟩ | ⟨hj, b, g, c', ls, kd, st, vs, Y, y, rfl, _, _, _, _, h1, _, h2, h3, _⟩
      · exact ⟨_, 4, 0, [], none, 0, rfl, ⟨Lies.nil, by simp⟩, .inl ⟨hj, rfl, rfl, rfl⟩⟩
      · exact ⟨_, kd, st, vs, Y, y, rfl, ⟨h1, h2⟩, h3⟩
    have hb5' := hb5.trans ((below_alloc w5 (.cells #[.int .i64 kd, .int .i64 st, .slice Y vs.length y] 45)).mono hb5.size)
    have HB5 := Lib.hid (HB1.out.trans (hb5'.mono HB1.out.size))
    have HL5 := Lib.hid (hly.1.next (below_alloc w5 (.cells #[.int .i64 kd, .int .i64 st, .slice Y vs.length y] 45)))
    have HN5 := Lib.hid hly.2
    have HAN := Lib.hid hans
    have HZ5 := Lib.hid (heap_alloc_new w5 (.cells #[.int .i64 kd, .int .i64 st, .slice Y vs.length y] 45))
    clear hpost hb5 hb5' hly hans g0 g1 j0 j1 j2 j3
    go_upto_region 4 with fail
    generalize w5.alloc (.cells #[.int .i64 kd, .int .i64 st, .slice Y vs.length y] 45) = w6 at HB5 HL5 HZ5 ⊢
    generalize w5.heap.size = ba at HZ5 ⊢
    have HW6 := Lib.hid (HBX.out.next HB5.out).bl
    have HF := Lib.hid (show ∀ W : World, Below w6.heap.size w6 W → W.cell? ⟨w.heap.size, 0, none⟩ = some (.int .i64 N) ∧ W.cell? ⟨w.heap.size, 1, none⟩ = some (.slice A n c) ∧ W.cell? ⟨w.heap.size + 1, 0, none⟩ = some (.int .i64 p) ∧ W.cell? ⟨w.heap.size + 1, 1, none⟩ = some (.int .i64 s) ∧ W.cell? ⟨w.heap.size + 1, 2, none⟩ = some (.int .i64 l) ∧ W.cell? ⟨w.heap.size + 1, 3, none⟩ = some (.int .i64 q) ∧ W.cell? ⟨ba, 0, none⟩ = some (.int .i64 kd) ∧ W.cell? ⟨ba, 1, none⟩ = some (.int .i64 st) ∧ W.cell? ⟨ba, 2, none⟩ = some (.slice Y vs.length y) ∧ Below w6.heap.size w6 W by
      intro W hb
      have h := HBX.out.next (HB5.out.trans (hb.mono HB5.out.size))
      have hz := (hb.block _ (lt_of_block HZ5.out)).trans HZ5.out
      exact ⟨h.g0, h.g1, h.j0, h.j1, h.j2, h.j3, cell_of_row W ba 0 _ 45 (0, 0) hz, cell_of_row W ba 1 _ 45 (0, 0) hz, cell_of_row W ba 2 _ 45 (0, 0) hz, hb⟩)
    have C23 := Lib.hid (fun (W : World) (hb : Below w6.heap.size w6 W) => (run_any N A n c es p s l q W (HA.out.next (HB5.out.trans (hb.mono HB5.out.size))) hnc hn).mono fun e w' (h : AnPost N es p s l q W e w') => show (∃ Z z, e = .returned (.agg #[.int .i64 kd, .int .i64 st, .slice Z vs.length z]) ∧ Lies w' w'.heap.size 1 Z vs.length (vc vs)) ∧ Below W.heap.size W w' by
      obtain ⟨hb, kd', st', vs', Z, z, he, hl, _, _, ha⟩ := h
      obtain ⟨rfl, rfl, rfl⟩ := ans_uniq ha HAN.out
      exact ⟨⟨Z, z, he, hl⟩, hb⟩)
    have q0 := HF.out w6.drew ((Below.refl _ _).drew)
    go_wp2_with fail
    go_region_held3 (fun w' => w'.cell? ⟨w.heap.size, 0, none⟩ = some (.int .i64 N) ∧ w'.cell? ⟨w.heap.size, 1, none⟩ = some (.slice A n c) ∧ w'.cell? ⟨w.heap.size + 1, 0, none⟩ = some (.int .i64 p) ∧ w'.cell? ⟨w.heap.size + 1, 1, none⟩ = some (.int .i64 s) ∧ w'.cell? ⟨w.heap.size + 1, 2, none⟩ = some (.int .i64 l) ∧ w'.cell? ⟨w.heap.size + 1, 3, none⟩ = some (.int .i64 q) ∧ w'.cell? ⟨ba, 0, none⟩ = some (.int .i64 kd) ∧ w'.cell? ⟨ba, 1, none⟩ = some (.int .i64 st) ∧ w'.cell? ⟨ba, 2, none⟩ = some (.slice Y vs.length y) ∧ Below w6.heap.size w6 w')
      (first | exact q1 | exact q0)
      (first | ((go_at_call 23); (with_reducible refine (C23.out _ (by first | exact q1.2.2.2.2.2.2.2.2.2 | exact q0.2.2.2.2.2.2.2.2.2)).mono ?_); rintro e w7 ⟨⟨Z, z, rfl, hl7⟩, hb7⟩; have q1 := HF.out w7 (((by first | exact q1.2.2.2.2.2.2.2.2.2 | exact q0.2.2.2.2.2.2.2.2.2) : Below w6.heap.size w6 _).trans (hb7.mono (((by first | exact q1.2.2.2.2.2.2.2.2.2 | exact q0.2.2.2.2.2.2.2.2.2) : Below w6.heap.size w6 _)).size))) | ((go_at_call 22); (with_reducible refine (sameA_yes kd st vs Z z Y y _ hl7 (HL5.out.next q1.2.2.2.2.2.2.2.2.2) HN5.out).mono ?_); rintro e w8 ⟨rfl, hb8⟩; have q1 := HF.out w8 ((q1.2.2.2.2.2.2.2.2.2).trans (hb8.mono (q1.2.2.2.2.2.2.2.2.2).size))) | ((go_at_call 12); (with_reducible refine (knows_any _).mono ?_); rintro e w9 ⟨rfl, hb9⟩; have q1 := HF.out w9 ((q1.2.2.2.2.2.2.2.2.2).trans (hb9.mono (q1.2.2.2.2.2.2.2.2.2).size))))
    go_wp2_with fail
    go_ret
    exact ⟨rfl, HW6.out.trans ((q1.2.2.2.2.2.2.2.2.2).mono HW6.out.size)⟩

end Go.Proofs.Ytkmflofokgkekaa
