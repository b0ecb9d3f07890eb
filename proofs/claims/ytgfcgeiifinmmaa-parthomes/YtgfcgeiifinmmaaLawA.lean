/-
  The walk of PartHomes: homes, and how many vertices they have. No condition.
-/
import Derived.Test.YtgfcgeiifinmmaaPtN
import Derived.BigQuiet
import Derived.BigRegion
import Derived.Deep.RegionHeld3
namespace Go.Proofs.Ytgfcgeiifinmmaa
open Go.ChangeShapes Go.WideShapes Go.ChangeAt Go.RowKit
set_option linter.unusedVariables false

set_option maxRecDepth 20000 in
set_option maxHeartbeats 4000000 in
theorem homes_walk (N : Int) (A : Option Addr) (n c : Nat) (es : List Ed) (p s l q : Int) (v k : Int) (hv : bd v) (w : World) (hA : Lies w w.heap.size 3 A n (ec es)) (hnc : n ≤ c) (hn : n ≤ maxLen) :
    Calls Try.prog 3 #[.agg #[.int .i64 N, .slice A n c], .agg #[.int .i64 p, .int .i64 s, .int .i64 l, .int .i64 q], .int .i64 v, .int .i64 k] w fun e w' => e = .returned (.bool true) ∧ Below w.heap.size w w' := by
  have mixed : Try.prog.follows .mixedOrders = true := by kernel_rfl
  obtain ⟨w3, hw3⟩ : ∃ w3, w3 = (w.alloc (.cells #[.int .i64 N, .slice A n c] 24)).alloc (.cells #[.int .i64 p, .int .i64 s, .int .i64 l, .int .i64 q] 26) := ⟨_, rfl⟩
  have HBS := Lib.hid (show Bx w N A n c p s l q w3 by rw [hw3]; exact Bx.init w N A n c p s l q)
  have HA := Lib.hid (hA.next HBS.out.bl)
  clear hA
  go_enter Try.func3, Try.ntmps3
  go_wp2_with fail
  rw [← hw3]
  clear hw3
  by_cases hg : 200 < n
  · refine (great_any N A n c _ true (by simpa using hg)).mono ?_
    rintro e w1 ⟨rfl, hb1⟩
    have HB1 := Lib.hid (HBS.out.next hb1).bl
    clear hb1
    go_wp2_with fail
    refine (knows_any _).mono ?_
    rintro e wk ⟨rfl, hbk⟩
    have BK := Lib.hid (HB1.out.trans (hbk.mono HB1.out.size))
    clear hbk
    go_wp2_with fail
    go_ret
    exact ⟨rfl, BK.out⟩
  · refine (great_any N A n c _ false (by simpa using hg)).mono ?_
    rintro e w1 ⟨rfl, hb1⟩
    have HB0 := Lib.hid hb1
    clear hb1
    have HF := Lib.hid (show ∀ W : World, Below w3.heap.size w3 W → W.cell? ⟨w.heap.size, 0, none⟩ = some (.int .i64 N) ∧ W.cell? ⟨w.heap.size, 1, none⟩ = some (.slice A n c) ∧ W.cell? ⟨w.heap.size + 1, 0, none⟩ = some (.int .i64 p) ∧ W.cell? ⟨w.heap.size + 1, 1, none⟩ = some (.int .i64 s) ∧ W.cell? ⟨w.heap.size + 1, 2, none⟩ = some (.int .i64 l) ∧ W.cell? ⟨w.heap.size + 1, 3, none⟩ = some (.int .i64 q) ∧ Below w3.heap.size w3 W by
      intro W hb
      have h := HBS.out.next hb
      exact ⟨h.g0, h.g1, h.j0, h.j1, h.j2, h.j3, hb⟩)
    have C1 := Lib.hid (fun (W : World) (hb : Below w3.heap.size w3 W) => home_any p s l q v W)
    have C2 := Lib.hid (fun (W : World) (hb : Below w3.heap.size w3 W) => rhome_any p s l q v W hv)
    have C3 := Lib.hid (fun (W : World) (hb : Below w3.heap.size w3 W) => count_any N A n c es p s l q k W (HA.out.next hb) hnc hn)
    have C4 := Lib.hid (fun (W : World) (hb : Below w3.heap.size w3 W) => rcount_any N A n c es p s l q k W (HA.out.next hb) hnc hn)
    have C5 := Lib.hid (fun (W : World) (hb : Below w3.heap.size w3 W) => knows_any W)
    generalize homeI q v = hv1 at C1 C2
    generalize cntI N es p s l q k = cv1 at C3 C4
    have q0 := HF.out w1.drew HB0.out.drew
    go_wp2_with fail
    go_region_held3 (fun w' => w'.cell? ⟨w.heap.size, 0, none⟩ = some (.int .i64 N) ∧ w'.cell? ⟨w.heap.size, 1, none⟩ = some (.slice A n c) ∧ w'.cell? ⟨w.heap.size + 1, 0, none⟩ = some (.int .i64 p) ∧ w'.cell? ⟨w.heap.size + 1, 1, none⟩ = some (.int .i64 s) ∧ w'.cell? ⟨w.heap.size + 1, 2, none⟩ = some (.int .i64 l) ∧ w'.cell? ⟨w.heap.size + 1, 3, none⟩ = some (.int .i64 q) ∧ Below w3.heap.size w3 w')
      (first | exact q1 | exact q0)
      (first | ((go_at_call 11); (with_reducible refine (C1.out _ (by first | exact q1.2.2.2.2.2.2 | exact q0.2.2.2.2.2.2)).mono ?_); rintro e w5 ⟨rfl, hb2⟩; have q1 := HF.out w5 (((by first | exact q1.2.2.2.2.2.2 | exact q0.2.2.2.2.2.2) : Below w3.heap.size w3 _).trans (hb2.mono (((by first | exact q1.2.2.2.2.2.2 | exact q0.2.2.2.2.2.2) : Below w3.heap.size w3 _)).size))) | ((go_at_call 12); (with_reducible refine (C2.out _ (by first | exact q1.2.2.2.2.2.2 | exact q0.2.2.2.2.2.2)).mono ?_); rintro e w5 ⟨rfl, hb2⟩; have q1 := HF.out w5 (((by first | exact q1.2.2.2.2.2.2 | exact q0.2.2.2.2.2.2) : Below w3.heap.size w3 _).trans (hb2.mono (((by first | exact q1.2.2.2.2.2.2 | exact q0.2.2.2.2.2.2) : Below w3.heap.size w3 _)).size))) | ((go_at_call 13); (with_reducible refine (C3.out _ (by first | exact q1.2.2.2.2.2.2 | exact q0.2.2.2.2.2.2)).mono ?_); rintro e w5 ⟨rfl, hb2⟩; have q1 := HF.out w5 (((by first | exact q1.2.2.2.2.2.2 | exact q0.2.2.2.2.2.2) : Below w3.heap.size w3 _).trans (hb2.mono (((by first | exact q1.2.2.2.2.2.2 | exact q0.2.2.2.2.2.2) : Below w3.heap.size w3 _)).size))) | ((go_at_call 14); (with_reducible refine (C4.out _ (by first | exact q1.2.2.2.2.2.2 | exact q0.2.2.2.2.2.2)).mono ?_); rintro e w5 ⟨rfl, hb2⟩; have q1 := HF.out w5 (((by first | exact q1.2.2.2.2.2.2 | exact q0.2.2.2.2.2.2) : Below w3.heap.size w3 _).trans (hb2.mono (((by first | exact q1.2.2.2.2.2.2 | exact q0.2.2.2.2.2.2) : Below w3.heap.size w3 _)).size))) | ((go_at_call 10); (with_reducible refine (C5.out _ (by first | exact q1.2.2.2.2.2.2 | exact q0.2.2.2.2.2.2)).mono ?_); rintro e w5 ⟨rfl, hb2⟩; have q1 := HF.out w5 (((by first | exact q1.2.2.2.2.2.2 | exact q0.2.2.2.2.2.2) : Below w3.heap.size w3 _).trans (hb2.mono (((by first | exact q1.2.2.2.2.2.2 | exact q0.2.2.2.2.2.2) : Below w3.heap.size w3 _)).size))))
    go_wp2_with fail
    go_ret
    exact ⟨rfl, (HBS.out.next q1.2.2.2.2.2.2).bl⟩
end Go.Proofs.Ytgfcgeiifinmmaa
