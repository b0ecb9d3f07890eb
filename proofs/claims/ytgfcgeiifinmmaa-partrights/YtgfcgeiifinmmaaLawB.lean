/-
  The walk of PartRights: which partitions are right. No condition.
-/
import Derived.Test.YtgfcgeiifinmmaaPtN
import Derived.Test.YtgfcgeiifinmmaaDoorP
import Derived.BigQuiet
import Derived.BigRegion
import Derived.Deep.RegionHeld3
namespace Go.Proofs.Ytgfcgeiifinmmaa
open Go.ChangeShapes Go.WideShapes Go.ChangeAt Go.RowKit
set_option linter.unusedVariables false

set_option maxRecDepth 20000 in
set_option maxHeartbeats 4000000 in
theorem prights_walk (N : Int) (A : Option Addr) (n c : Nat) (es : List Ed) (p s l q : Int) (P : Int) (S : St) (A1 : Option Addr) (c1 : Nat) (A2 : Option Addr) (c2 : Nat) (A3 : Option Addr) (c3 : Nat) (w : World) (hA : Lies w w.heap.size 3 A n (ec es)) (hnc : n ≤ c) (hn : n ≤ maxLen) (hS : StI w S A1 c1 A2 c2 A3 c3) :
    Calls Try.prog 4 #[.agg #[.int .i64 N, .slice A n c], .agg #[.int .i64 p, .int .i64 s, .int .i64 l, .int .i64 q], .agg #[.int .i64 P, .int .i64 S.step, .slice A1 S.vals.length c1, .slice A2 S.rest.length c2, .slice A3 S.inn.length c3]] w fun e w' => e = .returned (.bool true) ∧ Below w.heap.size w w' := by
  have mixed : Try.prog.follows .mixedOrders = true := by kernel_rfl
  obtain ⟨w3, hw3⟩ : ∃ w3, w3 = ((w.alloc (.cells #[.int .i64 N, .slice A n c] 24)).alloc (.cells #[.int .i64 p, .int .i64 s, .int .i64 l, .int .i64 q] 26)).alloc (.cells #[.int .i64 P, .int .i64 S.step, .slice A1 S.vals.length c1, .slice A2 S.rest.length c2, .slice A3 S.inn.length c3] 36) := ⟨_, rfl⟩
  have HBS := Lib.hid (show Bp w N A n c p s l q P S A1 c1 A2 c2 A3 c3 w3 by rw [hw3]; exact Bp.init w N A n c p s l q P S A1 c1 A2 c2 A3 c3)
  have HA := Lib.hid (hA.next HBS.out.x.bl)
  have HSI := Lib.hid hS
  clear hA hS
  go_enter Try.func4, Try.ntmps4
  go_wp2_with fail
  rw [← hw3]
  clear hw3
  by_cases hg : 200 < n
  · refine (great_any N A n c _ true (by simpa using hg)).mono ?_
    rintro e w1 ⟨rfl, hb1⟩
    have HB1 := Lib.hid (HBS.out.next hb1).x.bl
    clear hb1
    go_wp2_with fail
    refine (knows_any _).mono ?_
    rintro e wk ⟨rfl, hbk⟩
    have BK := Lib.hid (HB1.out.trans (hbk.mono HB1.out.size))
    clear hbk
    go_wp2_with fail
    go_ret
    exact ⟨rfl, BK.out⟩
  · refine (great_any N A n c _ false (by simpa using hg)).mono ?_
    rintro e w1 ⟨rfl, hb1⟩
    have HB0 := Lib.hid hb1
    have hx1 := HBS.out.next hb1
    have p0 := hx1.p0
    have s0 := hx1.s0
    have s1 := hx1.s1
    have s2 := hx1.s2
    have s3 := hx1.s3
    clear hb1 hx1
    go_wp2_with fail
    refine (broad_any P S A1 c1 A2 c2 A3 c3 _).mono ?_
    rintro e w2 ⟨rfl, hb2⟩
    have HB2 := Lib.hid (HB0.out.trans (hb2.mono HB0.out.size))
    have HBW := Lib.hid (HBS.out.next HB2.out).x.bl
    clear hb2 p0 s0 s1 s2 s3
    cases hw : wideB S with
    | true =>
      clear hw
      go_wp2_with fail
      refine (knows_any _).mono ?_
      rintro e wk ⟨rfl, hbk⟩
      have BK := Lib.hid (HBW.out.trans (hbk.mono HBW.out.size))
      clear hbk
      go_wp2_with fail
      go_ret
      exact ⟨rfl, BK.out⟩
    | false =>
      have HSL := Lib.hid ((HSI.out.ok hw).next HBS.out.x.bl)
      clear hw
      have HF := Lib.hid (show ∀ W : World, Below w3.heap.size w3 W → W.cell? ⟨w.heap.size, 0, none⟩ = some (.int .i64 N) ∧ W.cell? ⟨w.heap.size, 1, none⟩ = some (.slice A n c) ∧ W.cell? ⟨w.heap.size + 1, 0, none⟩ = some (.int .i64 p) ∧ W.cell? ⟨w.heap.size + 1, 1, none⟩ = some (.int .i64 s) ∧ W.cell? ⟨w.heap.size + 1, 2, none⟩ = some (.int .i64 l) ∧ W.cell? ⟨w.heap.size + 1, 3, none⟩ = some (.int .i64 q) ∧ W.cell? ⟨w.heap.size + 1 + 1, 0, none⟩ = some (.int .i64 P) ∧ W.cell? ⟨w.heap.size + 1 + 1, 1, none⟩ = some (.int .i64 S.step) ∧ W.cell? ⟨w.heap.size + 1 + 1, 2, none⟩ = some (.slice A1 S.vals.length c1) ∧ W.cell? ⟨w.heap.size + 1 + 1, 3, none⟩ = some (.slice A2 S.rest.length c2) ∧ W.cell? ⟨w.heap.size + 1 + 1, 4, none⟩ = some (.slice A3 S.inn.length c3) ∧ Below w3.heap.size w3 W by
        intro W hb
        have h := HBS.out.next hb
        exact ⟨h.x.g0, h.x.g1, h.x.j0, h.x.j1, h.x.j2, h.x.j3, h.p0, h.s0, h.s1, h.s2, h.s3, hb⟩)
      have C1 := Lib.hid (fun (W : World) (hb : Below w3.heap.size w3 W) => pright_any N A n c es p s l q P S A1 c1 A2 c2 A3 c3 W (HA.out.next hb) hnc hn (HSL.out.next hb))
      have C2 := Lib.hid (fun (W : World) (hb : Below w3.heap.size w3 W) => rpright_any N A n c es p s l q P S A1 c1 A2 c2 A3 c3 W (HA.out.next hb) hnc hn (HSL.out.next hb))
      have C5 := Lib.hid (fun (W : World) (hb : Below w3.heap.size w3 W) => knows_any W)
      generalize rightP N es p s l q (mkP P S) = br at C1 C2
      have q0 := HF.out w2.drew HB2.out.drew
      go_wp2_with fail
      go_region_held3 (fun w' => w'.cell? ⟨w.heap.size, 0, none⟩ = some (.int .i64 N) ∧ w'.cell? ⟨w.heap.size, 1, none⟩ = some (.slice A n c) ∧ w'.cell? ⟨w.heap.size + 1, 0, none⟩ = some (.int .i64 p) ∧ w'.cell? ⟨w.heap.size + 1, 1, none⟩ = some (.int .i64 s) ∧ w'.cell? ⟨w.heap.size + 1, 2, none⟩ = some (.int .i64 l) ∧ w'.cell? ⟨w.heap.size + 1, 3, none⟩ = some (.int .i64 q) ∧ w'.cell? ⟨w.heap.size + 1 + 1, 0, none⟩ = some (.int .i64 P) ∧ w'.cell? ⟨w.heap.size + 1 + 1, 1, none⟩ = some (.int .i64 S.step) ∧ w'.cell? ⟨w.heap.size + 1 + 1, 2, none⟩ = some (.slice A1 S.vals.length c1) ∧ w'.cell? ⟨w.heap.size + 1 + 1, 3, none⟩ = some (.slice A2 S.rest.length c2) ∧ w'.cell? ⟨w.heap.size + 1 + 1, 4, none⟩ = some (.slice A3 S.inn.length c3) ∧ Below w3.heap.size w3 w')
        (first | exact q1 | exact q0)
        (first | ((go_at_call 16); (with_reducible refine (C1.out _ (by first | exact q1.2.2.2.2.2.2.2.2.2.2.2 | exact q0.2.2.2.2.2.2.2.2.2.2.2)).mono ?_); rintro e w5 ⟨rfl, hb2⟩; have q1 := HF.out w5 (((by first | exact q1.2.2.2.2.2.2.2.2.2.2.2 | exact q0.2.2.2.2.2.2.2.2.2.2.2) : Below w3.heap.size w3 _).trans (hb2.mono (((by first | exact q1.2.2.2.2.2.2.2.2.2.2.2 | exact q0.2.2.2.2.2.2.2.2.2.2.2) : Below w3.heap.size w3 _)).size))) | ((go_at_call 17); (with_reducible refine (C2.out _ (by first | exact q1.2.2.2.2.2.2.2.2.2.2.2 | exact q0.2.2.2.2.2.2.2.2.2.2.2)).mono ?_); rintro e w5 ⟨rfl, hb2⟩; have q1 := HF.out w5 (((by first | exact q1.2.2.2.2.2.2.2.2.2.2.2 | exact q0.2.2.2.2.2.2.2.2.2.2.2) : Below w3.heap.size w3 _).trans (hb2.mono (((by first | exact q1.2.2.2.2.2.2.2.2.2.2.2 | exact q0.2.2.2.2.2.2.2.2.2.2.2) : Below w3.heap.size w3 _)).size))) | ((go_at_call 10); (with_reducible refine (C5.out _ (by first | exact q1.2.2.2.2.2.2.2.2.2.2.2 | exact q0.2.2.2.2.2.2.2.2.2.2.2)).mono ?_); rintro e w5 ⟨rfl, hb2⟩; have q1 := HF.out w5 (((by first | exact q1.2.2.2.2.2.2.2.2.2.2.2 | exact q0.2.2.2.2.2.2.2.2.2.2.2) : Below w3.heap.size w3 _).trans (hb2.mono (((by first | exact q1.2.2.2.2.2.2.2.2.2.2.2 | exact q0.2.2.2.2.2.2.2.2.2.2.2) : Below w3.heap.size w3 _)).size))))
      go_wp2_with fail
      go_ret
      exact ⟨rfl, (HBS.out.next q1.2.2.2.2.2.2.2.2.2.2.2).x.bl⟩
end Go.Proofs.Ytgfcgeiifinmmaa
