/-
  The walk of WorkTakes: a partition takes what came to it as the document says. No condition.
-/
import Derived.Test.YtcaccjfnibjbpaaWf
import Derived.Test.YtcaccjfnibjbpaaWg
import Derived.Test.YtcaccjfnibjbpaaDoorL
import Derived.BigQuiet
import Derived.BigRegion
import Derived.Deep.RegionHeld3
namespace Go.Proofs.Ytcaccjfnibjbpaa
open Go.ChangeShapes Go.WideShapes Go.ChangeAt Go.RowKit
set_option linter.unusedVariables false

set_option maxRecDepth 20000 in
set_option maxHeartbeats 4000000 in
theorem takes_walk (N : Int) (A : Option Addr) (n c : Nat) (es : List Ed) (p s l q : Int) (P : Int) (S : St) (A1 : Option Addr) (c1 : Nat) (A2 : Option Addr) (c2 : Nat) (A3 : Option Addr) (c3 : Nat) (D : Option Addr) (d : Nat) (ls : List Le) (w : World) (hA : Lies w w.heap.size 3 A n (ec es)) (hnc : n ≤ c) (hn : n ≤ maxLen) (hS : StI w S A1 c1 A2 c2 A3 c3) (hL : LmI w D d ls) :
    Calls Try.prog 4 #[.agg #[.int .i64 N, .slice A n c], .agg #[.int .i64 p, .int .i64 s, .int .i64 l, .int .i64 q], .agg #[.int .i64 P, .int .i64 S.step, .slice A1 S.vals.length c1, .slice A2 S.rest.length c2, .slice A3 S.inn.length c3], .slice D ls.length d] w fun e w' => e = .returned (.bool true) ∧ Below w.heap.size w w' := by
  have mixed : Try.prog.follows .mixedOrders = true := by kernel_rfl
  obtain ⟨w3, hw3⟩ : ∃ w3, w3 = ((w.alloc (.cells #[.int .i64 N, .slice A n c] 24)).alloc (.cells #[.int .i64 p, .int .i64 s, .int .i64 l, .int .i64 q] 26)).alloc (.cells #[.int .i64 P, .int .i64 S.step, .slice A1 S.vals.length c1, .slice A2 S.rest.length c2, .slice A3 S.inn.length c3] 31) := ⟨_, rfl⟩
  have HBS := Lib.hid (show Bp w N A n c p s l q P S A1 c1 A2 c2 A3 c3 w3 by rw [hw3]; exact Bp.init w N A n c p s l q P S A1 c1 A2 c2 A3 c3)
  have HA := Lib.hid (hA.next HBS.out.x.bl)
  have HSI := Lib.hid hS
  have HD := Lib.hid (hL.l.next HBS.out.x.bl)
  have HLB := Lib.hid hL.b
  have hln := hL.n
  clear hL
  clear hA hS
  go_enter Try.func4, Try.ntmps4
  go_wp2_with fail
  rw [← hw3]
  clear hw3
  by_cases hg : 200 < n
  · refine (great_any N A n c _ true (by simpa using hg)).mono ?_
    rintro e w1 ⟨rfl, hb1⟩
    have HB1 := Lib.hid (HBS.out.next hb1).x.bl
    clear hb1
    go_wp2_with fail
    refine (knows_any _).mono ?_
    rintro e wk ⟨rfl, hbk⟩
    have BK := Lib.hid (HB1.out.trans (hbk.mono HB1.out.size))
    clear hbk
    go_wp2_with fail
    go_ret
    exact ⟨rfl, BK.out⟩
  · refine (great_any N A n c _ false (by simpa using hg)).mono ?_
    rintro e w1 ⟨rfl, hb1⟩
    have HB0 := Lib.hid hb1
    have hx1 := HBS.out.next hb1
    have p0 := hx1.p0
    have s0 := hx1.s0
    have s1 := hx1.s1
    have s2 := hx1.s2
    have s3 := hx1.s3
    clear hb1 hx1
    go_wp2_with fail
    refine (broad_any P S A1 c1 A2 c2 A3 c3 _).mono ?_
    rintro e w2 ⟨rfl, hb2⟩
    have HB2 := Lib.hid (HB0.out.trans (hb2.mono HB0.out.size))
    have HBW := Lib.hid (HBS.out.next HB2.out).x.bl
    clear hb2 s0 s1 s2 s3 p0
    cases hw : wideB S with
    | true =>
      clear hw
      go_wp2_with fail
      refine (knows_any _).mono ?_
      rintro e wk ⟨rfl, hbk⟩
      have BK := Lib.hid (HBW.out.trans (hbk.mono HBW.out.size))
      clear hbk
      go_wp2_with fail
      go_ret
      exact ⟨rfl, BK.out⟩
    | false =>
      have HSL := Lib.hid ((HSI.out.ok hw).next HBS.out.x.bl)
      have HWN := Lib.hid (wide_no hw)
      clear hw
      have HX2 := Lib.hid (HBS.out.next HB2.out)
      have HA2 := Lib.hid (HA.out.next HB2.out)
      have HS2 := Lib.hid (HSL.out.next HB2.out)
      obtain ⟨⟨z1, g0, g1, j0, j1, j2, j3, bl1⟩, z2, p0, s0, s1, s2, s3⟩ := id HX2.out
      clear z1 bl1 z2
      go_wp2_with fail
      refine (many_any D d ls _ (HD.out.next HB2.out) hln).mono ?_
      rintro e w4 ⟨rfl, hb4⟩
      have HB4 := Lib.hid (HB2.out.trans (hb4.mono HB2.out.size))
      have HX4 := Lib.hid (HX2.out.next hb4)
      have HBX := Lib.hid (HX2.out.next hb4).x.bl
      clear hb4 g0 g1 j0 j1 j2 j3 p0 s0 s1 s2 s3 HX2 HA2 HS2 HBW
      cases hm : manyB ls with
      | true =>
        clear hm
        go_wp2_with fail
        refine (knows_any _).mono ?_
        rintro e wk ⟨rfl, hbk⟩
        have BK := Lib.hid (HBX.out.trans (hbk.mono HBX.out.size))
        clear hbk
        go_wp2_with fail
        go_ret
        exact ⟨rfl, BK.out⟩
      | false =>
        obtain ⟨hl20, hl100⟩ := many_no hm
        have HCL := Lib.hid (cat_len hl20 hl100)
        have HA4 := Lib.hid (HA.out.next HB4.out)
        have HS4 := Lib.hid (HSL.out.next HB4.out)
        have HD4 := Lib.hid (HD.out.next HB4.out)
        clear hm hl100 HBX
        have HBD := Lib.hid (show ∀ e ∈ lcatl ls, bd e.2 from fun e he => by
          unfold lcatl at he
          obtain ⟨x, hx, hm⟩ := List.mem_flatMap.1 he
          exact HLB.out x hx e hm)
        obtain ⟨⟨z1, g0, g1, j0, j1, j2, j3, bl1⟩, z2, p0, s0, s1, s2, s3⟩ := id HX4.out
        clear z1 bl1 z2 hln
        go_wp2_with fail
        refine (take_any N A n c es p s l q P S A1 c1 A2 c2 A3 c3 D d ls _ HA4.out hnc hn HS4.out HD4.out (by omega) (by have := HCL.out; omega) HBD.out).mono ?_
        rintro e w6 ⟨hb6, Q, T, Y1, y1, Y2, y2, Y3, y3, rfl, hx, hT, -, -, -⟩
        have hb7 := hb6.trans ((below_alloc w6 (.cells #[.int .i64 Q, .int .i64 T.step, .slice Y1 T.vals.length y1, .slice Y2 T.rest.length y2, .slice Y3 T.inn.length y3] 31)).mono hb6.size)
        have HX7 := Lib.hid (HX4.out.next hb7)
        have HA7 := Lib.hid (HA4.out.next hb7)
        have HS7 := Lib.hid (HS4.out.next hb7)
        have HD7 := Lib.hid (HD4.out.next hb7)
        have HT7 := Lib.hid (hT.next (below_alloc w6 (.cells #[.int .i64 Q, .int .i64 T.step, .slice Y1 T.vals.length y1, .slice Y2 T.rest.length y2, .slice Y3 T.inn.length y3] 31)))
        have HN7 := Lib.hid (show At5 w6.heap.size #[.int .i64 Q, .int .i64 T.step, .slice Y1 T.vals.length y1, .slice Y2 T.rest.length y2, .slice Y3 T.inn.length y3] (w6.alloc (.cells #[.int .i64 Q, .int .i64 T.step, .slice Y1 T.vals.length y1, .slice Y2 T.rest.length y2, .slice Y3 T.inn.length y3] 31)) from heap_alloc_new _ _)
        have HXX := Lib.hid hx
        clear hb6 hb7 hT hx g0 g1 j0 j1 j2 j3 p0 s0 s1 s2 s3 HX4 HA4 HS4 HD4
        go_upto_region 4 with fail
        obtain ⟨ba, hba⟩ : ∃ b, b = w6.heap.size := ⟨_, rfl⟩
        rw [← hba] at HN7 ⊢
        generalize w6.alloc (.cells #[.int .i64 Q, .int .i64 T.step, .slice Y1 T.vals.length y1, .slice Y2 T.rest.length y2, .slice Y3 T.inn.length y3] 31) = w7 at *
        clear hba
        obtain ⟨⟨z1, g0, g1, j0, j1, j2, j3, bl1⟩, z2, p0, s0, s1, s2, s3⟩ := id HX7.out
        clear z1 bl1 z2
        go_wp2_with fail
        refine (rtake_any N A n c es p s l q P S A1 c1 A2 c2 A3 c3 D d ls _ HA7.out hnc hn HS7.out HD7.out (by omega) (by have := HCL.out; omega) HBD.out).mono ?_
        rintro e w8 ⟨hb8, Q', T', Z1, z1, Z2, z2, Z3, z3, rfl, hx, hT⟩
        obtain ⟨rfl, rfl⟩ := mkP_inj (hx.trans HXX.out.symm)
        have hb9 := hb8.trans ((below_alloc w8 (.cells #[.int .i64 Q', .int .i64 T'.step, .slice Z1 T'.vals.length z1, .slice Z2 T'.rest.length z2, .slice Z3 T'.inn.length z3] 31)).mono hb8.size)
        have HX9 := Lib.hid (HX7.out.next hb9)
        have HS9 := Lib.hid (HS7.out.next hb9)
        have HT9 := Lib.hid (HT7.out.next hb9)
        have HN9 := Lib.hid (HN7.out.next hb9)
        have HZ9 := Lib.hid (hT.next (below_alloc w8 (.cells #[.int .i64 Q', .int .i64 T'.step, .slice Z1 T'.vals.length z1, .slice Z2 T'.rest.length z2, .slice Z3 T'.inn.length z3] 31)))
        have HM9 := Lib.hid (show At5 w8.heap.size #[.int .i64 Q', .int .i64 T'.step, .slice Z1 T'.vals.length z1, .slice Z2 T'.rest.length z2, .slice Z3 T'.inn.length z3] (w8.alloc (.cells #[.int .i64 Q', .int .i64 T'.step, .slice Z1 T'.vals.length z1, .slice Z2 T'.rest.length z2, .slice Z3 T'.inn.length z3] 31)) from heap_alloc_new _ _)
        clear hb8 hb9 hT hx g0 g1 j0 j1 j2 j3 p0 s0 s1 s2 s3 HX7 HA7 HS7 HD7 HT7 HN7
        go_upto_region 5 with fail
        obtain ⟨bz, hbz⟩ : ∃ b, b = w8.heap.size := ⟨_, rfl⟩
        rw [← hbz] at HM9 ⊢
        generalize w8.alloc (.cells #[.int .i64 Q', .int .i64 T'.step, .slice Z1 T'.vals.length z1, .slice Z2 T'.rest.length z2, .slice Z3 T'.inn.length z3] 31) = w9 at *
        clear hbz
        have HBX := Lib.hid HX9.out.x.bl
        generalize (takeR N es p s l q (mkP P S) (lcatl ls)).2 = te at *
        have HF := Lib.hid (show ∀ W : World, Below w9.heap.size w9 W → W.cell? ⟨ba, 0, none⟩ = some (.int .i64 Q') ∧ W.cell? ⟨ba, 1, none⟩ = some (.int .i64 T'.step) ∧ W.cell? ⟨ba, 2, none⟩ = some (.slice Y1 T'.vals.length y1) ∧ W.cell? ⟨ba, 3, none⟩ = some (.slice Y2 T'.rest.length y2) ∧ W.cell? ⟨ba, 4, none⟩ = some (.slice Y3 T'.inn.length y3) ∧ W.cell? ⟨bz, 0, none⟩ = some (.int .i64 Q') ∧ W.cell? ⟨bz, 1, none⟩ = some (.int .i64 T'.step) ∧ W.cell? ⟨bz, 2, none⟩ = some (.slice Z1 T'.vals.length z1) ∧ W.cell? ⟨bz, 3, none⟩ = some (.slice Z2 T'.rest.length z2) ∧ W.cell? ⟨bz, 4, none⟩ = some (.slice Z3 T'.inn.length z3) ∧ W.cell? ⟨w.heap.size + 1 + 1, 0, none⟩ = some (.int .i64 P) ∧ W.cell? ⟨w.heap.size + 1 + 1, 1, none⟩ = some (.int .i64 S.step) ∧ W.cell? ⟨w.heap.size + 1 + 1, 2, none⟩ = some (.slice A1 S.vals.length c1) ∧ W.cell? ⟨w.heap.size + 1 + 1, 3, none⟩ = some (.slice A2 S.rest.length c2) ∧ W.cell? ⟨w.heap.size + 1 + 1, 4, none⟩ = some (.slice A3 S.inn.length c3) ∧ Below w9.heap.size w9 W by
          intro W hb
          have h := HX9.out.next hb
          have ha := HN9.out.next hb
          have hz := HM9.out.next hb
          exact ⟨cell_of_row W ba 0 _ 31 (0, 0) ha, cell_of_row W ba 1 _ 31 (0, 0) ha, cell_of_row W ba 2 _ 31 (0, 0) ha, cell_of_row W ba 3 _ 31 (0, 0) ha, cell_of_row W ba 4 _ 31 (0, 0) ha, cell_of_row W bz 0 _ 31 (0, 0) hz, cell_of_row W bz 1 _ 31 (0, 0) hz, cell_of_row W bz 2 _ 31 (0, 0) hz, cell_of_row W bz 3 _ 31 (0, 0) hz, cell_of_row W bz 4 _ 31 (0, 0) hz, h.p0, h.s0, h.s1, h.s2, h.s3, hb⟩)
        have CS := Lib.hid (fun (W : World) (hb : Below w9.heap.size w9 W) => psame_yes Q' T' Y1 y1 Y2 y2 Y3 y3 Z1 z1 Z2 z2 Z3 z3 W (HT9.out.next hb) (HZ9.out.next hb))
        have CQ := Lib.hid (fun (W : World) (hb : Below w9.heap.size w9 W) => pquiet_any P S A1 c1 A2 c2 A3 c3 W (HS9.out.next hb))
        have CR := Lib.hid (fun (W : World) (hb : Below w9.heap.size w9 W) => rpquiet_any P S A1 c1 A2 c2 A3 c3 W (HS9.out.next hb))
        have CK := Lib.hid (fun (W : World) (hb : Below w9.heap.size w9 W) => knows_any W)
        have q0 := HF.out w9.drew (Below.refl _ _).drew
        clear HX9 HT9 HN9 HZ9 HM9 HS9 HXX
        generalize quietB S = qb at CQ CR
        go_region_held3 (fun w' => w'.cell? ⟨ba, 0, none⟩ = some (.int .i64 Q') ∧ w'.cell? ⟨ba, 1, none⟩ = some (.int .i64 T'.step) ∧ w'.cell? ⟨ba, 2, none⟩ = some (.slice Y1 T'.vals.length y1) ∧ w'.cell? ⟨ba, 3, none⟩ = some (.slice Y2 T'.rest.length y2) ∧ w'.cell? ⟨ba, 4, none⟩ = some (.slice Y3 T'.inn.length y3) ∧ w'.cell? ⟨bz, 0, none⟩ = some (.int .i64 Q') ∧ w'.cell? ⟨bz, 1, none⟩ = some (.int .i64 T'.step) ∧ w'.cell? ⟨bz, 2, none⟩ = some (.slice Z1 T'.vals.length z1) ∧ w'.cell? ⟨bz, 3, none⟩ = some (.slice Z2 T'.rest.length z2) ∧ w'.cell? ⟨bz, 4, none⟩ = some (.slice Z3 T'.inn.length z3) ∧ w'.cell? ⟨w.heap.size + 1 + 1, 0, none⟩ = some (.int .i64 P) ∧ w'.cell? ⟨w.heap.size + 1 + 1, 1, none⟩ = some (.int .i64 S.step) ∧ w'.cell? ⟨w.heap.size + 1 + 1, 2, none⟩ = some (.slice A1 S.vals.length c1) ∧ w'.cell? ⟨w.heap.size + 1 + 1, 3, none⟩ = some (.slice A2 S.rest.length c2) ∧ w'.cell? ⟨w.heap.size + 1 + 1, 4, none⟩ = some (.slice A3 S.inn.length c3) ∧ Below w9.heap.size w9 w')
          (first | exact q1 | exact q0)
          (first | ((go_at_call 13); (with_reducible refine (CS.out _ (by first | exact q1.2.2.2.2.2.2.2.2.2.2.2.2.2.2.2 | exact q0.2.2.2.2.2.2.2.2.2.2.2.2.2.2.2)).mono ?_); rintro e w5 ⟨rfl, hb2⟩; have q1 := HF.out w5 (((by first | exact q1.2.2.2.2.2.2.2.2.2.2.2.2.2.2.2 | exact q0.2.2.2.2.2.2.2.2.2.2.2.2.2.2.2) : Below w9.heap.size w9 _).trans (hb2.mono (((by first | exact q1.2.2.2.2.2.2.2.2.2.2.2.2.2.2.2 | exact q0.2.2.2.2.2.2.2.2.2.2.2.2.2.2.2) : Below w9.heap.size w9 _)).size))) | ((go_at_call 18); (with_reducible refine (CQ.out _ (by first | exact q1.2.2.2.2.2.2.2.2.2.2.2.2.2.2.2 | exact q0.2.2.2.2.2.2.2.2.2.2.2.2.2.2.2)).mono ?_); rintro e w5 ⟨rfl, hb2⟩; have q1 := HF.out w5 (((by first | exact q1.2.2.2.2.2.2.2.2.2.2.2.2.2.2.2 | exact q0.2.2.2.2.2.2.2.2.2.2.2.2.2.2.2) : Below w9.heap.size w9 _).trans (hb2.mono (((by first | exact q1.2.2.2.2.2.2.2.2.2.2.2.2.2.2.2 | exact q0.2.2.2.2.2.2.2.2.2.2.2.2.2.2.2) : Below w9.heap.size w9 _)).size))) | ((go_at_call 19); (with_reducible refine (CR.out _ (by first | exact q1.2.2.2.2.2.2.2.2.2.2.2.2.2.2.2 | exact q0.2.2.2.2.2.2.2.2.2.2.2.2.2.2.2)).mono ?_); rintro e w5 ⟨rfl, hb2⟩; have q1 := HF.out w5 (((by first | exact q1.2.2.2.2.2.2.2.2.2.2.2.2.2.2.2 | exact q0.2.2.2.2.2.2.2.2.2.2.2.2.2.2.2) : Below w9.heap.size w9 _).trans (hb2.mono (((by first | exact q1.2.2.2.2.2.2.2.2.2.2.2.2.2.2.2 | exact q0.2.2.2.2.2.2.2.2.2.2.2.2.2.2.2) : Below w9.heap.size w9 _)).size))) | ((go_at_call 10); (with_reducible refine (CK.out _ (by first | exact q1.2.2.2.2.2.2.2.2.2.2.2.2.2.2.2 | exact q0.2.2.2.2.2.2.2.2.2.2.2.2.2.2.2)).mono ?_); rintro e w5 ⟨rfl, hb2⟩; have q1 := HF.out w5 (((by first | exact q1.2.2.2.2.2.2.2.2.2.2.2.2.2.2.2 | exact q0.2.2.2.2.2.2.2.2.2.2.2.2.2.2.2) : Below w9.heap.size w9 _).trans (hb2.mono (((by first | exact q1.2.2.2.2.2.2.2.2.2.2.2.2.2.2.2 | exact q0.2.2.2.2.2.2.2.2.2.2.2.2.2.2.2) : Below w9.heap.size w9 _)).size))))
        go_wp2_with fail
        go_ret
        exact ⟨rfl, HBX.out.trans (q1.2.2.2.2.2.2.2.2.2.2.2.2.2.2.2.mono HBX.out.size)⟩
end Go.Proofs.Ytcaccjfnibjbpaa
