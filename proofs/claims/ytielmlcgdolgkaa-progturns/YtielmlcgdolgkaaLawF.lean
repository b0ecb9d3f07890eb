/-
  The walk of ProgTurns. No condition but that the value and what came are numbers of 64 bits.
-/
import Derived.Test.YtielmlcgdolgkaaLawE
import Derived.Test.YtielmlcgdolgkaaRefC
namespace Go.Proofs.Ytielmlcgdolgkaa
open Go.ChangeShapes Go.WideShapes Go.ChangeAt Go.RowKit
set_option linter.unusedVariables false

set_option maxHeartbeats 1000000 in
theorem turns_walk (N : Int) (A : Option Addr) (n c : Nat) (es : List Ed) (p s l q st v val got : Int) (sm : Bool) (w : World) (hA : Lies w w.heap.size 3 A n (ec es)) (hnc : n ≤ c) (hn : n ≤ maxLen) (hvb : bd val) (hgb : bd got) :
    Calls Try.prog 7 #[.agg #[.int .i64 N, .slice A n c], .agg #[.int .i64 p, .int .i64 s, .int .i64 l, .int .i64 q], .agg #[.int .i64 st, .int .i64 v, .int .i64 val, .int .i64 got, .bool sm]] w fun e w' => e = .returned (.bool true) ∧ Below w.heap.size w w' := by
  have HBX := Lib.hid (Bx3.init w N A n c p s l q st v val got sm)
  by_cases h200 : 200 < n
  · skip
    go_enter Try.func7, Try.ntmps7
    go_wp2_with fail
    refine (great_any N A n c _ true (by simpa using h200)).mono ?_
    rintro e w1 ⟨rfl, hb1⟩
    have HX1 := Lib.hid (HBX.out.next hb1)
    clear hb1 HBX
    go_wp2_with fail
    refine (knows_any _).mono ?_
    rintro e wk ⟨rfl, hbk⟩
    have BK := Lib.hid (HX1.out.next hbk).x.bl
    clear hbk
    go_wp2_with fail
    go_ret
    exact ⟨rfl, BK.out⟩
  · have HT := Lib.hid (fun W (h : Bx3 w N A n c p s l q st v val got sm W) => turn_any N A n c es p s l q st v val got sm W (hA.next h.x.bl) hnc hn hvb hgb)
    have HR := Lib.hid (fun W (h : Bx3 w N A n c p s l q st v val got sm W) => rturn_any N A n c es p s l q st v val got sm W (hA.next h.x.bl) hnc hn hvb hgb)
    have HL := Lib.hid (turnR_len N A n c es p s l q st v val got sm)
    generalize turnR N es p s l q st v val got sm = t at *
    obtain ⟨x, ms, rs, er⟩ := t
    go_enter Try.func7, Try.ntmps7
    go_wp2_with fail
    refine (great_any N A n c _ false (by simpa using h200)).mono ?_
    rintro e w1 ⟨rfl, hb1⟩
    have HX1 := Lib.hid (HBX.out.next hb1)
    clear hb1 HBX
    obtain ⟨⟨z1, g0, g1, j0, j1, j2, j3, bl1⟩, z2, a0, a1, a2, a3, a4⟩ := HX1.out
    go_wp2_with fail
    refine (HT.out _ HX1.out).mono ?_
    rintro e w2 ⟨hb2, A2, c2, he, ho2⟩
    subst he
    have HX2 := Lib.hid (HX1.out.next hb2)
    have HO2 := Lib.hid ho2
    clear z1 g0 g1 j0 j1 j2 j3 bl1 z2 a0 a1 a2 a3 a4 hb2 HX1 ho2
    obtain ⟨⟨z1, g0, g1, j0, j1, j2, j3, bl1⟩, z2, a0, a1, a2, a3, a4⟩ := HX2.out
    go_wp2_with fail
    refine (HR.out _ HX2.out).mono ?_
    rintro e w3 ⟨hb3, A3, c3, he, ho3⟩
    subst he
    have HX3 := Lib.hid ((HX2.out.next hb3).next (below_alloc w3 (.cells #[.int .i64 x, .slice A3 ms.length c3, .bool rs, .int .i64 er] 48)))
    have HS := Lib.hid (sameM_yes A2 ms.length c2 A3 c3 ms (w3.alloc (.cells #[.int .i64 x, .slice A3 ms.length c3, .bool rs, .int .i64 er] 48)) (((Lies.of_own HO2.out).next hb3).next (below_alloc _ _)) ((Lies.of_own ho3).next (below_alloc _ _)) HL.out)
    clear z1 g0 g1 j0 j1 j2 j3 bl1 z2 a0 a1 a2 a3 a4 hb3 HX2 ho3 HO2
    go_wp2_with fail
    refine HS.out.mono ?_
    rintro e w4 ⟨rfl, hb4⟩
    have HX4 := Lib.hid (HX3.out.next hb4)
    have hc := heap_alloc_new w3 (.cells #[.int .i64 x, .slice A3 ms.length c3, .bool rs, .int .i64 er] 48)
    have hz : w3.heap.size < (w3.alloc (.cells #[.int .i64 x, .slice A3 ms.length c3, .bool rs, .int .i64 er] 48)).heap.size := by simp
    have hc4 := (hb4.block _ hz).trans hc
    have t2 : w4.cell? ⟨w3.heap.size, 2, none⟩ = some (.bool rs) := cell_of_row w4 w3.heap.size 2 _ 48 (0, 0) hc4
    have t3 : w4.cell? ⟨w3.heap.size, 3, none⟩ = some (.int .i64 er) := cell_of_row w4 w3.heap.size 3 _ 48 (0, 0) hc4
    clear hb4 HX3 hc hz hc4
    go_wp2_with fail
    refine (knows_any _).mono ?_
    rintro e wk ⟨rfl, hbk⟩
    have BK := Lib.hid (HX4.out.next hbk).x.bl
    clear hbk
    go_wp2_with fail
    go_ret
    exact ⟨rfl, BK.out⟩

end Go.Proofs.Ytielmlcgdolgkaa
