/-
  The walk of PartJoins: partitions are joined as the document says. No condition.
-/
import Derived.Test.YtgfcgeiifinmmaaPtN
import Derived.Test.YtgfcgeiifinmmaaPtL
import Derived.Test.YtgfcgeiifinmmaaDoorP
import Derived.BigQuiet
import Derived.BigRegion
namespace Go.Proofs.Ytgfcgeiifinmmaa
open Go.ChangeShapes Go.WideShapes Go.ChangeAt Go.RowKit
set_option linter.unusedVariables false

def LdRel (ls : List Pe) (w3 : World) (i : Value) (W : World) : Prop := ∃ k : Nat, i = .int .i64 k ∧ k ≤ ls.length ∧ Hid (∀ (j : Nat) (h : j < ls.length), j < k → wideB ls[j].S = false) ∧ Below w3.heap.size w3 W
set_option maxRecDepth 20000 in
set_option maxHeartbeats 4000000 in
theorem joins_walk (N : Int) (A : Option Addr) (n c : Nat) (es : List Ed) (p s l q : Int) (D : Option Addr) (d : Nat) (ls : List Pe) (w : World) (hA : Lies w w.heap.size 3 A n (ec es)) (hnc : n ≤ c) (hn : n ≤ maxLen) (hL : PlI w D d ls) :
    Calls Try.prog 6 #[.agg #[.int .i64 N, .slice A n c], .agg #[.int .i64 p, .int .i64 s, .int .i64 l, .int .i64 q], .slice D ls.length d] w fun e w' => e = .returned (.bool true) ∧ Below w.heap.size w w' := by
  have mixed : Try.prog.follows .mixedOrders = true := by kernel_rfl
  obtain ⟨w3, hw3⟩ : ∃ w3, w3 = (w.alloc (.cells #[.int .i64 N, .slice A n c] 24)).alloc (.cells #[.int .i64 p, .int .i64 s, .int .i64 l, .int .i64 q] 26) := ⟨_, rfl⟩
  have HBS := Lib.hid (show Bx w N A n c p s l q w3 by rw [hw3]; exact Bx.init w N A n c p s l q)
  have HA := Lib.hid (hA.next HBS.out.bl)
  have HLL := Lib.hid (hL.L.next HBS.out.bl)
  have HPI := Lib.hid hL
  have hml := hL.ml
  unfold maxLen at hml
  obtain ⟨T, er, hTE⟩ : ∃ T er, joinR N es p s l q (ls.map Pe.x) = (T, er) := ⟨_, _, rfl⟩
  have HTE := Lib.hid hTE
  clear hA hL hTE
  go_enter Try.func6, Try.ntmps6
  go_wp2_with fail
  rw [← hw3]
  clear hw3
  by_cases hg : 200 < n
  · refine (great_any N A n c _ true (by simpa using hg)).mono ?_
    rintro e w1 ⟨rfl, hb1⟩
    have HB1 := Lib.hid (HBS.out.next hb1).bl
    clear hb1
    go_wp2_with fail
    refine (knows_any _).mono ?_
    rintro e wk ⟨rfl, hbk⟩
    have BK := Lib.hid (HB1.out.trans (hbk.mono HB1.out.size))
    clear hbk
    go_wp2_with fail
    go_ret
    exact ⟨rfl, BK.out⟩
  · refine (great_any N A n c _ false (by simpa using hg)).mono ?_
    rintro e w1 ⟨rfl, hb1⟩
    have HB0 := Lib.hid hb1
    have HB1 := Lib.hid (HBS.out.next hb1).bl
    clear hb1
    by_cases hl : 20 < ls.length
    · have hl' : (20 : Int) < (ls.length : Int) := by omega
      go_wp2_with fail
      refine (knows_any _).mono ?_
      rintro e wk ⟨rfl, hbk⟩
      have BK := Lib.hid (HB1.out.trans (hbk.mono HB1.out.size))
      clear hbk
      go_wp2_with fail
      go_ret
      exact ⟨rfl, BK.out⟩
    · have hl' : ¬ (20 : Int) < (ls.length : Int) := by omega
      go_wp2_with fail
      go_loopw [7] (fun i W => LdRel ls w3 i W) (fun i W => ls.length - (intOf i).toNat)
      case atStart => exact ⟨0, rfl, Nat.zero_le _, Lib.hid (fun j _ hj => absurd hj (Nat.not_lt_zero _)), HB0.out⟩
      case round =>
        obtain ⟨k, rfl, hk, HG, hb⟩ := hrel
        have HB := Lib.hid hb
        have HBL := Lib.hid (HBS.out.next hb).bl
        by_cases hlt : k < ls.length
        · have hkl : (k : Int) < (ls.length : Int) := by omega
          obtain ⟨ad, rfl, k1, x0, x1, x2, x3, x4⟩ := (HLL.out.next hb).pe k hlt
          have HGN := Lib.hid (show wideB ls[k].S = false → ∀ (j : Nat) (h : j < ls.length), j < k + 1 → wideB ls[j].S = false from fun hf j h hj => by
            rcases Nat.lt_succ_iff_lt_or_eq.1 hj with h1 | h1
            · exact HG.out j h h1
            · subst h1; exact hf)
          clear k1 hb
          generalize ls[k].P = P at *
          generalize ls[k].S = S at *
          generalize ls[k].A1 = A1 at *
          generalize ls[k].A2 = A2 at *
          generalize ls[k].A3 = A3 at *
          generalize ls[k].c1 = c1 at *
          generalize ls[k].c2 = c2 at *
          generalize ls[k].c3 = c3 at *
          go_wp2_with fail
          refine (broad_any P S A1 c1 A2 c2 A3 c3 _).mono ?_
          rintro e w5 ⟨rfl, hb5⟩
          have HB5 := Lib.hid (HB.out.trans (hb5.mono HB.out.size))
          have HBW := Lib.hid (HBS.out.next HB5.out).bl
          clear hb5 x0 x1 x2 x3 x4
          cases hw : wideB S with
          | true =>
            clear hw
            go_wp2_with fail
            refine (knows_any _).mono ?_
            rintro e wk ⟨rfl, hbk⟩
            have BK := Lib.hid (HBW.out.trans (hbk.mono HBW.out.size))
            clear hbk
            go_wp2_with fail
            go_ret
            exact ⟨rfl, BK.out⟩
          | false =>
            have HGK := Lib.hid (HGN.out hw)
            clear hw
            go_wp2_with fail
            go_roundw
            case rel => exact ⟨k + 1, by go_num, by omega, HGK, HB5.out⟩
            case measure => simp [intOf]; omega
        · have hk' : k = ls.length := by omega
          subst hk'
          have HPL := Lib.hid (show Pls wr wr.heap.size D d ls from ⟨HLL.out.next hb, HPI.out.cc, fun e he => by
            obtain ⟨j, hj, rfl⟩ := List.getElem_of_mem he
            exact ((StI.ok (HPI.out.el _ (List.getElem_mem hj)) (HG.out j hj hj)).next HBS.out.bl).next hb⟩)
          have HX := Lib.hid (HBS.out.next hb)
          have HAW := Lib.hid (HA.out.next hb)
          obtain ⟨z1, g0, g1, j0, j1, j2, j3, bl1⟩ := id HX.out
          clear z1 bl1 hb HB HBL
          go_wp2_with fail
          refine (join_any N A n c es p s l q D d ls _ HAW.out hnc hn HPL.out).mono ?_
          rw [HTE.out]
          rintro e w5 ⟨hb5, T1, t1, T2, t2, T3, t3, rfl, hT, f1, f2, f3⟩
          have hb6 := hb5.trans ((below_alloc w5 (.cells #[.int .i64 T.step, .slice T1 T.vals.length t1, .slice T2 T.rest.length t2, .slice T3 T.inn.length t3] 40)).mono hb5.size)
          have HX6 := Lib.hid (HX.out.next hb6)
          have HA6 := Lib.hid (HAW.out.next hb6)
          have HP6 := Lib.hid (HPL.out.next hb6)
          have HT6 := Lib.hid (hT.next (below_alloc w5 (.cells #[.int .i64 T.step, .slice T1 T.vals.length t1, .slice T2 T.rest.length t2, .slice T3 T.inn.length t3] 40)))
          have HZ6 := Lib.hid (heap_alloc_new w5 (.cells #[.int .i64 T.step, .slice T1 T.vals.length t1, .slice T2 T.rest.length t2, .slice T3 T.inn.length t3] 40))
          clear hb5 hb6 hT f1 f2 f3 g0 g1 j0 j1 j2 j3 HX HAW HPL
          go_upto_region 9 with fail
          generalize w5.alloc (.cells #[.int .i64 T.step, .slice T1 T.vals.length t1, .slice T2 T.rest.length t2, .slice T3 T.inn.length t3] 40) = W6 at *
          generalize w5.heap.size = ba at *
          obtain ⟨z1, g0, g1, j0, j1, j2, j3, bl1⟩ := id HX6.out
          clear z1 bl1
          go_wp2_with fail
          refine (rjoin_any N A n c es p s l q D d ls _ HA6.out hnc hn HP6.out).mono ?_
          rw [HTE.out]
          rintro e w7 ⟨hb7, U1, u1, U2, u2, U3, u3, rfl, hU, f1, f2, f3⟩
          have hb8 := hb7.trans ((below_alloc w7 (.cells #[.int .i64 T.step, .slice U1 T.vals.length u1, .slice U2 T.rest.length u2, .slice U3 T.inn.length u3] 40)).mono hb7.size)
          have HX8 := Lib.hid (HX6.out.next hb8)
          have HT8 := Lib.hid (HT6.out.next hb8)
          have HZ8 := Lib.hid ((hb8.block _ (lt_of_block HZ6.out)).trans HZ6.out)
          have HU8 := Lib.hid (hU.next (below_alloc w7 (.cells #[.int .i64 T.step, .slice U1 T.vals.length u1, .slice U2 T.rest.length u2, .slice U3 T.inn.length u3] 40)))
          have HY8 := Lib.hid (heap_alloc_new w7 (.cells #[.int .i64 T.step, .slice U1 T.vals.length u1, .slice U2 T.rest.length u2, .slice U3 T.inn.length u3] 40))
          clear hb7 hb8 hU f1 f2 f3 g0 g1 j0 j1 j2 j3 HX6 HA6 HP6 HT6 HZ6
          go_upto_region 10 with fail
          generalize w7.alloc (.cells #[.int .i64 T.step, .slice U1 T.vals.length u1, .slice U2 T.rest.length u2, .slice U3 T.inn.length u3] 40) = W8 at *
          generalize w7.heap.size = bb at *
          have a0 : W8.cell? ⟨ba, 0, none⟩ = some (.int .i64 T.step) := cell_of_row W8 ba 0 _ 40 (0, 0) HZ8.out
          have a1 : W8.cell? ⟨ba, 1, none⟩ = some (.slice T1 T.vals.length t1) := cell_of_row W8 ba 1 _ 40 (0, 0) HZ8.out
          have a2 : W8.cell? ⟨ba, 2, none⟩ = some (.slice T2 T.rest.length t2) := cell_of_row W8 ba 2 _ 40 (0, 0) HZ8.out
          have a3 : W8.cell? ⟨ba, 3, none⟩ = some (.slice T3 T.inn.length t3) := cell_of_row W8 ba 3 _ 40 (0, 0) HZ8.out
          have b0 : W8.cell? ⟨bb, 0, none⟩ = some (.int .i64 T.step) := cell_of_row W8 bb 0 _ 40 (0, 0) HY8.out
          have b1 : W8.cell? ⟨bb, 1, none⟩ = some (.slice U1 T.vals.length u1) := cell_of_row W8 bb 1 _ 40 (0, 0) HY8.out
          have b2 : W8.cell? ⟨bb, 2, none⟩ = some (.slice U2 T.rest.length u2) := cell_of_row W8 bb 2 _ 40 (0, 0) HY8.out
          have b3 : W8.cell? ⟨bb, 3, none⟩ = some (.slice U3 T.inn.length u3) := cell_of_row W8 bb 3 _ 40 (0, 0) HY8.out
          go_wp2_with fail
          refine (same_yes T T1 t1 T2 t2 T3 t3 U1 u1 U2 u2 U3 u3 _ HT8.out HU8.out).mono ?_
          rintro e w9 ⟨rfl, hb9⟩
          have HB9 := Lib.hid (HX8.out.next hb9).bl
          clear hb9 a0 a1 a2 a3 b0 b1 b2 b3
          go_wp2_with fail
          refine (knows_any _).mono ?_
          rintro e wk ⟨rfl, hbk⟩
          have BK := Lib.hid (HB9.out.trans (hbk.mono HB9.out.size))
          clear hbk
          go_wp2_with fail
          go_ret
          exact ⟨rfl, BK.out⟩
end Go.Proofs.Ytgfcgeiifinmmaa
