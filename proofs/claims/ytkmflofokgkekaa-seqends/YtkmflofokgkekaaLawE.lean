/-
  The walk of SeqEnds: no run goes on beyond its limit; what is done at a step is done there with any greater limit, too. No condition.
-/
import Derived.Test.YtkmflofokgkekaaSqP
import Derived.Test.YtkmflofokgkekaaWayN
import Derived.Deep.Cut
namespace Go.Proofs.Ytkmflofokgkekaa
open Go.ChangeShapes Go.WideShapes Go.ChangeAt Go.RowKit
set_option linter.unusedVariables false

set_option maxRecDepth 20000 in
set_option maxHeartbeats 4000000 in
theorem ends_walk (N : Int) (A : Option Addr) (n c : Nat) (es : List Ed) (p s l q : Int) (lim : Int) (w : World) (hA : Lies w w.heap.size 3 A n (ec es)) (hnc : n ≤ c) (hn : n ≤ maxLen) :
    Calls Try.prog 7 #[.agg #[.int .i64 N, .slice A n c], .agg #[.int .i64 p, .int .i64 s, .int .i64 l, .int .i64 q], .int .i64 lim] w fun e w' => e = .returned (.bool true) ∧ Below w.heap.size w w' := by
  have mixed : Try.prog.follows .mixedOrders = true := by kernel_rfl
  obtain ⟨w2, hw2⟩ : ∃ w2, w2 = (w.alloc (.cells #[.int .i64 N, .slice A n c] 24)).alloc (.cells #[.int .i64 p, .int .i64 s, .int .i64 l, .int .i64 q] 26) := ⟨_, rfl⟩
  have HBX := Lib.hid (show Bx w N A n c p s l q w2 by rw [hw2]; exact Bx.init w N A n c p s l q)
  have HA := Lib.hid (hA.next HBX.out.bl)
  clear hA
  go_enter Try.func7, Try.ntmps7
  go_wp2_with fail
  rw [← hw2]
  clear hw2
  by_cases hg : 200 < n
  · refine (great_any N A n c _ true (by simpa using hg)).mono ?_
    rintro e w1 ⟨rfl, hb1⟩
    have HB1 := Lib.hid (HBX.out.next hb1).bl
    clear hb1
    go_wp2_with fail
    refine (knows_any _).mono ?_
    rintro e wk ⟨rfl, hbk⟩
    have BK := Lib.hid (HB1.out.trans (hbk.mono HB1.out.size))
    clear hbk
    go_wp2_with fail
    go_ret
    exact ⟨rfl, BK.out⟩
  · refine (great_any N A n c _ false (by simpa using hg)).mono ?_
    rintro e w1 ⟨rfl, hb1⟩
    have HB1 := Lib.hid hb1
    have HX1 := Lib.hid (HBX.out.next hb1)
    clear hb1 hg
    have g0 := HX1.out.g0
    have g1 := HX1.out.g1
    have j0 := HX1.out.j0
    have j1 := HX1.out.j1
    have j2 := HX1.out.j2
    have j3 := HX1.out.j3
    go_wp2_with fail
    refine (run_any N A n c es p s l q _ (HA.out.next HB1.out) hnc hn).mono ?_
    rintro e w5 ⟨hb5, kd, st, vs, Y, y, rfl, hly, _, hny, hans⟩
    have hb5' := hb5.trans ((below_alloc w5 (.cells #[.int .i64 kd, .int .i64 st, .slice Y vs.length y] 45)).mono hb5.size)
    have HB5 := Lib.hid (HB1.out.trans (hb5'.mono HB1.out.size))
    have HL5 := Lib.hid (hly.next (below_alloc w5 (.cells #[.int .i64 kd, .int .i64 st, .slice Y vs.length y] 45)))
    have HN5 := Lib.hid hny
    have HAN := Lib.hid hans
    have HZ5 := Lib.hid (heap_alloc_new w5 (.cells #[.int .i64 kd, .int .i64 st, .slice Y vs.length y] 45))
    clear hb5 hb5' hly hny hans g0 g1 j0 j1 j2 j3
    go_upto_region 4 with fail
    generalize w5.alloc (.cells #[.int .i64 kd, .int .i64 st, .slice Y vs.length y] 45) = W5 at HB5 HL5 HZ5 ⊢
    generalize w5.heap.size = ba at HZ5 ⊢
    have HX5 := Lib.hid (HBX.out.next HB5.out)
    have g0 := HX5.out.g0
    have g1 := HX5.out.g1
    have j0 := HX5.out.j0
    have j1 := HX5.out.j1
    have j2 := HX5.out.j2
    have j3 := HX5.out.j3
    have a0 := cell_of_row W5 ba 0 _ 45 (0, 0) HZ5.out
    have a1 := cell_of_row W5 ba 1 _ 45 (0, 0) HZ5.out
    have a2 := cell_of_row W5 ba 2 _ 45 (0, 0) HZ5.out
    rcases ans_kind HAN.out with ⟨hj, h4⟩ | ⟨hj, h4, hk, hs0, hsl⟩
    · have hj1 : (jchk N es p s l q != 0) = true := by simpa using hj
      subst h4
      have HC := Lib.hid (rjcheck_any N A n c es p s l q W5 (HA.out.next HB5.out) hnc hn)
      generalize jchk N es p s l q = e0 at hj1 HC
      clear hj
      go_wp2_with fail
      refine HC.out.mono ?_
      rintro e w6 ⟨rfl, hb6⟩
      have HB6 := Lib.hid (HX5.out.next hb6).bl
      clear hb6 g0 g1 j0 j1 j2 j3 a0 a1 a2
      go_wp2_with fail
      refine (knows_any _).mono ?_
      rintro e wk ⟨rfl, hbk⟩
      have BK := Lib.hid (HB6.out.trans (hbk.mono HB6.out.size))
      clear hbk
      go_wp2_with fail
      go_ret
      exact ⟨rfl, BK.out⟩
    · have h4' : (kd == 4) = false := by simpa using h4
      have hs1 : ¬ st < 0 := by omega
      have hs2 : ¬ l < st := by omega
      have HJ := Lib.hid hj
      have HK := Lib.hid hk
      have hbk := below_alloc W5 (.cells #[.int .i64 p, .int .i64 s, .int .i64 lim, .int .i64 q] 26)
      have HB6 := Lib.hid (HB5.out.trans (hbk.mono HB5.out.size))
      have C23 := Lib.hid (run_any N A n c es p s lim q (W5.alloc (.cells #[.int .i64 p, .int .i64 s, .int .i64 lim, .int .i64 q] 26)) (HA.out.next HB6.out) hnc hn)
      have HX6 := Lib.hid (HBX.out.next HB6.out)
      have k0 := HX6.out.g0
      have k1 := HX6.out.g1
      clear hj hk h4 hs0 hsl hbk
      go_wp2_with fail
      refine C23.out.mono ?_
      rintro e w7 ⟨hb7, kd2, st2, vs2, Y2, y2, rfl, hly, _, hny, hans⟩
      have hb7' := hb7.trans ((below_alloc w7 (.cells #[.int .i64 kd2, .int .i64 st2, .slice Y2 vs2.length y2] 45)).mono hb7.size)
      have hb57 := (below_alloc W5 (.cells #[.int .i64 p, .int .i64 s, .int .i64 lim, .int .i64 q] 26)).trans (hb7'.mono (by simp))
      have HB7 := Lib.hid (HB5.out.trans (hb57.mono HB5.out.size))
      have HL7 := Lib.hid (HL5.out.next hb57)
      have HZ7 := Lib.hid ((hb57.block _ (lt_of_block HZ5.out)).trans HZ5.out)
      have HM7 := Lib.hid (hly.next (below_alloc w7 (.cells #[.int .i64 kd2, .int .i64 st2, .slice Y2 vs2.length y2] 45)))
      have HN7 := Lib.hid hny
      have HAN2 := Lib.hid hans
      have HY7 := Lib.hid (heap_alloc_new w7 (.cells #[.int .i64 kd2, .int .i64 st2, .slice Y2 vs2.length y2] 45))
      clear hb7 hb7' hb57 hly hny hans g0 g1 j0 j1 j2 j3 a0 a1 a2 HX5 HL5 HZ5 C23 k0 k1 HX6
      go_upto_region 11 with fail
      generalize w7.alloc (.cells #[.int .i64 kd2, .int .i64 st2, .slice Y2 vs2.length y2] 45) = W7 at HB7 HL7 HZ7 HM7 HY7 ⊢
      generalize w7.heap.size = bb at HY7 ⊢
      have HX7 := Lib.hid (HBX.out.next HB7.out)
      have HW7 := Lib.hid HX7.out.bl
      have j2 := HX7.out.j2
      have a0 := cell_of_row W7 ba 0 _ 45 (0, 0) HZ7.out
      have a1 := cell_of_row W7 ba 1 _ 45 (0, 0) HZ7.out
      have a2 := cell_of_row W7 ba 2 _ 45 (0, 0) HZ7.out
      have b0 := cell_of_row W7 bb 0 _ 45 (0, 0) HY7.out
      have b1 := cell_of_row W7 bb 1 _ 45 (0, 0) HY7.out
      have b2 := cell_of_row W7 bb 2 _ 45 (0, 0) HY7.out
      by_cases hl1 : lim < l
      · skip
        go_wp2_with fail
        refine (knows_any _).mono ?_
        rintro e wk ⟨rfl, hbk⟩
        have BK := Lib.hid (HW7.out.trans (hbk.mono HW7.out.size))
        clear hbk
        go_wp2_with fail
        go_ret
        exact ⟨rfl, BK.out⟩
      · by_cases hl2 : 40 < lim
        · skip
          go_wp2_with fail
          refine (knows_any _).mono ?_
          rintro e wk ⟨rfl, hbk⟩
          have BK := Lib.hid (HW7.out.trans (hbk.mono HW7.out.size))
          clear hbk
          go_wp2_with fail
          go_ret
          exact ⟨rfl, BK.out⟩
        · obtain ⟨hE1, hE2⟩ := ends_lim HJ.out (show l ≤ lim by omega) (show lim ≤ 40 by omega) HAN.out HAN2.out
          by_cases h3 : kd = 3
          · have hE := hE1 h3
            subst h3
            have hge : ¬ st2 < st := by omega
            have hgd : decide (st ≤ st2) = true := decide_eq_true hE
            clear hE1 hE2 h4'
            go_wp2_with fail
            refine (knows_any _).mono ?_
            rintro e wk ⟨rfl, hbk⟩
            have BK := Lib.hid (HW7.out.trans (hbk.mono HW7.out.size))
            clear hbk
            go_wp2_with fail
            go_ret
            exact ⟨rfl, BK.out⟩
          · obtain ⟨rfl, rfl, rfl⟩ := hE2 h3
            have h3' : (kd2 == 3) = false := by simpa using h3
            have HC := Lib.hid (sameA_yes kd2 st2 vs2 Y y Y2 y2 W7 HL7.out HM7.out HN7.out)
            clear hE1 hE2 h3 h4'
            go_wp2_with fail
            refine HC.out.mono ?_
            rintro e w8 ⟨rfl, hb8⟩
            have HB8 := Lib.hid (HW7.out.trans (hb8.mono HW7.out.size))
            clear hb8
            go_wp2_with fail
            refine (knows_any _).mono ?_
            rintro e wk ⟨rfl, hbk⟩
            have BK := Lib.hid (HB8.out.trans (hbk.mono HB8.out.size))
            clear hbk
            go_wp2_with fail
            go_ret
            exact ⟨rfl, BK.out⟩

end Go.Proofs.Ytkmflofokgkekaa
