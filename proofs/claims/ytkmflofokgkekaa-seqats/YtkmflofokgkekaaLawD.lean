/-
  The walk of SeqAts: each state of a run is the one that the document says. No condition.
-/
import Derived.Test.YtkmflofokgkekaaSqP
import Derived.Test.YtkmflofokgkekaaSqO
import Derived.Deep.RegionHeld3
import Derived.BigRegion
namespace Go.Proofs.Ytkmflofokgkekaa
open Go.ChangeShapes Go.WideShapes Go.ChangeAt Go.RowKit
set_option linter.unusedVariables false

theorem at_ok {N : Int} {es : List Ed} {p s l q v : Int} {t : St × Int} (h : IsAt N es p s l q v t) (hj : jchk N es p s l q = 0) {k : Nat} {S : St} (hv : v = (k : Nat)) (hS : stAt N es p s l q k = some S) : t = (S, 0) := by
  rcases h with ⟨h, _⟩ | ⟨_, ⟨k', S', hk, hS', ht⟩ | ⟨hn, _⟩⟩
  · exact absurd hj h
  · obtain rfl : k = k' := by omega
    rw [hS] at hS'
    injection hS' with hS'
    rw [ht, hS']
  · exact absurd hv.symm (hn k S hS)
theorem at_no {N : Int} {es : List Ed} {p s l q v : Int} {t : St × Int} (h : IsAt N es p s l q v t) (hj : jchk N es p s l q = 0) (hn : ∀ k S, stAt N es p s l q k = some S → ¬ ((k : Nat) : Int) = v) : t = (noSt, 4) := by
  rcases h with ⟨h, _⟩ | ⟨_, ⟨k', S', hk, hS', ht⟩ | ⟨_, ht⟩⟩
  · exact absurd hj h
  · exact absurd hk.symm (hn k' S' hS')
  · exact ht

set_option maxRecDepth 20000 in
set_option maxHeartbeats 4000000 in
theorem ats_walk (N : Int) (A : Option Addr) (n c : Nat) (es : List Ed) (p s l q : Int) (v : Int) (w : World) (hA : Lies w w.heap.size 3 A n (ec es)) (hnc : n ≤ c) (hn : n ≤ maxLen) :
    Calls Try.prog 6 #[.agg #[.int .i64 N, .slice A n c], .agg #[.int .i64 p, .int .i64 s, .int .i64 l, .int .i64 q], .int .i64 v] w fun e w' => e = .returned (.bool true) ∧ Below w.heap.size w w' := by
  have mixed : Try.prog.follows .mixedOrders = true := by kernel_rfl
  obtain ⟨w2, hw2⟩ : ∃ w2, w2 = (w.alloc (.cells #[.int .i64 N, .slice A n c] 24)).alloc (.cells #[.int .i64 p, .int .i64 s, .int .i64 l, .int .i64 q] 26) := ⟨_, rfl⟩
  have HBX := Lib.hid (show Bx w N A n c p s l q w2 by rw [hw2]; exact Bx.init w N A n c p s l q)
  have HA := Lib.hid (hA.next HBX.out.bl)
  clear hA
  go_enter Try.func6, Try.ntmps6
  go_wp2_with fail
  rw [← hw2]
  clear hw2
  by_cases hg : 200 < n
  · refine (great_any N A n c _ true (by simpa using hg)).mono ?_
    rintro e w1 ⟨rfl, hb1⟩
    have HB1 := Lib.hid (HBX.out.next hb1).bl
    clear hb1
    go_wp2_with fail
    refine (knows_any _).mono ?_
    rintro e wk ⟨rfl, hbk⟩
    have BK := Lib.hid (HB1.out.trans (hbk.mono HB1.out.size))
    clear hbk
    go_wp2_with fail
    go_ret
    exact ⟨rfl, BK.out⟩
  · refine (great_any N A n c _ false (by simpa using hg)).mono ?_
    rintro e w1 ⟨rfl, hb1⟩
    have HB1 := Lib.hid hb1
    have HX1 := Lib.hid (HBX.out.next hb1)
    clear hb1 hg
    have g0 := HX1.out.g0
    have g1 := HX1.out.g1
    have j0 := HX1.out.j0
    have j1 := HX1.out.j1
    have j2 := HX1.out.j2
    have j3 := HX1.out.j3
    go_wp2_with fail
    refine (atn_any N A n c es p s l q v _ (HA.out.next HB1.out) hnc hn).mono ?_
    rintro e w5 ⟨t, ht, hb5, X1, x1, X2, x2, X3, x3, rfl, hs5, f1, f2, f3⟩
    have HIS := Lib.hid ht
    clear ht f1 f2 f3
    obtain ⟨S, e0⟩ := t
    dsimp only at hs5 ⊢
    have hb5' := hb5.trans ((below_alloc w5 (.cells #[.int .i64 S.step, .slice X1 S.vals.length x1, .slice X2 S.rest.length x2, .slice X3 S.inn.length x3] 31)).mono hb5.size)
    have HB5 := Lib.hid (HB1.out.trans (hb5'.mono HB1.out.size))
    have HS5 := Lib.hid (hs5.next (below_alloc w5 (.cells #[.int .i64 S.step, .slice X1 S.vals.length x1, .slice X2 S.rest.length x2, .slice X3 S.inn.length x3] 31)))
    have HZ5 := Lib.hid (heap_alloc_new w5 (.cells #[.int .i64 S.step, .slice X1 S.vals.length x1, .slice X2 S.rest.length x2, .slice X3 S.inn.length x3] 31))
    clear hb5 hb5' hs5 g0 g1 j0 j1 j2 j3
    go_upto_region 4 with fail
    generalize w5.alloc (.cells #[.int .i64 S.step, .slice X1 S.vals.length x1, .slice X2 S.rest.length x2, .slice X3 S.inn.length x3] 31) = W5 at HB5 HS5 HZ5 ⊢
    generalize w5.heap.size = bs at HZ5 ⊢
    have HX5 := Lib.hid (HBX.out.next HB5.out)
    have g0 := HX5.out.g0
    have g1 := HX5.out.g1
    have j0 := HX5.out.j0
    have j1 := HX5.out.j1
    have j2 := HX5.out.j2
    have j3 := HX5.out.j3
    go_wp2_with fail
    refine (rjcheck_any N A n c es p s l q _ (HA.out.next HB5.out) hnc hn).mono ?_
    rintro e w6 ⟨rfl, hb6⟩
    have HB6 := Lib.hid (HB5.out.trans (hb6.mono HB5.out.size))
    have HS6 := Lib.hid (HS5.out.next hb6)
    have HZ6 := Lib.hid ((hb6.block _ (lt_of_block HZ5.out)).trans HZ5.out)
    have HX6 := Lib.hid (HBX.out.next HB6.out)
    have HW6 := Lib.hid HX6.out.bl
    clear hb6 g0 g1 j0 j1 j2 j3 HS5 HZ5 HX5
    by_cases hj : jchk N es p s l q = 0
    · have HJ := Lib.hid hj
      rw [hj]
      clear hj
      have g0 := HX6.out.g0
      have g1 := HX6.out.g1
      have j0 := HX6.out.j0
      have j1 := HX6.out.j1
      have j2 := HX6.out.j2
      have j3 := HX6.out.j3
      go_wp2_with fail
      refine (states_any N A n c es p s l q _ (HA.out.next HB6.out) hnc hn).mono ?_
      rintro e w7 ⟨hb7, hpost⟩
      rcases hpost with ⟨hj', _⟩ | ⟨_, b, g, c', ls, kd, st, vs, Y, y, rfl, hown, hel, hst, hen, _, _, _, _, h41⟩
      · exact absurd HJ.out hj'
      have hb7' := hb7.trans ((below_alloc w7 (.cells #[.int .i64 kd, .int .i64 st, .slice Y vs.length y] 45)).mono hb7.size)
      have HB7 := Lib.hid (HB6.out.trans (hb7'.mono HB6.out.size))
      have HS7 := Lib.hid (HS6.out.next hb7')
      have HZ7 := Lib.hid ((hb7'.block _ (lt_of_block HZ6.out)).trans HZ6.out)
      have HO7 := Lib.hid (own_next hown (below_alloc w7 (.cells #[.int .i64 kd, .int .i64 st, .slice Y vs.length y] 45)))
      have HE7 := Lib.hid (fun e he => (hel e he).next (below_alloc w7 (.cells #[.int .i64 kd, .int .i64 st, .slice Y vs.length y] 45)))
      have HSS := Lib.hid hst
      have HEN := Lib.hid hen
      have H41 := Lib.hid h41
      clear hb7 hb7' hown hel hst hen h41 g0 g1 j0 j1 j2 j3 HS6 HZ6 HX6 HW6
      go_upto_region 8 with fail
      generalize w7.alloc (.cells #[.int .i64 kd, .int .i64 st, .slice Y vs.length y] 45) = w6' at HB7 HS7 HZ7 HO7 HE7 ⊢
      generalize w7.heap.size = ba at ⊢
      have HW7 := Lib.hid (HBX.out.next HB7.out).bl
      have HS6 := HS7
      have HZ6 := HZ7
      by_cases hv0 : v < 0
      · have ht := at_no HIS.out HJ.out (fun k S h => by omega)
        injection ht with h1 h2
        subst h1 h2
        have HC := Lib.hid (same_yes noSt X1 x1 X2 x2 X3 x3 none 0 none 0 none 0 w6' HS6.out (StL.no _ _))
        have b0 := cell_of_row w6' bs 0 _ 31 (0, 0) HZ6.out
        have b1 := cell_of_row w6' bs 1 _ 31 (0, 0) HZ6.out
        have b2 := cell_of_row w6' bs 2 _ 31 (0, 0) HZ6.out
        have b3 := cell_of_row w6' bs 3 _ 31 (0, 0) HZ6.out
        go_wp2_with fail
        refine HC.out.mono ?_
        rintro e w8 ⟨rfl, hb8⟩
        have HB8 := Lib.hid (HW7.out.trans (hb8.mono HW7.out.size))
        clear hb8 b0 b1 b2 b3
        go_wp2_with fail
        refine (knows_any _).mono ?_
        rintro e wk ⟨rfl, hbk⟩
        have BK := Lib.hid (HB8.out.trans (hbk.mono HB8.out.size))
        clear hbk
        go_wp2_with fail
        go_ret
        exact ⟨rfl, BK.out⟩
      · by_cases hvl : (ls.length : Int) ≤ v
        · have ht := at_no HIS.out HJ.out (fun k S h => by
            intro hk
            rw [HEN.out k (by omega)] at h
            cases h)
          injection ht with h1 h2
          subst h1 h2
          have H41' : ls.length ≤ 41 := H41.out
          have HC := Lib.hid (same_yes noSt X1 x1 X2 x2 X3 x3 none 0 none 0 none 0 w6' HS6.out (StL.no _ _))
          have b0 := cell_of_row w6' bs 0 _ 31 (0, 0) HZ6.out
          have b1 := cell_of_row w6' bs 1 _ 31 (0, 0) HZ6.out
          have b2 := cell_of_row w6' bs 2 _ 31 (0, 0) HZ6.out
          have b3 := cell_of_row w6' bs 3 _ 31 (0, 0) HZ6.out
          go_wp2_with fail
          refine HC.out.mono ?_
          rintro e w8 ⟨rfl, hb8⟩
          have HB8 := Lib.hid (HW7.out.trans (hb8.mono HW7.out.size))
          clear hb8 b0 b1 b2 b3
          go_wp2_with fail
          refine (knows_any _).mono ?_
          rintro e wk ⟨rfl, hbk⟩
          have BK := Lib.hid (HB8.out.trans (hbk.mono HB8.out.size))
          clear hbk
          go_wp2_with fail
          go_ret
          exact ⟨rfl, BK.out⟩
        · obtain ⟨m, hm⟩ : ∃ m : Nat, v = m := ⟨v.toNat, by omega⟩
          subst hm
          have hml : m < ls.length := by omega
          have hmI : (m : Int) < (ls.length : Int) := by omega
          have ht := at_ok HIS.out HJ.out rfl (HSS.out m hml)
          injection ht with h1 h2
          subst h2
          obtain ⟨y0, y1, y2, y3⟩ := sc_at ls m hml
          have p0 := (HO7.out.cellAt (m * 4) (by omega)).trans y0
          have p1 := (HO7.out.cellAt (m * 4 + 1) (by omega)).trans y1
          have p2 := (HO7.out.cellAt (m * 4 + 2) (by omega)).trans y2
          have p3 := (HO7.out.cellAt (m * 4 + 3) (by omega)).trans y3
          have HEM := Lib.hid (HE7.out _ (List.getElem_mem hml))
          have hgl := (HO7.out.lt g rfl).2
          clear y0 y1 y2 y3
          obtain ⟨em, hem⟩ : ∃ e, e = ls[m] := ⟨_, rfl⟩
          rw [← hem] at p0 p1 p2 p3 HEM h1
          clear hem
          obtain ⟨S', Z1, z1, Z2, z2, Z3, z3⟩ := em
          dsimp only at p0 p1 p2 p3 HEM h1
          subst h1
          have HP := Lib.hid (show w6'.cell? ⟨g, m * 4, none⟩ = _ ∧ w6'.cell? ⟨g, m * 4 + 1, none⟩ = _ ∧ w6'.cell? ⟨g, m * 4 + 2, none⟩ = _ ∧ w6'.cell? ⟨g, m * 4 + 3, none⟩ = _ from ⟨p0, p1, p2, p3⟩)
          have H41' : ls.length ≤ 41 := H41.out
          clear p0 p1 p2 p3
          have HF := Lib.hid (show ∀ W : World, Below w6'.heap.size w6' W → W.cell? ⟨bs, 0, none⟩ = some (.int .i64 S.step) ∧ W.cell? ⟨bs, 1, none⟩ = some (.slice X1 S.vals.length x1) ∧ W.cell? ⟨bs, 2, none⟩ = some (.slice X2 S.rest.length x2) ∧ W.cell? ⟨bs, 3, none⟩ = some (.slice X3 S.inn.length x3) ∧ W.cell? ⟨g, m * 4, none⟩ = some (.int .i64 S.step) ∧ W.cell? ⟨g, m * 4 + 1, none⟩ = some (.slice Z1 S.vals.length z1) ∧ W.cell? ⟨g, m * 4 + 2, none⟩ = some (.slice Z2 S.rest.length z2) ∧ W.cell? ⟨g, m * 4 + 3, none⟩ = some (.slice Z3 S.inn.length z3) ∧ Below w6'.heap.size w6' W by
            intro W hb
            have hz := (hb.block _ (lt_of_block HZ7.out)).trans HZ7.out
            have kk : ∀ o, W.cell? ⟨g, o, none⟩ = w6'.cell? ⟨g, o, none⟩ := fun o => hb.cell (p := ⟨g, o, none⟩) hgl
            exact ⟨cell_of_row W bs 0 _ 31 (0, 0) hz, cell_of_row W bs 1 _ 31 (0, 0) hz, cell_of_row W bs 2 _ 31 (0, 0) hz, cell_of_row W bs 3 _ 31 (0, 0) hz, (kk _).trans HP.out.1, (kk _).trans HP.out.2.1, (kk _).trans HP.out.2.2.1, (kk _).trans HP.out.2.2.2, hb⟩)
          have q0 := HF.out w6'.drew ((Below.refl _ _).drew)
          clear hvl hv0
          have hv0 : ¬ ((m : Int) < 0) := by omega
          go_wp2_with fail
          go_region_held3 (fun w' => w'.cell? ⟨bs, 0, none⟩ = some (.int .i64 S.step) ∧ w'.cell? ⟨bs, 1, none⟩ = some (.slice X1 S.vals.length x1) ∧ w'.cell? ⟨bs, 2, none⟩ = some (.slice X2 S.rest.length x2) ∧ w'.cell? ⟨bs, 3, none⟩ = some (.slice X3 S.inn.length x3) ∧ w'.cell? ⟨g, m * 4, none⟩ = some (.int .i64 S.step) ∧ w'.cell? ⟨g, m * 4 + 1, none⟩ = some (.slice Z1 S.vals.length z1) ∧ w'.cell? ⟨g, m * 4 + 2, none⟩ = some (.slice Z2 S.rest.length z2) ∧ w'.cell? ⟨g, m * 4 + 3, none⟩ = some (.slice Z3 S.inn.length z3) ∧ Below w6'.heap.size w6' w')
            (first | exact q1 | exact q0)
            (first | ((go_at_call 19); (with_reducible refine (same_yes S X1 x1 X2 x2 X3 x3 Z1 z1 Z2 z2 Z3 z3 _ (HS7.out.next (by first | exact q1.2.2.2.2.2.2.2.2 | exact q0.2.2.2.2.2.2.2.2)) (HEM.out.next (by first | exact q1.2.2.2.2.2.2.2.2 | exact q0.2.2.2.2.2.2.2.2))).mono ?_); rintro e w8 ⟨rfl, hb8⟩; have q1 := HF.out w8 (((by first | exact q1.2.2.2.2.2.2.2.2 | exact q0.2.2.2.2.2.2.2.2) : Below w6'.heap.size w6' _).trans (hb8.mono (((by first | exact q1.2.2.2.2.2.2.2.2 | exact q0.2.2.2.2.2.2.2.2) : Below w6'.heap.size w6' _)).size))) | ((go_at_call 12); (with_reducible refine (knows_any _).mono ?_); rintro e w9 ⟨rfl, hb9⟩; have q1 := HF.out w9 ((q1.2.2.2.2.2.2.2.2).trans (hb9.mono (q1.2.2.2.2.2.2.2.2).size))))
          go_wp2_with fail
          go_ret
          exact ⟨rfl, HW7.out.trans ((q1.2.2.2.2.2.2.2.2).mono HW7.out.size)⟩
    · rcases HIS.out with ⟨_, ht⟩ | ⟨hj', _⟩
      rotate_left
      · exact absurd hj' hj
      injection ht with h1 h2
      subst h1 h2
      have hj1 : (jchk N es p s l q != 0) = true := by simpa using hj
      clear hj
      have HC := Lib.hid (same_yes noSt X1 x1 X2 x2 X3 x3 none 0 none 0 none 0 w6 HS6.out (StL.no _ _))
      have b0 := cell_of_row w6 bs 0 _ 31 (0, 0) HZ6.out
      have b1 := cell_of_row w6 bs 1 _ 31 (0, 0) HZ6.out
      have b2 := cell_of_row w6 bs 2 _ 31 (0, 0) HZ6.out
      have b3 := cell_of_row w6 bs 3 _ 31 (0, 0) HZ6.out
      clear HIS
      generalize jchk N es p s l q = e0 at *
      go_wp2_with fail
      refine HC.out.mono ?_
      rintro e w7 ⟨rfl, hb7⟩
      have HB7 := Lib.hid (HW6.out.trans (hb7.mono HW6.out.size))
      clear hb7 b0 b1 b2 b3
      go_wp2_with fail
      refine (knows_any _).mono ?_
      rintro e wk ⟨rfl, hbk⟩
      have BK := Lib.hid (HB7.out.trans (hbk.mono HB7.out.size))
      clear hbk
      go_wp2_with fail
      go_ret
      exact ⟨rfl, BK.out⟩

end Go.Proofs.Ytkmflofokgkekaa
