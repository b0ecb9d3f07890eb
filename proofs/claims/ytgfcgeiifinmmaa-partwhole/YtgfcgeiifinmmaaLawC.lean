/-
  The walk of PartSplits: a state is parted as the document says. No condition.
-/
import Derived.Test.YtgfcgeiifinmmaaPtN
import Derived.Test.YtgfcgeiifinmmaaPtG
import Derived.BigQuiet
import Derived.BigRegion
namespace Go.Proofs.Ytgfcgeiifinmmaa
open Go.ChangeShapes Go.WideShapes Go.ChangeAt Go.RowKit
set_option linter.unusedVariables false

theorem split_small (N : Int) (es : List Ed) (p s l q : Int) (S : St) : (splitR N es p s l q S).1.length ≤ 100 := by
  unfold splitR
  by_cases hj : jchk N es p s l q = 0
  · have := badJ_not (jchk_zero hj).2
    rw [if_pos hj]
    by_cases hr : rightB N es p s l q S = true
    · rw [if_pos hr]; simp; omega
    · rw [if_neg hr]; simp
  · rw [if_neg hj]; simp
set_option maxRecDepth 20000 in
set_option maxHeartbeats 4000000 in
theorem splits_walk (N : Int) (A : Option Addr) (n c : Nat) (es : List Ed) (p s l q : Int) (S : St) (A1 : Option Addr) (c1 : Nat) (A2 : Option Addr) (c2 : Nat) (A3 : Option Addr) (c3 : Nat) (w : World) (hA : Lies w w.heap.size 3 A n (ec es)) (hnc : n ≤ c) (hn : n ≤ maxLen) (hS : StI w S A1 c1 A2 c2 A3 c3) :
    Calls Try.prog 5 #[.agg #[.int .i64 N, .slice A n c], .agg #[.int .i64 p, .int .i64 s, .int .i64 l, .int .i64 q], .agg #[.int .i64 S.step, .slice A1 S.vals.length c1, .slice A2 S.rest.length c2, .slice A3 S.inn.length c3]] w fun e w' => e = .returned (.bool true) ∧ Below w.heap.size w w' := by
  have mixed : Try.prog.follows .mixedOrders = true := by kernel_rfl
  obtain ⟨w3, hw3⟩ : ∃ w3, w3 = ((w.alloc (.cells #[.int .i64 N, .slice A n c] 24)).alloc (.cells #[.int .i64 p, .int .i64 s, .int .i64 l, .int .i64 q] 26)).alloc (.cells #[.int .i64 S.step, .slice A1 S.vals.length c1, .slice A2 S.rest.length c2, .slice A3 S.inn.length c3] 40) := ⟨_, rfl⟩
  have HBS := Lib.hid (show Bs w N A n c p s l q S A1 c1 A2 c2 A3 c3 w3 by rw [hw3]; exact Bs.init w N A n c p s l q S A1 c1 A2 c2 A3 c3)
  have HA := Lib.hid (hA.next HBS.out.x.bl)
  have HSI := Lib.hid hS
  clear hA hS
  go_enter Try.func5, Try.ntmps5
  go_wp2_with fail
  rw [← hw3]
  clear hw3
  by_cases hg : 200 < n
  · refine (great_any N A n c _ true (by simpa using hg)).mono ?_
    rintro e w1 ⟨rfl, hb1⟩
    have HB1 := Lib.hid (HBS.out.next hb1).x.bl
    clear hb1
    go_wp2_with fail
    refine (knows_any _).mono ?_
    rintro e wk ⟨rfl, hbk⟩
    have BK := Lib.hid (HB1.out.trans (hbk.mono HB1.out.size))
    clear hbk
    go_wp2_with fail
    go_ret
    exact ⟨rfl, BK.out⟩
  · refine (great_any N A n c _ false (by simpa using hg)).mono ?_
    rintro e w1 ⟨rfl, hb1⟩
    have HB0 := Lib.hid hb1
    have hx1 := HBS.out.next hb1
    have s0 := hx1.s0
    have s1 := hx1.s1
    have s2 := hx1.s2
    have s3 := hx1.s3
    clear hb1 hx1
    go_wp2_with fail
    refine (wide_any S A1 c1 A2 c2 A3 c3 _).mono ?_
    rintro e w2 ⟨rfl, hb2⟩
    have HB2 := Lib.hid (HB0.out.trans (hb2.mono HB0.out.size))
    have HBW := Lib.hid (HBS.out.next HB2.out).x.bl
    clear hb2 s0 s1 s2 s3
    cases hw : wideB S with
    | true =>
      clear hw
      go_wp2_with fail
      refine (knows_any _).mono ?_
      rintro e wk ⟨rfl, hbk⟩
      have BK := Lib.hid (HBW.out.trans (hbk.mono HBW.out.size))
      clear hbk
      go_wp2_with fail
      go_ret
      exact ⟨rfl, BK.out⟩
    | false =>
      have HSL := Lib.hid ((HSI.out.ok hw).next HBS.out.x.bl)
      clear hw
      have HX2 := Lib.hid (HBS.out.next HB2.out)
      have HA2 := Lib.hid (HA.out.next HB2.out)
      have HS2 := Lib.hid (HSL.out.next HB2.out)
      obtain ⟨⟨z1, g0, g1, j0, j1, j2, j3, bl1⟩, z2, s0, s1, s2, s3⟩ := id HX2.out
      clear z1 bl1 z2
      go_wp2_with fail
      refine (split_any N A n c es p s l q S A1 c1 A2 c2 A3 c3 _ HA2.out hnc hn HS2.out).mono ?_
      rintro e w5 ⟨hb5, D, d, ls, rfl, hP, hx⟩
      have HX5 := Lib.hid (HX2.out.next hb5)
      have HA5 := Lib.hid (HA2.out.next hb5)
      have HS5 := Lib.hid (HS2.out.next hb5)
      have HP5 := Lib.hid hP
      have HE5 := Lib.hid hx
      clear hb5 hP hx g0 g1 j0 j1 j2 j3 s0 s1 s2 s3 HX2 HA2 HS2
      obtain ⟨⟨z1, g0, g1, j0, j1, j2, j3, bl1⟩, z2, s0, s1, s2, s3⟩ := id HX5.out
      clear z1 bl1 z2
      go_wp2_with fail
      refine (rsplit_any N A n c es p s l q S A1 c1 A2 c2 A3 c3 _ HA5.out hnc hn HS5.out).mono ?_
      rintro e w6 ⟨hb6, D', d', ls', rfl, hP', hx'⟩
      have HX6 := Lib.hid (HX5.out.next hb6)
      have HP6 := Lib.hid (HP5.out.next hb6)
      have HP6' := Lib.hid hP'
      have HEQ := Lib.hid (HE5.out.trans hx'.symm)
      have HSM := Lib.hid (show ls.length ≤ 100 by have := split_small N es p s l q S; rw [← HE5.out, List.length_map] at this; exact this)
      clear hb6 hP' hx' g0 g1 j0 j1 j2 j3 s0 s1 s2 s3 HX5 HA5 HS5 HP5
      generalize (splitR N es p s l q S).2 = er at *
      go_wp2_with fail
      refine (sameAll_yes D d ls D' d' ls' _ HP6.out HP6'.out HEQ.out HSM.out).mono ?_
      rintro e w7 ⟨rfl, hb7⟩
      have HB7 := Lib.hid (HX6.out.next hb7).x.bl
      clear hb7
      go_wp2_with fail
      refine (knows_any _).mono ?_
      rintro e wk ⟨rfl, hbk⟩
      have BK := Lib.hid (HB7.out.trans (hbk.mono HB7.out.size))
      clear hbk
      go_wp2_with fail
      go_ret
      exact ⟨rfl, BK.out⟩
end Go.Proofs.Ytgfcgeiifinmmaa
