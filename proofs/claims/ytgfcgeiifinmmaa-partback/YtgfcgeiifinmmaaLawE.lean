/-
  The walk of PartBack: parted and joined a state is what it was. No condition.
-/
import Derived.Test.YtgfcgeiifinmmaaPtN
import Derived.Test.YtgfcgeiifinmmaaPtG
import Derived.Test.YtgfcgeiifinmmaaLawC
import Derived.BigQuiet
import Derived.BigRegion
namespace Go.Proofs.Ytgfcgeiifinmmaa
open Go.ChangeShapes Go.WideShapes Go.ChangeAt Go.RowKit
set_option linter.unusedVariables false

theorem join_of_split {N : Int} {es : List Ed} {p s l q : Int} {S : St} (h : rightB N es p s l q S = true) : joinR N es p s l q ((List.range q.toNat).map (cutP N.toNat q.toNat S)) = (S, 0) := by
  have hj := (right_of h).1
  have hb := badJ_not (jchk_zero hj).2
  have hB : joinB N es p s l q ((List.range q.toNat).map (cutP N.toNat q.toNat S)) = true := by
    refine join_good (by simp; omega) (fun k hk => ?_)
    have hk' : k < q.toNat := by simpa using hk
    unfold goodB
    rw [split_len N es p s l q S k hk', split_len N es p s l q S 0 (by omega), cut_right h k hk']
    simp [cutP]
  unfold joinR
  rw [if_pos hj, if_pos hB, join_split h]
set_option maxRecDepth 20000 in
set_option maxHeartbeats 4000000 in
theorem back_walk (N : Int) (A : Option Addr) (n c : Nat) (es : List Ed) (p s l q : Int) (S : St) (A1 : Option Addr) (c1 : Nat) (A2 : Option Addr) (c2 : Nat) (A3 : Option Addr) (c3 : Nat) (w : World) (hA : Lies w w.heap.size 3 A n (ec es)) (hnc : n ≤ c) (hn : n ≤ maxLen) (hS : StI w S A1 c1 A2 c2 A3 c3) :
    Calls Try.prog 7 #[.agg #[.int .i64 N, .slice A n c], .agg #[.int .i64 p, .int .i64 s, .int .i64 l, .int .i64 q], .agg #[.int .i64 S.step, .slice A1 S.vals.length c1, .slice A2 S.rest.length c2, .slice A3 S.inn.length c3]] w fun e w' => e = .returned (.bool true) ∧ Below w.heap.size w w' := by
  have mixed : Try.prog.follows .mixedOrders = true := by kernel_rfl
  obtain ⟨w3, hw3⟩ : ∃ w3, w3 = ((w.alloc (.cells #[.int .i64 N, .slice A n c] 24)).alloc (.cells #[.int .i64 p, .int .i64 s, .int .i64 l, .int .i64 q] 26)).alloc (.cells #[.int .i64 S.step, .slice A1 S.vals.length c1, .slice A2 S.rest.length c2, .slice A3 S.inn.length c3] 40) := ⟨_, rfl⟩
  have HBS := Lib.hid (show Bs w N A n c p s l q S A1 c1 A2 c2 A3 c3 w3 by rw [hw3]; exact Bs.init w N A n c p s l q S A1 c1 A2 c2 A3 c3)
  have HA := Lib.hid (hA.next HBS.out.x.bl)
  have HSI := Lib.hid hS
  clear hA hS
  go_enter Try.func7, Try.ntmps7
  go_wp2_with fail
  rw [← hw3]
  clear hw3
  by_cases hg : 200 < n
  · refine (great_any N A n c _ true (by simpa using hg)).mono ?_
    rintro e w1 ⟨rfl, hb1⟩
    have HB1 := Lib.hid (HBS.out.next hb1).x.bl
    clear hb1
    go_wp2_with fail
    refine (knows_any _).mono ?_
    rintro e wk ⟨rfl, hbk⟩
    have BK := Lib.hid (HB1.out.trans (hbk.mono HB1.out.size))
    clear hbk
    go_wp2_with fail
    go_ret
    exact ⟨rfl, BK.out⟩
  · refine (great_any N A n c _ false (by simpa using hg)).mono ?_
    rintro e w1 ⟨rfl, hb1⟩
    have HB0 := Lib.hid hb1
    have hx1 := HBS.out.next hb1
    have s0 := hx1.s0
    have s1 := hx1.s1
    have s2 := hx1.s2
    have s3 := hx1.s3
    clear hb1 hx1
    go_wp2_with fail
    refine (wide_any S A1 c1 A2 c2 A3 c3 _).mono ?_
    rintro e w2 ⟨rfl, hb2⟩
    have HB2 := Lib.hid (HB0.out.trans (hb2.mono HB0.out.size))
    have HBW := Lib.hid (HBS.out.next HB2.out).x.bl
    clear hb2 s0 s1 s2 s3
    cases hw : wideB S with
    | true =>
      clear hw
      go_wp2_with fail
      refine (knows_any _).mono ?_
      rintro e wk ⟨rfl, hbk⟩
      have BK := Lib.hid (HBW.out.trans (hbk.mono HBW.out.size))
      clear hbk
      go_wp2_with fail
      go_ret
      exact ⟨rfl, BK.out⟩
    | false =>
      have HSL := Lib.hid ((HSI.out.ok hw).next HBS.out.x.bl)
      clear hw
      have HX2 := Lib.hid (HBS.out.next HB2.out)
      have HA2 := Lib.hid (HA.out.next HB2.out)
      have HS2 := Lib.hid (HSL.out.next HB2.out)
      obtain ⟨⟨z1, g0, g1, j0, j1, j2, j3, bl1⟩, z2, s0, s1, s2, s3⟩ := id HX2.out
      clear z1 bl1 z2
      go_wp2_with fail
      refine (split_any N A n c es p s l q S A1 c1 A2 c2 A3 c3 _ HA2.out hnc hn HS2.out).mono ?_
      rintro e w5 ⟨hb5, D, d, ls, rfl, hP, hx⟩
      have HX5 := Lib.hid (HX2.out.next hb5)
      have HA5 := Lib.hid (HA2.out.next hb5)
      have HS5 := Lib.hid (HS2.out.next hb5)
      have HP5 := Lib.hid hP
      clear hb5 hP g0 g1 j0 j1 j2 j3 s0 s1 s2 s3 HX2 HA2 HS2
      obtain ⟨⟨z1, g0, g1, j0, j1, j2, j3, bl1⟩, z2, s0, s1, s2, s3⟩ := id HX5.out
      clear z1 bl1 z2
      by_cases hr : rightB N es p s l q S = true
      · have HR := Lib.hid hr
        have HSP := Lib.hid (show splitR N es p s l q S = ((List.range q.toNat).map (cutP N.toNat q.toNat S), 0) by unfold splitR; rw [if_pos (right_of hr).1, if_pos hr])
        have HJO := Lib.hid (join_of_split hr)
        have HSM := Lib.hid (show ls.length ≤ 100 by have := split_small N es p s l q S; rw [← hx, List.length_map] at this; exact this)
        rw [HSP.out] at hx
        have HE5 := Lib.hid hx
        rw [HSP.out]
        clear hr hx
        go_wp2_with fail
        refine (join_any N A n c es p s l q D d ls _ HA5.out hnc hn HP5.out).mono ?_
        rw [HE5.out, HJO.out]
        rintro e w6 ⟨hb6, T1, t1, T2, t2, T3, t3, rfl, hT, f1, f2, f3⟩
        have hb7 := hb6.trans ((below_alloc w6 (.cells #[.int .i64 S.step, .slice T1 S.vals.length t1, .slice T2 S.rest.length t2, .slice T3 S.inn.length t3] 40)).mono hb6.size)
        have HX7 := Lib.hid (HX5.out.next hb7)
        have HA7 := Lib.hid (HA5.out.next hb7)
        have HS7 := Lib.hid (HS5.out.next hb7)
        have HP7 := Lib.hid (HP5.out.next hb7)
        have HT7 := Lib.hid (hT.next (below_alloc w6 (.cells #[.int .i64 S.step, .slice T1 S.vals.length t1, .slice T2 S.rest.length t2, .slice T3 S.inn.length t3] 40)))
        have HZ7 := Lib.hid (heap_alloc_new w6 (.cells #[.int .i64 S.step, .slice T1 S.vals.length t1, .slice T2 S.rest.length t2, .slice T3 S.inn.length t3] 40))
        clear hb6 hb7 hT f1 f2 f3 g0 g1 j0 j1 j2 j3 s0 s1 s2 s3 HX5 HA5 HS5 HP5
        go_upto_region 7 with fail
        generalize w6.alloc (.cells #[.int .i64 S.step, .slice T1 S.vals.length t1, .slice T2 S.rest.length t2, .slice T3 S.inn.length t3] 40) = W7 at *
        generalize w6.heap.size = bt at *
        obtain ⟨⟨z1, g0, g1, j0, j1, j2, j3, bl1⟩, z2, s0, s1, s2, s3⟩ := id HX7.out
        have t0 : W7.cell? ⟨bt, 0, none⟩ = some (.int .i64 S.step) := cell_of_row W7 bt 0 _ 40 (0, 0) HZ7.out
        have t1' : W7.cell? ⟨bt, 1, none⟩ = some (.slice T1 S.vals.length t1) := cell_of_row W7 bt 1 _ 40 (0, 0) HZ7.out
        have t2' : W7.cell? ⟨bt, 2, none⟩ = some (.slice T2 S.rest.length t2) := cell_of_row W7 bt 2 _ 40 (0, 0) HZ7.out
        have t3' : W7.cell? ⟨bt, 3, none⟩ = some (.slice T3 S.inn.length t3) := cell_of_row W7 bt 3 _ 40 (0, 0) HZ7.out
        clear z1 bl1 z2
        go_wp2_with fail
        refine (split_any N A n c es p s l q S T1 t1 T2 t2 T3 t3 _ HA7.out hnc hn HT7.out).mono ?_
        rw [HSP.out]
        rintro e w8 ⟨hb8, D', d', ls', rfl, hP', hx'⟩
        have HX8 := Lib.hid (HX7.out.next hb8)
        have HS8 := Lib.hid (HS7.out.next hb8)
        have HP8 := Lib.hid (HP7.out.next hb8)
        have HP8' := Lib.hid hP'
        have HT8 := Lib.hid (HT7.out.next hb8)
        have HZ8 := Lib.hid ((hb8.block _ (lt_of_block HZ7.out)).trans HZ7.out)
        have HEQ := Lib.hid (HE5.out.trans hx'.symm)
        clear hb8 hP' hx' g0 g1 j0 j1 j2 j3 s0 s1 s2 s3 t0 t1' t2' t3' HX7 HA7 HS7 HP7 HT7 HZ7
        obtain ⟨⟨z1, g0, g1, j0, j1, j2, j3, bl1⟩, z2, s0, s1, s2, s3⟩ := id HX8.out
        have t0 : w8.cell? ⟨bt, 0, none⟩ = some (.int .i64 S.step) := cell_of_row w8 bt 0 _ 40 (0, 0) HZ8.out
        have t1' : w8.cell? ⟨bt, 1, none⟩ = some (.slice T1 S.vals.length t1) := cell_of_row w8 bt 1 _ 40 (0, 0) HZ8.out
        have t2' : w8.cell? ⟨bt, 2, none⟩ = some (.slice T2 S.rest.length t2) := cell_of_row w8 bt 2 _ 40 (0, 0) HZ8.out
        have t3' : w8.cell? ⟨bt, 3, none⟩ = some (.slice T3 S.inn.length t3) := cell_of_row w8 bt 3 _ 40 (0, 0) HZ8.out
        clear z1 bl1 z2 g0 g1 j0 j1 j2 j3
        go_wp2_with fail
        refine (same_yes S A1 c1 A2 c2 A3 c3 T1 t1 T2 t2 T3 t3 _ HS8.out HT8.out).mono ?_
        rintro e w9 ⟨rfl, hb9⟩
        have HX9 := Lib.hid (HX8.out.next hb9)
        have HP9 := Lib.hid (HP8.out.next hb9)
        have HP9' := Lib.hid (HP8'.out.next hb9)
        clear hb9 s0 s1 s2 s3 t0 t1' t2' t3'
        go_wp2_with fail
        refine (sameAll_yes D d ls D' d' ls' _ HP9.out HP9'.out HEQ.out HSM.out).mono ?_
        rintro e w10 ⟨rfl, hb10⟩
        have HB10 := Lib.hid (HX9.out.next hb10).x.bl
        clear hb10
        go_wp2_with fail
        refine (knows_any _).mono ?_
        rintro e wk ⟨rfl, hbk⟩
        have BK := Lib.hid (HB10.out.trans (hbk.mono HB10.out.size))
        clear hbk
        go_wp2_with fail
        go_ret
        exact ⟨rfl, BK.out⟩
      · have hr' : rightB N es p s l q S = false := by simpa using hr
        obtain ⟨er, her, hsp⟩ : ∃ er, er ≠ 0 ∧ splitR N es p s l q S = ([], er) := by
          by_cases hj : jchk N es p s l q = 0
          · exact ⟨1, by decide, by unfold splitR; rw [if_pos hj, if_neg hr]⟩
          · exact ⟨_, hj, by unfold splitR; rw [if_neg hj]⟩
        rw [hsp] at hx
        have hls : ls = [] := by simpa using hx
        subst hls
        have her' : (er != 0) = true := by simpa using her
        rw [hsp]
        have HRF := Lib.hid hr'
        clear hr hr' hsp her hx
        go_wp2_with fail
        refine (rright_any N A n c es p s l q S A1 c1 A2 c2 A3 c3 _ HA5.out hnc hn HS5.out).mono ?_
        rw [HRF.out]
        rintro e w6 ⟨rfl, hb6⟩
        have HB6 := Lib.hid (HX5.out.next hb6).x.bl
        clear hb6 g0 g1 j0 j1 j2 j3 s0 s1 s2 s3
        go_wp2_with fail
        refine (knows_any _).mono ?_
        rintro e wk ⟨rfl, hbk⟩
        have BK := Lib.hid (HB6.out.trans (hbk.mono HB6.out.size))
        clear hbk
        go_wp2_with fail
        go_ret
        exact ⟨rfl, BK.out⟩
end Go.Proofs.Ytgfcgeiifinmmaa
