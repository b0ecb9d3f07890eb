/-
  The walk of WorkDoes: a partition does a superstep as the document says. No condition.
-/
import Derived.Test.YtcaccjfnibjbpaaWf
import Derived.Test.YtcaccjfnibjbpaaWj
import Derived.Test.YtcaccjfnibjbpaaDoor
import Derived.Test.YtcaccjfnibjbpaaLawB
import Derived.BigQuiet
import Derived.BigRegion
import Derived.Deep.RegionHeld3
namespace Go.Proofs.Ytcaccjfnibjbpaa
open Go.ChangeShapes Go.WideShapes Go.ChangeAt Go.RowKit
set_option linter.unusedVariables false

theorem outs_len {N : Int} {es : List Ed} {p s l q P : Int} {S : St} (hok : Ok S) : (doR N es p s l q (mkP P S)).2.1.length ≤ 100 ∧ ∀ m ∈ (doR N es p s l q (mkP P S)).2.1, m.length ≤ 100000 := by
  by_cases he : (doR N es p s l q (mkP P S)).2.2 = 0
  · obtain ⟨hr, h40, hc, hR⟩ := doR_good he
    have hq := rightP_small hr
    rw [hR]
    refine ⟨by simp; omega, fun m hm => ?_⟩
    obtain ⟨k, hk, rfl⟩ := List.mem_map.1 hm
    have := (outs_of hr hok hc (List.mem_range.1 hk)).2.2
    omega
  · rw [doR_bad he]
    exact ⟨Nat.zero_le _, fun m hm => by cases hm⟩
def At7 (b : Nat) (cs : Array Value) (W : World) : Prop := W.heap[b]? = some (.cells cs 40 (0, 0))
theorem At7.next {b : Nat} {cs : Array Value} {W W' : World} (h : At7 b cs W) (hb : Below W.heap.size W W') : At7 b cs W' := (hb.block _ (lt_of_block h)).trans h
set_option maxRecDepth 20000 in
set_option maxHeartbeats 4000000 in
theorem does_walk (N : Int) (A : Option Addr) (n c : Nat) (es : List Ed) (p s l q : Int) (P : Int) (S : St) (A1 : Option Addr) (c1 : Nat) (A2 : Option Addr) (c2 : Nat) (A3 : Option Addr) (c3 : Nat) (w : World) (hA : Lies w w.heap.size 3 A n (ec es)) (hnc : n ≤ c) (hn : n ≤ maxLen) (hS : StI w S A1 c1 A2 c2 A3 c3) :
    Calls Try.prog 3 #[.agg #[.int .i64 N, .slice A n c], .agg #[.int .i64 p, .int .i64 s, .int .i64 l, .int .i64 q], .agg #[.int .i64 P, .int .i64 S.step, .slice A1 S.vals.length c1, .slice A2 S.rest.length c2, .slice A3 S.inn.length c3]] w fun e w' => e = .returned (.bool true) ∧ Below w.heap.size w w' := by
  have mixed : Try.prog.follows .mixedOrders = true := by kernel_rfl
  obtain ⟨w3, hw3⟩ : ∃ w3, w3 = ((w.alloc (.cells #[.int .i64 N, .slice A n c] 24)).alloc (.cells #[.int .i64 p, .int .i64 s, .int .i64 l, .int .i64 q] 26)).alloc (.cells #[.int .i64 P, .int .i64 S.step, .slice A1 S.vals.length c1, .slice A2 S.rest.length c2, .slice A3 S.inn.length c3] 31) := ⟨_, rfl⟩
  have HBS := Lib.hid (show Bp w N A n c p s l q P S A1 c1 A2 c2 A3 c3 w3 by rw [hw3]; exact Bp.init w N A n c p s l q P S A1 c1 A2 c2 A3 c3)
  have HA := Lib.hid (hA.next HBS.out.x.bl)
  have HSI := Lib.hid hS
  clear hA hS
  go_enter Try.func3, Try.ntmps3
  go_wp2_with fail
  rw [← hw3]
  clear hw3
  by_cases hg : 200 < n
  · refine (great_any N A n c _ true (by simpa using hg)).mono ?_
    rintro e w1 ⟨rfl, hb1⟩
    have HB1 := Lib.hid (HBS.out.next hb1).x.bl
    clear hb1
    go_wp2_with fail
    refine (knows_any _).mono ?_
    rintro e wk ⟨rfl, hbk⟩
    have BK := Lib.hid (HB1.out.trans (hbk.mono HB1.out.size))
    clear hbk
    go_wp2_with fail
    go_ret
    exact ⟨rfl, BK.out⟩
  · refine (great_any N A n c _ false (by simpa using hg)).mono ?_
    rintro e w1 ⟨rfl, hb1⟩
    have HB0 := Lib.hid hb1
    have hx1 := HBS.out.next hb1
    have p0 := hx1.p0
    have s0 := hx1.s0
    have s1 := hx1.s1
    have s2 := hx1.s2
    have s3 := hx1.s3
    clear hb1 hx1
    go_wp2_with fail
    refine (broad_any P S A1 c1 A2 c2 A3 c3 _).mono ?_
    rintro e w2 ⟨rfl, hb2⟩
    have HB2 := Lib.hid (HB0.out.trans (hb2.mono HB0.out.size))
    have HBW := Lib.hid (HBS.out.next HB2.out).x.bl
    clear hb2 s0 s1 s2 s3 p0
    cases hw : wideB S with
    | true =>
      clear hw
      go_wp2_with fail
      refine (knows_any _).mono ?_
      rintro e wk ⟨rfl, hbk⟩
      have BK := Lib.hid (HBW.out.trans (hbk.mono HBW.out.size))
      clear hbk
      go_wp2_with fail
      go_ret
      exact ⟨rfl, BK.out⟩
    | false =>
      have HSL := Lib.hid ((HSI.out.ok hw).next HBS.out.x.bl)
      have HWN := Lib.hid (wide_no hw)
      clear hw
      have HX2 := Lib.hid (HBS.out.next HB2.out)
      have HA2 := Lib.hid (HA.out.next HB2.out)
      have HS2 := Lib.hid (HSL.out.next HB2.out)
      obtain ⟨⟨z1, g0, g1, j0, j1, j2, j3, bl1⟩, z2, p0, s0, s1, s2, s3⟩ := id HX2.out
      clear z1 bl1 z2
      go_wp2_with fail
      refine (do_any N A n c es p s l q P S A1 c1 A2 c2 A3 c3 _ HA2.out hnc hn HS2.out).mono ?_
      rintro e w6 ⟨hb6, Q, T, Y1, y1, Y2, y2, Y3, y3, D, os, rfl, hx, hm, hT, hD, -, -, -, -, -⟩
      have hb7 := hb6.trans ((below_alloc w6 (.cells #[.int .i64 Q, .int .i64 T.step, .slice Y1 T.vals.length y1, .slice Y2 T.rest.length y2, .slice Y3 T.inn.length y3] 31)).mono hb6.size)
      have HX7 := Lib.hid (HX2.out.next hb7)
      have HA7 := Lib.hid (HA2.out.next hb7)
      have HS7 := Lib.hid (HS2.out.next hb7)
      have HD7 := Lib.hid (hD.next (below_alloc w6 (.cells #[.int .i64 Q, .int .i64 T.step, .slice Y1 T.vals.length y1, .slice Y2 T.rest.length y2, .slice Y3 T.inn.length y3] 31)))
      have HT7 := Lib.hid (hT.next (below_alloc w6 (.cells #[.int .i64 Q, .int .i64 T.step, .slice Y1 T.vals.length y1, .slice Y2 T.rest.length y2, .slice Y3 T.inn.length y3] 31)))
      have HN7 := Lib.hid (show At5 w6.heap.size #[.int .i64 Q, .int .i64 T.step, .slice Y1 T.vals.length y1, .slice Y2 T.rest.length y2, .slice Y3 T.inn.length y3] (w6.alloc (.cells #[.int .i64 Q, .int .i64 T.step, .slice Y1 T.vals.length y1, .slice Y2 T.rest.length y2, .slice Y3 T.inn.length y3] 31)) from heap_alloc_new _ _)
      have HXX := Lib.hid hx
      have HMM := Lib.hid hm
      clear hb6 hb7 hT hD hx hm g0 g1 j0 j1 j2 j3 p0 s0 s1 s2 s3 HX2 HA2 HS2 HBW
      go_upto_region 4 with fail
      obtain ⟨ba, hba⟩ : ∃ b, b = w6.heap.size := ⟨_, rfl⟩
      rw [← hba] at HN7 ⊢
      generalize w6.alloc (.cells #[.int .i64 Q, .int .i64 T.step, .slice Y1 T.vals.length y1, .slice Y2 T.rest.length y2, .slice Y3 T.inn.length y3] 31) = w7 at *
      clear hba
      obtain ⟨⟨z1, g0, g1, j0, j1, j2, j3, bl1⟩, z2, p0, s0, s1, s2, s3⟩ := id HX7.out
      clear z1 bl1 z2
      go_wp2_with fail
      refine (rdo_any N A n c es p s l q P S A1 c1 A2 c2 A3 c3 _ HA7.out hnc hn HS7.out).mono ?_
      have HOU := Lib.hid (outs_len (N := N) (es := es) (p := p) (s := s) (l := l) (q := q) (P := P) (S := S) HSL.out.ok)
      rintro e w8 ⟨hb8, Q', T', Z1, z1, Z2, z2, Z3, z3, F, fd, ot, rfl, hx, hm, hT, hF⟩
      obtain ⟨rfl, rfl⟩ := mkP_inj (hx.trans HXX.out.symm)
      have HME := Lib.hid (HMM.out.trans hm.symm)
      have HOL := Lib.hid (show os.length ≤ 100 by have h1 := congrArg List.length HMM.out; have h2 := HOU.out.1; simp at h1; omega)
      have HOM := Lib.hid (show ∀ e ∈ os, e.ms.length ≤ 100000 from fun e he => HOU.out.2 _ (by rw [← HMM.out]; exact List.mem_map.2 ⟨e, he, rfl⟩))
      generalize (doR N es p s l q (mkP P S)).2.2 = te at *
      have hb9 := hb8.trans ((below_alloc w8 (.cells #[.int .i64 Q', .int .i64 T'.step, .slice Z1 T'.vals.length z1, .slice Z2 T'.rest.length z2, .slice Z3 T'.inn.length z3, .slice F ot.length fd, .int .i64 te] 40)).mono hb8.size)
      have HX9 := Lib.hid (HX7.out.next hb9)
      have HT9 := Lib.hid (HT7.out.next hb9)
      have HD9 := Lib.hid (HD7.out.next hb9)
      have HN9 := Lib.hid (HN7.out.next hb9)
      have HZ9 := Lib.hid (hT.next (below_alloc w8 (.cells #[.int .i64 Q', .int .i64 T'.step, .slice Z1 T'.vals.length z1, .slice Z2 T'.rest.length z2, .slice Z3 T'.inn.length z3, .slice F ot.length fd, .int .i64 te] 40)))
      have HF9 := Lib.hid (hF.next (below_alloc w8 (.cells #[.int .i64 Q', .int .i64 T'.step, .slice Z1 T'.vals.length z1, .slice Z2 T'.rest.length z2, .slice Z3 T'.inn.length z3, .slice F ot.length fd, .int .i64 te] 40)))
      have HM9 := Lib.hid (show At7 w8.heap.size #[.int .i64 Q', .int .i64 T'.step, .slice Z1 T'.vals.length z1, .slice Z2 T'.rest.length z2, .slice Z3 T'.inn.length z3, .slice F ot.length fd, .int .i64 te] (w8.alloc (.cells #[.int .i64 Q', .int .i64 T'.step, .slice Z1 T'.vals.length z1, .slice Z2 T'.rest.length z2, .slice Z3 T'.inn.length z3, .slice F ot.length fd, .int .i64 te] 40)) from heap_alloc_new _ _)
      clear hb8 hb9 hT hF hx hm g0 g1 j0 j1 j2 j3 p0 s0 s1 s2 s3 HX7 HA7 HS7 HD7 HT7 HN7
      go_upto_region 5 with fail
      obtain ⟨bz, hbz⟩ : ∃ b, b = w8.heap.size := ⟨_, rfl⟩
      rw [← hbz] at HM9 ⊢
      generalize w8.alloc (.cells #[.int .i64 Q', .int .i64 T'.step, .slice Z1 T'.vals.length z1, .slice Z2 T'.rest.length z2, .slice Z3 T'.inn.length z3, .slice F ot.length fd, .int .i64 te] 40) = w9 at *
      clear hbz
      have HBX := Lib.hid HX9.out.x.bl
      have a0 := cell_of_row w9 ba 0 _ 31 (0, 0) HN9.out
      have b0 := cell_of_row w9 bz 0 _ 40 (0, 0) HM9.out
      have a1 := cell_of_row w9 ba 1 _ 31 (0, 0) HN9.out
      have b1 := cell_of_row w9 bz 1 _ 40 (0, 0) HM9.out
      have a2 := cell_of_row w9 ba 2 _ 31 (0, 0) HN9.out
      have b2 := cell_of_row w9 bz 2 _ 40 (0, 0) HM9.out
      have a3 := cell_of_row w9 ba 3 _ 31 (0, 0) HN9.out
      have b3 := cell_of_row w9 bz 3 _ 40 (0, 0) HM9.out
      have a4 := cell_of_row w9 ba 4 _ 31 (0, 0) HN9.out
      have b4 := cell_of_row w9 bz 4 _ 40 (0, 0) HM9.out
      go_wp2_with fail
      refine (psame_yes Q' T' Y1 y1 Y2 y2 Y3 y3 Z1 z1 Z2 z2 Z3 z3 _ HT9.out HZ9.out).mono ?_
      rintro e v1 ⟨rfl, hb1⟩
      have HB1 := Lib.hid (HBX.out.trans (hb1.mono HBX.out.size))
      have HD1 := Lib.hid (HD9.out.next hb1)
      have HF1 := Lib.hid (HF9.out.next hb1)
      have HM1 := Lib.hid (HM9.out.next hb1)
      clear hb1 a0 a1 a2 a3 a4 b0 b1 b2 b3 b4
      have b5 := cell_of_row v1 bz 5 _ 40 (0, 0) HM1.out
      go_wp2_with fail
      refine (sameouts_yes D os.length os F fd ot _ HD1.out HF1.out HME.out HOL.out HOM.out).mono ?_
      rintro e v2 ⟨rfl, hb2⟩
      have HB2' := Lib.hid (HB1.out.trans (hb2.mono HB1.out.size))
      have HM2 := Lib.hid (HM1.out.next hb2)
      clear hb2 b5
      have b6 := cell_of_row v2 bz 6 _ 40 (0, 0) HM2.out
      go_wp2_with fail
      refine (knows_any _).mono ?_
      rintro e wk ⟨rfl, hbk⟩
      have BK := Lib.hid (HB2'.out.trans (hbk.mono HB2'.out.size))
      clear hbk b6
      go_wp2_with fail
      go_ret
      exact ⟨rfl, BK.out⟩
end Go.Proofs.Ytcaccjfnibjbpaa
