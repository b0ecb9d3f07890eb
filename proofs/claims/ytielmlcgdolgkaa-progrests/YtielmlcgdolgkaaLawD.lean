/-
  The walk of ProgRests. No condition but that the value is a number of 64 bits.
-/
import Derived.Test.YtielmlcgdolgkaaLawA
namespace Go.Proofs.Ytielmlcgdolgkaa
open Go.ChangeShapes Go.WideShapes Go.ChangeAt Go.RowKit
set_option linter.unusedVariables false

theorem turn_told (N : Int) (A : Option Addr) (n c : Nat) (es : List Ed) (p s l q : Int) (st v val got : Int) (sm : Bool) (w : World) (hA : Lies w w.heap.size 3 A n (ec es)) (hnc : n ≤ c) (hn : n ≤ maxLen) (hv : bd val) (hg : bd got) (x : Int) (b : Bool) (e0 : Int) (ht : turnR N es p s l q st v val got sm = (x, [], b, e0)) :
    Calls Try.prog 18 #[.agg #[.int .i64 N, .slice A n c], .agg #[.int .i64 p, .int .i64 s, .int .i64 l, .int .i64 q], .int .i64 st, .int .i64 v, .int .i64 val, .int .i64 got, .bool sm] w fun e w' =>
      ∃ A' c', e = .returned (.tuple #[.int .i64 x, .slice A' 0 c', .bool b, .int .i64 e0]) ∧ Below w.heap.size w w' := by
  have h := turn_any N A n c es p s l q st v val got sm w hA hnc hn hv hg
  rw [ht] at h
  exact h.mono fun e w' ⟨hb, A', c', he, _⟩ => ⟨A', c', he, hb⟩

theorem rest_turn {N : Int} {es : List Ed} {p s l q st v : Int} (val got : Int) (hv : vchk N es p s l q v = 0) (hp : ¬ p = 5) (h1 : ¬ st < 1) (h2 : ¬ 40 < st) :
    turnR N es p s l q st v val got false = (val, [], true, 0) := by
  have e1 : valB p st val got false = true := by unfold valB; rw [if_neg hp]
  have e2 : valX p st val got false = val := by unfold valX; rw [if_neg hp]; rfl
  have e3 : sendB p s st v val val = false := by
    have h0 : ¬ st = 0 := by omega
    unfold sendB
    rw [if_neg hp]
    split <;> simp [h0]
  have e4 : restB p st = true := by unfold restB; rw [if_neg hp]
  unfold turnR
  rw [if_pos hv, if_neg (by omega), if_pos e1, e2, if_neg (by rw [e3]; decide), e4]

set_option maxHeartbeats 1000000 in
theorem rests_walk (N : Int) (A : Option Addr) (n c : Nat) (es : List Ed) (p s l q : Int) (st v val : Int) (w : World) (hA : Lies w w.heap.size 3 A n (ec es)) (hnc : n ≤ c) (hn : n ≤ maxLen) (hvb : bd val) :
    Calls Try.prog 9 #[.agg #[.int .i64 N, .slice A n c], .agg #[.int .i64 p, .int .i64 s, .int .i64 l, .int .i64 q], .int .i64 st, .int .i64 v, .int .i64 val] w fun e w' => e = .returned (.bool true) ∧ Below w.heap.size w w' := by
  have HBX := Lib.hid (Bx.init w N A n c p s l q)
  by_cases h200 : 200 < n
  · skip
    go_enter Try.func9, Try.ntmps9
    go_wp2_with fail
    refine (great_any N A n c _ true (by simpa using h200)).mono ?_
    rintro e w1 ⟨rfl, hb1⟩
    have HX1 := Lib.hid (HBX.out.next hb1)
    clear hb1 HBX
    obtain ⟨z1, g0, g1, j0, j1, j2, j3, bl1⟩ := HX1.out
    go_wp2_with fail
    refine (knows_any _).mono ?_
    rintro e wk ⟨rfl, hbk⟩
    have BK := Lib.hid (HX1.out.next hbk).bl
    clear hbk
    go_wp2_with fail
    go_ret
    exact ⟨rfl, BK.out⟩
  by_cases h5 : p = 5
  · subst h5
    go_enter Try.func9, Try.ntmps9
    go_wp2_with fail
    refine (great_any N A n c _ false (by simpa using h200)).mono ?_
    rintro e w1 ⟨rfl, hb1⟩
    have HX1 := Lib.hid (HBX.out.next hb1)
    clear hb1 HBX
    obtain ⟨z1, g0, g1, j0, j1, j2, j3, bl1⟩ := HX1.out
    go_wp2_with fail
    refine (knows_any _).mono ?_
    rintro e wk ⟨rfl, hbk⟩
    have BK := Lib.hid (HX1.out.next hbk).bl
    clear hbk
    go_wp2_with fail
    go_ret
    exact ⟨rfl, BK.out⟩
  have h5' : (p == 5) = false := by simpa using h5
  by_cases h1 : st < 1
  · have H5 := Lib.hid h5
    clear h5
    go_enter Try.func9, Try.ntmps9
    go_wp2_with fail
    refine (great_any N A n c _ false (by simpa using h200)).mono ?_
    rintro e w1 ⟨rfl, hb1⟩
    have HX1 := Lib.hid (HBX.out.next hb1)
    clear hb1 HBX
    obtain ⟨z1, g0, g1, j0, j1, j2, j3, bl1⟩ := HX1.out
    go_wp2_with fail
    refine (knows_any _).mono ?_
    rintro e wk ⟨rfl, hbk⟩
    have BK := Lib.hid (HX1.out.next hbk).bl
    clear hbk
    go_wp2_with fail
    go_ret
    exact ⟨rfl, BK.out⟩
  by_cases h2 : 40 < st
  · have H5 := Lib.hid h5
    clear h5
    go_enter Try.func9, Try.ntmps9
    go_wp2_with fail
    refine (great_any N A n c _ false (by simpa using h200)).mono ?_
    rintro e w1 ⟨rfl, hb1⟩
    have HX1 := Lib.hid (HBX.out.next hb1)
    clear hb1 HBX
    obtain ⟨z1, g0, g1, j0, j1, j2, j3, bl1⟩ := HX1.out
    go_wp2_with fail
    refine (knows_any _).mono ?_
    rintro e wk ⟨rfl, hbk⟩
    have BK := Lib.hid (HX1.out.next hbk).bl
    clear hbk
    go_wp2_with fail
    go_ret
    exact ⟨rfl, BK.out⟩
  have HR := Lib.hid (fun W (h : Bx w N A n c p s l q W) => rjcheck_any N A n c es p s l q W (hA.next h.bl) hnc hn)
  by_cases hj : jchk N es p s l q = 0
  · by_cases hv : 0 ≤ v ∧ v < N
    · have HT := Lib.hid (fun W (h : Bx w N A n c p s l q W) => turn_told N A n c es p s l q st v val 5 false W (hA.next h.bl) hnc hn hvb ⟨by decide, by decide⟩ val true 0 (rest_turn val 5 (show vchk N es p s l q v = 0 by unfold vchk; rw [if_pos hj, if_pos hv]) h5 h1 h2))
      have HJ := Lib.hid hj
      obtain ⟨v0, v1⟩ := hv
      have v2 : ¬ v < 0 := by omega
      have v3 : ¬ N ≤ v := by omega
      clear hj h5
      go_enter Try.func9, Try.ntmps9
      go_wp2_with fail
      refine (great_any N A n c _ false (by simpa using h200)).mono ?_
      rintro e w1 ⟨rfl, hb1⟩
      have HX1 := Lib.hid (HBX.out.next hb1)
      clear hb1 HBX
      obtain ⟨z1, g0, g1, j0, j1, j2, j3, bl1⟩ := HX1.out
      go_wp2_with fail
      refine (HT.out _ HX1.out).mono ?_
      rintro e w2 ⟨A2, c2, rfl, hb2⟩
      have HX2 := Lib.hid (HX1.out.next hb2)
      clear z1 g0 g1 j0 j1 j2 j3 bl1 hb2 HX1
      obtain ⟨z1, g0, g1, j0, j1, j2, j3, bl1⟩ := HX2.out
      go_wp2_with fail
      refine (HR.out _ HX2.out).mono ?_
      rintro e w3 ⟨rfl, hb3⟩
      rw [HJ.out]
      have HX3 := Lib.hid (HX2.out.next hb3)
      clear z1 g0 g1 j0 j1 j2 j3 bl1 hb3 HX2
      obtain ⟨z1, g0, g1, j0, j1, j2, j3, bl1⟩ := HX3.out
      go_wp2_with fail
      refine (knows_any _).mono ?_
      rintro e wk ⟨rfl, hbk⟩
      have BK := Lib.hid (HX3.out.next hbk).bl
      clear hbk
      go_wp2_with fail
      go_ret
      exact ⟨rfl, BK.out⟩
    · have HV := Lib.hid (show vchk N es p s l q v = 4 by unfold vchk; rw [if_pos hj, if_neg hv])
      have HT := Lib.hid (fun W (h : Bx w N A n c p s l q W) => turn_told N A n c es p s l q st v val 5 false W (hA.next h.bl) hnc hn hvb ⟨by decide, by decide⟩ 0 false 4 (by unfold turnR; rw [if_neg (by rw [HV.out]; decide), HV.out]))
      have HJ := Lib.hid hj
      have HNV := Lib.hid hv
      clear hj h5 hv
      go_enter Try.func9, Try.ntmps9
      go_wp2_with fail
      refine (great_any N A n c _ false (by simpa using h200)).mono ?_
      rintro e w1 ⟨rfl, hb1⟩
      have HX1 := Lib.hid (HBX.out.next hb1)
      clear hb1 HBX
      obtain ⟨z1, g0, g1, j0, j1, j2, j3, bl1⟩ := HX1.out
      go_wp2_with fail
      refine (HT.out _ HX1.out).mono ?_
      rintro e w2 ⟨A2, c2, rfl, hb2⟩
      have HX2 := Lib.hid (HX1.out.next hb2)
      clear z1 g0 g1 j0 j1 j2 j3 bl1 hb2 HX1
      obtain ⟨z1, g0, g1, j0, j1, j2, j3, bl1⟩ := HX2.out
      go_wp2_with fail
      refine (HR.out _ HX2.out).mono ?_
      rintro e w3 ⟨rfl, hb3⟩
      rw [HJ.out]
      have HX3 := Lib.hid (HX2.out.next hb3)
      clear z1 g0 g1 j0 j1 j2 j3 bl1 hb3 HX2
      obtain ⟨z1, g0, g1, j0, j1, j2, j3, bl1⟩ := HX3.out
      by_cases v0 : v < 0
      · go_wp2_with fail
        refine (knows_any _).mono ?_
        rintro e wk ⟨rfl, hbk⟩
        have BK := Lib.hid (HX3.out.next hbk).bl
        clear hbk
        go_wp2_with fail
        go_ret
        exact ⟨rfl, BK.out⟩
      · have v1 : N ≤ v := by have := HNV.out; omega
        go_wp2_with fail
        refine (knows_any _).mono ?_
        rintro e wk ⟨rfl, hbk⟩
        have BK := Lib.hid (HX3.out.next hbk).bl
        clear hbk
        go_wp2_with fail
        go_ret
        exact ⟨rfl, BK.out⟩
  · have HV := Lib.hid (show vchk N es p s l q v = jchk N es p s l q by unfold vchk; rw [if_neg hj])
    have HT := Lib.hid (fun W (h : Bx w N A n c p s l q W) => turn_told N A n c es p s l q st v val 5 false W (hA.next h.bl) hnc hn hvb ⟨by decide, by decide⟩ 0 false (jchk N es p s l q) (by unfold turnR; rw [if_neg (by rw [HV.out]; exact hj), HV.out]))
    have hj1 : (jchk N es p s l q != 0) = true := by simpa using hj
    clear hj h5
    go_enter Try.func9, Try.ntmps9
    go_wp2_with fail
    refine (great_any N A n c _ false (by simpa using h200)).mono ?_
    rintro e w1 ⟨rfl, hb1⟩
    have HX1 := Lib.hid (HBX.out.next hb1)
    clear hb1 HBX
    obtain ⟨z1, g0, g1, j0, j1, j2, j3, bl1⟩ := HX1.out
    go_wp2_with fail
    refine (HT.out _ HX1.out).mono ?_
    rintro e w2 ⟨A2, c2, rfl, hb2⟩
    have HX2 := Lib.hid (HX1.out.next hb2)
    clear z1 g0 g1 j0 j1 j2 j3 bl1 hb2 HX1
    obtain ⟨z1, g0, g1, j0, j1, j2, j3, bl1⟩ := HX2.out
    go_wp2_with fail
    refine (HR.out _ HX2.out).mono ?_
    rintro e w3 ⟨rfl, hb3⟩
    have HX3 := Lib.hid (HX2.out.next hb3)
    clear z1 g0 g1 j0 j1 j2 j3 bl1 hb3 HX2
    go_wp2_with fail
    refine (knows_any _).mono ?_
    rintro e wk ⟨rfl, hbk⟩
    have BK := Lib.hid (HX3.out.next hbk).bl
    clear hbk
    go_wp2_with fail
    go_ret
    exact ⟨rfl, BK.out⟩

end Go.Proofs.Ytielmlcgdolgkaa
