/-
  The walk of WorkQuiet: a state is quiet just if all its partitions are. No condition.
-/
import Derived.Test.YtcaccjfnibjbpaaWf
import Derived.BigQuiet
import Derived.BigRegion
import Derived.Deep.RegionHeld3
namespace Go.Proofs.Ytcaccjfnibjbpaa
open Go.ChangeShapes Go.WideShapes Go.ChangeAt Go.RowKit
set_option linter.unusedVariables false

theorem Lies.pe {w : World} {B : Nat} {A : Option Addr} {ls : List Pe} (h : Lies w B 5 A ls.length (pc ls)) (k : Nat) (hk : k < ls.length) :
    ∃ ad, A = some ad ∧ ad.block < B ∧ w.cell? (ad.add (k * 5)) = some (.int .i64 ls[k].P) ∧ w.cell? ⟨(ad.add (k * 5)).block, (ad.add (k * 5)).off + 1, none⟩ = some (.int .i64 ls[k].S.step) ∧ w.cell? ⟨(ad.add (k * 5)).block, (ad.add (k * 5)).off + 2, none⟩ = some (.slice ls[k].A1 ls[k].S.vals.length ls[k].c1) ∧
      w.cell? ⟨(ad.add (k * 5)).block, (ad.add (k * 5)).off + 3, none⟩ = some (.slice ls[k].A2 ls[k].S.rest.length ls[k].c2) ∧ w.cell? ⟨(ad.add (k * 5)).block, (ad.add (k * 5)).off + 4, none⟩ = some (.slice ls[k].A3 ls[k].S.inn.length ls[k].c3) := by
  obtain ⟨a0, a1, a2, a3, a4⟩ := pc_at ls k hk
  obtain ⟨ad, e, hb, c0⟩ := h.2 _ _ a0
  obtain ⟨ad1, e1, _, c1⟩ := h.2 _ _ a1
  obtain ⟨ad2, e2, _, c2⟩ := h.2 _ _ a2
  obtain ⟨ad3, e3, _, c3⟩ := h.2 _ _ a3
  obtain ⟨ad4, e4, _, c4⟩ := h.2 _ _ a4
  rw [e] at e1 e2 e3 e4
  injection e1 with e1
  injection e2 with e2
  injection e3 with e3
  injection e4 with e4
  subst e1 e2 e3 e4
  rw [← add_add] at c1 c2 c3 c4
  exact ⟨ad, e, hb, c0, c1, c2, c3, c4⟩
theorem quiet_take (ls : List Pe) (k : Nat) (h : k < ls.length) : ((ls.take (k + 1)).all fun e => quietB e.S) = (((ls.take k).all fun e => quietB e.S) && quietB ls[k].S) := by
  rw [List.take_succ_eq_append_getElem h, List.all_append]; simp
theorem quiet_all {N : Int} {es : List Ed} {p s l q : Int} {S : St} {ls : List Pe} (hr : rightB N es p s l q S = true) (h : ls.map Pe.x = (List.range q.toNat).map (cutP N.toNat q.toNat S)) : (ls.all fun e => quietB e.S) = quietB S := by
  rw [← quiet_parts hr]
  have e1 : (ls.all fun e => quietB e.S) = (ls.map Pe.x).all quietP := by rw [List.all_map]; rfl
  rw [e1, h, List.all_map]; rfl
def QtRel (ls : List Pe) (w5 : World) (b i : Value) (W : World) : Prop := ∃ k : Nat, i = .int .i64 k ∧ k ≤ ls.length ∧ b = .bool ((ls.take k).all fun e => quietB e.S) ∧ Hid (Below w5.heap.size w5 W)
set_option maxRecDepth 20000 in
set_option maxHeartbeats 4000000 in
theorem quiet_walk (N : Int) (A : Option Addr) (n c : Nat) (es : List Ed) (p s l q : Int) (S : St) (A1 : Option Addr) (c1 : Nat) (A2 : Option Addr) (c2 : Nat) (A3 : Option Addr) (c3 : Nat) (w : World) (hA : Lies w w.heap.size 3 A n (ec es)) (hnc : n ≤ c) (hn : n ≤ maxLen) (hS : StI w S A1 c1 A2 c2 A3 c3) :
    Calls Try.prog 5 #[.agg #[.int .i64 N, .slice A n c], .agg #[.int .i64 p, .int .i64 s, .int .i64 l, .int .i64 q], .agg #[.int .i64 S.step, .slice A1 S.vals.length c1, .slice A2 S.rest.length c2, .slice A3 S.inn.length c3]] w fun e w' => e = .returned (.bool true) ∧ Below w.heap.size w w' := by
  have mixed : Try.prog.follows .mixedOrders = true := by kernel_rfl
  obtain ⟨w3, hw3⟩ : ∃ w3, w3 = ((w.alloc (.cells #[.int .i64 N, .slice A n c] 24)).alloc (.cells #[.int .i64 p, .int .i64 s, .int .i64 l, .int .i64 q] 26)).alloc (.cells #[.int .i64 S.step, .slice A1 S.vals.length c1, .slice A2 S.rest.length c2, .slice A3 S.inn.length c3] 52) := ⟨_, rfl⟩
  have HBS := Lib.hid (show Bs w N A n c p s l q S A1 c1 A2 c2 A3 c3 w3 by rw [hw3]; exact Bs.init w N A n c p s l q S A1 c1 A2 c2 A3 c3)
  have HA := Lib.hid (hA.next HBS.out.x.bl)
  have HSI := Lib.hid hS
  clear hA hS
  go_enter Try.func5, Try.ntmps5
  go_wp2_with fail
  rw [← hw3]
  clear hw3
  by_cases hg : 200 < n
  · refine (great_any N A n c _ true (by simpa using hg)).mono ?_
    rintro e w1 ⟨rfl, hb1⟩
    have HB1 := Lib.hid (HBS.out.next hb1).x.bl
    clear hb1
    go_wp2_with fail
    refine (knows_any _).mono ?_
    rintro e wk ⟨rfl, hbk⟩
    have BK := Lib.hid (HB1.out.trans (hbk.mono HB1.out.size))
    clear hbk
    go_wp2_with fail
    go_ret
    exact ⟨rfl, BK.out⟩
  · refine (great_any N A n c _ false (by simpa using hg)).mono ?_
    rintro e w1 ⟨rfl, hb1⟩
    have HB0 := Lib.hid hb1
    have hx1 := HBS.out.next hb1
    have s0 := hx1.s0
    have s1 := hx1.s1
    have s2 := hx1.s2
    have s3 := hx1.s3
    clear hb1 hx1
    go_wp2_with fail
    refine (wide_any S A1 c1 A2 c2 A3 c3 _).mono ?_
    rintro e w2 ⟨rfl, hb2⟩
    have HB2 := Lib.hid (HB0.out.trans (hb2.mono HB0.out.size))
    have HBW := Lib.hid (HBS.out.next HB2.out).x.bl
    clear hb2 s0 s1 s2 s3
    cases hw : wideB S with
    | true =>
      clear hw
      go_wp2_with fail
      refine (knows_any _).mono ?_
      rintro e wk ⟨rfl, hbk⟩
      have BK := Lib.hid (HBW.out.trans (hbk.mono HBW.out.size))
      clear hbk
      go_wp2_with fail
      go_ret
      exact ⟨rfl, BK.out⟩
    | false =>
      have HSL := Lib.hid ((HSI.out.ok hw).next HBS.out.x.bl)
      have HWN := Lib.hid (wide_no hw)
      clear hw
      have HX2 := Lib.hid (HBS.out.next HB2.out)
      have HA2 := Lib.hid (HA.out.next HB2.out)
      have HS2 := Lib.hid (HSL.out.next HB2.out)
      obtain ⟨⟨z1, g0, g1, j0, j1, j2, j3, bl1⟩, z2, s0, s1, s2, s3⟩ := id HX2.out
      clear z1 bl1 z2
      go_wp2_with fail
      refine (rright_any N A n c es p s l q S A1 c1 A2 c2 A3 c3 _ HA2.out hnc hn HS2.out).mono ?_
      rintro e w4 ⟨rfl, hb4⟩
      have HB4 := Lib.hid (HB2.out.trans (hb4.mono HB2.out.size))
      have HX4 := Lib.hid (HX2.out.next hb4)
      have HBX := Lib.hid (HX2.out.next hb4).x.bl
      clear hb4 g0 g1 j0 j1 j2 j3 s0 s1 s2 s3 HX2 HA2 HS2 HBW
      cases hr : rightB N es p s l q S with
      | false =>
        clear hr
        go_wp2_with fail
        refine (knows_any _).mono ?_
        rintro e wk ⟨rfl, hbk⟩
        have BK := Lib.hid (HBX.out.trans (hbk.mono HBX.out.size))
        clear hbk
        go_wp2_with fail
        go_ret
        exact ⟨rfl, BK.out⟩
      | true =>
        have HR := Lib.hid hr
        obtain ⟨⟨z1, g0, g1, j0, j1, j2, j3, bl1⟩, z2, s0, s1, s2, s3⟩ := id HX4.out
        clear z1 bl1 z2 hr
        go_wp2_with fail
        refine (split_any N A n c es p s l q S A1 c1 A2 c2 A3 c3 _ (HA.out.next HB4.out) hnc hn (HSL.out.next HB4.out)).mono ?_
        rw [show splitR N es p s l q S = ((List.range q.toNat).map (cutP N.toNat q.toNat S), 0) by unfold splitR; rw [if_pos (right_of HR.out).1, if_pos HR.out]]
        rintro e w5 ⟨hb5, D, d, ls, rfl, hP, hx⟩
        have HX5 := Lib.hid (HX4.out.next hb5)
        have HS5 := Lib.hid ((HSL.out.next HB4.out).next hb5)
        have HP5 := Lib.hid hP
        have HE5 := Lib.hid hx
        have HQA := Lib.hid (quiet_all HR.out hx)
        have hl6 : ls.length ≤ 6 := by
          have h1 := congrArg List.length hx
          have h2 := badJ_not (jchk_zero (right_of HR.out).1).2
          simp at h1; omega
        clear hb5 hP hx g0 g1 j0 j1 j2 j3 s0 s1 s2 s3 HX4 HBX
        go_wp2_with fail
        go_loopw [9, 10] (fun b i W => QtRel ls w5 b i W) (fun b i W => ls.length - (intOf i).toNat)
        case atStart => exact ⟨0, rfl, Nat.zero_le _, rfl, Lib.hid (Below.refl _ _)⟩
        case round =>
          obtain ⟨k, rfl, hk, rfl, HB⟩ := hrel
          by_cases hlt : k < ls.length
          · have hkl : (k : Int) < (ls.length : Int) := by omega
            have HT := Lib.hid (quiet_take ls k hlt)
            cases hb : ((ls.take k).all fun e => quietB e.S) with
            | false =>
              have HT1 := Lib.hid (show ((ls.take (k + 1)).all fun e => quietB e.S) = false by rw [HT.out, hb]; rfl)
              clear hb
              go_wp2_with fail
              go_roundw
              case rel => exact ⟨k + 1, by go_num, by omega, by rw [HT1.out], HB⟩
              case measure => simp [intOf]; omega
            | true =>
              have HT1 := Lib.hid (show ((ls.take (k + 1)).all fun e => quietB e.S) = quietB ls[k].S by rw [HT.out, hb]; rfl)
              clear hb
              have HPW := Lib.hid (HP5.out.next HB.out)
              obtain ⟨ad, hD, hadb, x0, x1, x2, x3, x4⟩ := HPW.out.L.pe k hlt
              subst hD
              have C1 := Lib.hid (pquiet_any ls[k].P ls[k].S ls[k].A1 ls[k].c1 ls[k].A2 ls[k].c2 ls[k].A3 ls[k].c3 wr (HPW.out.at k hlt))
              generalize ls[k].P = KP at *
              generalize ls[k].S = KS at *
              generalize ls[k].A1 = K1 at *
              generalize ls[k].A2 = K2 at *
              generalize ls[k].A3 = K3 at *
              generalize ls[k].c1 = k1 at *
              generalize ls[k].c2 = k2 at *
              generalize ls[k].c3 = k3 at *
              have hk6 : k < 6 := by omega
              go_wp2_with fail
              refine C1.out.mono ?_
              rintro e w6 ⟨rfl, hb6⟩
              have HB6 := Lib.hid (HB.out.trans (hb6.mono HB.out.size))
              clear hb6 x0 x1 x2 x3 x4 hadb
              go_wp2_with fail
              go_roundw
              case rel => exact ⟨k + 1, by go_num, by omega, by rw [HT1.out], HB6⟩
              case measure => simp [intOf]; omega
          · have hk' : k = ls.length := by omega
            subst hk'
            rw [List.take_length, HQA.out]
            have hx6 := HX5.out.next HB.out
            have HBX := Lib.hid hx6.x.bl
            have s0 := hx6.s0
            have s1 := hx6.s1
            have s2 := hx6.s2
            have s3 := hx6.s3
            clear hx6
            go_wp2_with fail
            refine (quiet_any S A1 c1 A2 c2 A3 c3 _ (HS5.out.next HB.out)).mono ?_
            rintro e w7 ⟨rfl, hb7⟩
            have HB7 := Lib.hid (HBX.out.trans (hb7.mono HBX.out.size))
            clear hb7 s0 s1 s2 s3
            generalize quietB S = qb at *
            go_wp2_with fail
            refine (knows_any _).mono ?_
            rintro e wk ⟨rfl, hbk⟩
            have BK := Lib.hid (HB7.out.trans (hbk.mono HB7.out.size))
            clear hbk
            go_wp2_with fail
            go_ret
            exact ⟨rfl, BK.out⟩
end Go.Proofs.Ytcaccjfnibjbpaa
