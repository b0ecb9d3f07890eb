/-
  The contract of the document's own Do (chapter 8). No condition but that the numbers are of 64 bits and not too many.
-/
import Derived.Test.YtcaccjfnibjbpaaWi
import Derived.Test.YtcaccjfnibjbpaaKh
namespace Go.Proofs.Ytcaccjfnibjbpaa
open Go.ChangeShapes Go.WideShapes Go.ChangeAt Go.RowKit
set_option linter.unusedVariables false

def RdRel (N : Int) (q P : Int) (S : St) (w3 : World) (bo : Nat) (T : Nat → Int × List Ms × Bool × Int) (LD : Option Addr) (ld : Nat) (o i : Value) (W : World) : Prop :=
  ∃ (k : Nat) (AS : Option Addr) (cS : Nat) (V : Option Addr) (cV : Nat) (R : Option Addr) (cR : Nat), i = .int .i64 k ∧ k ≤ S.vals.length ∧ o = .slice AS (sentL T k).length cS ∧ Hid (W.ownsRow w3.heap.size 59 2 (.slice AS (sentL T k).length cS) (sentL T k).length (mc (sentL T k))) ∧ Hid (Dn w3 bo P (S.step + 1) V cV R cR none 0 (valsL T k) (restL T k) [] W) ∧ Hid (W.ownsRow w3.heap.size 3 1 (.slice LD S.vals.length ld) S.vals.length (vc (nv (vertsI N.toNat q P)))) ∧ Hid (errL T k = 0)
def RfRel (p : Int) (a : Nat) (L : List Ms) (w3 : World) (bo : Nat) (P st : Int) (V : Option Addr) (cV : Nat) (R : Option Addr) (cR : Nat) (vs : List Int) (rs : List Bool) (AS : Option Addr) (cS : Nat) (i : Value) (W : World) : Prop :=
  ∃ (k : Nat) (D : Option Addr) (cD : Nat) (os : List Le), i = .int .i64 k ∧ k ≤ a ∧ Hid (os.map Le.ms = (List.range k).map (foR p a L)) ∧ Hid (Dn w3 bo P st V cV R cR D cD vs rs os W) ∧ Hid (W.ownsRow w3.heap.size 59 2 (.slice AS L.length cS) L.length (mc L)) ∧ Hid (firstE (foC p a L) k = 0)
theorem sev7 {W w3 : World} {b : Nat} (hlt : b < w3.heap.size) (u0 u1 u2 u3 u4 u5 u6 : Value) (g : Nat) (hg : w3.heap.size ≤ g) : (((((((W.setCell ⟨b, 0, none⟩ u0).setCell ⟨b, 1, none⟩ u1).setCell ⟨b, 2, none⟩ u2).setCell ⟨b, 3, none⟩ u3).setCell ⟨b, 4, none⟩ u4).setCell ⟨b, 5, none⟩ u5).setCell ⟨b, 6, none⟩ u6).heap[g]? = W.heap[g]? := by
  rw [Below.heap_setCell _ _ _ _ (fun e => by have e : g = b := e; omega), Below.heap_setCell _ _ _ _ (fun e => by have e : g = b := e; omega), Below.heap_setCell _ _ _ _ (fun e => by have e : g = b := e; omega), Below.heap_setCell _ _ _ _ (fun e => by have e : g = b := e; omega), Below.heap_setCell _ _ _ _ (fun e => by have e : g = b := e; omega), Below.heap_setCell _ _ _ _ (fun e => by have e : g = b := e; omega), Below.heap_setCell _ _ _ _ (fun e => by have e : g = b := e; omega)]
set_option maxRecDepth 20000 in
set_option maxHeartbeats 4000000 in
theorem rdo_any (N : Int) (A : Option Addr) (n c : Nat) (es : List Ed) (p s l q P : Int) (S : St) (A1 : Option Addr) (c1 : Nat) (A2 : Option Addr) (c2 : Nat) (A3 : Option Addr) (c3 : Nat) (w : World) (hA : Lies w w.heap.size 3 A n (ec es)) (hnc : n ≤ c) (hn : n ≤ maxLen) (hS : StL w w.heap.size S A1 c1 A2 c2 A3 c3) :
    Calls Try.prog 12 #[.agg #[.int .i64 N, .slice A n c], .agg #[.int .i64 p, .int .i64 s, .int .i64 l, .int .i64 q], .agg #[.int .i64 P, .int .i64 S.step, .slice A1 S.vals.length c1, .slice A2 S.rest.length c2, .slice A3 S.inn.length c3]] w (RdPost (doR N es p s l q (mkP P S)) w) := by
  have mixed : Try.prog.follows .mixedOrders = true := by kernel_rfl
  obtain ⟨iv, hiv, hzv, hzsv, hzbv⟩ := info_parts (show (Try.prog.info? 2).map (fun i => (i.zero, i.size, i.bytes)) = some (some (.int .i64 0), 1, 8) by kernel_rfl)
  have IV := Lib.hid hiv
  have ZV := Lib.hid hzv
  have SV := Lib.hid hzsv
  have BV := Lib.hid hzbv
  clear hiv hzv hzsv hzbv
  obtain ⟨ir, hir, hzr, hzsr, hzbr⟩ := info_parts (show (Try.prog.info? 4).map (fun i => (i.zero, i.size, i.bytes)) = some (some (.bool false), 1, 1) by kernel_rfl)
  have IR := Lib.hid hir
  have ZR := Lib.hid hzr
  have SR := Lib.hid hzsr
  have BR := Lib.hid hzbr
  clear hir hzr hzsr hzbr
  obtain ⟨i0, hi0, hz0, hzs, hzb⟩ := info_parts (show (Try.prog.info? 59).map (fun i => (i.zero, i.size, i.bytes)) = some (some (.agg #[.int .i64 0, .int .i64 0]), 2, 16) by kernel_rfl)
  have HI0 := Lib.hid hi0
  have HZ0 := Lib.hid hz0
  have HZS := Lib.hid hzs
  have HZB := Lib.hid hzb
  obtain ⟨il, hil, hzl, hzsl, hzbl⟩ := info_parts (show (Try.prog.info? 29).map (fun i => (i.zero, i.size, i.bytes)) = some (some (.slice none 0 0), 1, 24) by kernel_rfl)
  have IL := Lib.hid hil
  have ZL := Lib.hid hzl
  have SL := Lib.hid hzsl
  have BL := Lib.hid hzbl
  clear hi0 hz0 hzs hzb hil hzl hzsl hzbl
  obtain ⟨w4, hw4⟩ : ∃ w4, w4 = (((w.alloc (.cells #[.int .i64 N, .slice A n c] 24)).alloc (.cells #[.int .i64 p, .int .i64 s, .int .i64 l, .int .i64 q] 26)).alloc (.cells #[.int .i64 P, .int .i64 S.step, .slice A1 S.vals.length c1, .slice A2 S.rest.length c2, .slice A3 S.inn.length c3] 31)).alloc (.cells #[.int .i64 0, .int .i64 0, .slice none 0 0, .slice none 0 0, .slice none 0 0, .slice none 0 0, .int .i64 0] 40) := ⟨_, rfl⟩
  have hbs : Bp w N A n c p s l q P S A1 c1 A2 c2 A3 c3 w4 := by rw [hw4]; exact (Bp.init w N A n c p s l q P S A1 c1 A2 c2 A3 c3).next (below_alloc _ _)
  have H4 := Lib.hid (fun (W : World) (hb : Below w4.heap.size w4 W) => fourth8 w _ _ _ _ W (by rw [hw4] at hb; exact hb))
  have HA := Lib.hid (hA.next hbs.x.bl)
  have HS := Lib.hid (hS.next hbs.x.bl)
  have HBS := Lib.hid hbs
  clear hbs hA hS
  go_enter Try.func12, Try.ntmps12
  go_upto_region 1 with fail
  rw [← hw4]
  clear hw4
  obtain ⟨⟨z1, g0, g1, j0, j1, j2, j3, bl1⟩, z2, p0, s0, s1, s2, s3⟩ := id HBS.out
  clear z1 bl1 z2 p0 s0 s1 s2 s3
  go_wp2_with fail
  refine (rjcheck_any N A n c es p s l q _ HA.out hnc hn).mono ?_
  rintro e w1 ⟨rfl, hb1⟩
  have HB1 := Lib.hid hb1
  have HX1 := Lib.hid (HBS.out.next hb1)
  clear g0 g1 j0 j1 j2 j3 hb1
  by_cases hj : jchk N es p s l q = 0
  · have HJ := Lib.hid hj
    rw [hj]
    obtain ⟨⟨z1, g0, g1, j0, j1, j2, j3, bl1⟩, z2, p0, s0, s1, s2, s3⟩ := id HX1.out
    clear z1 bl1 z2 hj
    go_wp2_with fail
    refine (rpright_any N A n c es p s l q P S A1 c1 A2 c2 A3 c3 _ (HA.out.next HB1.out) hnc hn (HS.out.next HB1.out)).mono ?_
    rintro e w3 ⟨rfl, hb2⟩
    have HB3 := Lib.hid (HB1.out.trans (hb2.mono HB1.out.size))
    have HX3 := Lib.hid (HX1.out.next hb2)
    clear g0 g1 j0 j1 j2 j3 p0 s0 s1 s2 s3 hb2 HX1 HB1
    cases hr : rightP N es p s l q (mkP P S) with
    | false =>
      have HR := Lib.hid (show doR N es p s l q (mkP P S) = (noPt, [], 1) by unfold doR; rw [if_pos HJ.out, hr]; rfl)
      clear hr
      have z2 := H4.out w3 HB3.out
      have r0 := cell_of_row w3 _ 0 _ 40 (0, 0) z2
      have f0 := unfrozen z2 0
      have r1 := cell_of_row w3 _ 1 _ 40 (0, 0) z2
      have f1 := unfrozen z2 1
      have r2 := cell_of_row w3 _ 2 _ 40 (0, 0) z2
      have f2 := unfrozen z2 2
      have r3 := cell_of_row w3 _ 3 _ 40 (0, 0) z2
      have f3 := unfrozen z2 3
      have r4 := cell_of_row w3 _ 4 _ 40 (0, 0) z2
      have f4 := unfrozen z2 4
      have r5 := cell_of_row w3 _ 5 _ 40 (0, 0) z2
      have f5 := unfrozen z2 5
      have r6 := cell_of_row w3 _ 6 _ 40 (0, 0) z2
      have f6 := unfrozen z2 6
      clear z2
      go_wp2_with fail
      refine bodyPost_ret (v := .agg #[.int .i64 0, .int .i64 0, .slice none 0 0, .slice none 0 0, .slice none 0 0, .slice none 0 0, .int .i64 1]) (by simp [results, Try.results12, go_sem, r0, r1, r2, r3, r4, r5, r6]) rfl ?_
      exact rd_no HR.out (((((((HX3.out.x.bl.setCell (by simp <;> omega) _).setCell (by simp <;> omega) _).setCell (by simp <;> omega) _).setCell (by simp <;> omega) _).setCell (by simp <;> omega) _).setCell (by simp <;> omega) _).setCell (by simp <;> omega) _)
    | true =>
      have HRR := Lib.hid hr
      obtain ⟨⟨z1, g0, g1, j0, j1, j2, j3, bl1⟩, z2, p0, s0, s1, s2, s3⟩ := id HX3.out
      clear z1 bl1 z2 hr
      by_cases h40 : S.step = 40
      · have HR := Lib.hid (show doR N es p s l q (mkP P S) = (noPt, [], 6) by unfold doR; rw [if_pos HJ.out, if_pos HRR.out, if_pos (show (mkP P S).step = 40 from h40)])
        rw [h40] at s0
        clear g0 g1 j0 j1 j2 j3 p0 s1 s2 s3
        have z2 := H4.out w3 HB3.out
        have r0 := cell_of_row w3 _ 0 _ 40 (0, 0) z2
        have f0 := unfrozen z2 0
        have r1 := cell_of_row w3 _ 1 _ 40 (0, 0) z2
        have f1 := unfrozen z2 1
        have r2 := cell_of_row w3 _ 2 _ 40 (0, 0) z2
        have f2 := unfrozen z2 2
        have r3 := cell_of_row w3 _ 3 _ 40 (0, 0) z2
        have f3 := unfrozen z2 3
        have r4 := cell_of_row w3 _ 4 _ 40 (0, 0) z2
        have f4 := unfrozen z2 4
        have r5 := cell_of_row w3 _ 5 _ 40 (0, 0) z2
        have f5 := unfrozen z2 5
        have r6 := cell_of_row w3 _ 6 _ 40 (0, 0) z2
        have f6 := unfrozen z2 6
        clear z2
        go_wp2_with fail
        refine bodyPost_ret (v := .agg #[.int .i64 0, .int .i64 0, .slice none 0 0, .slice none 0 0, .slice none 0 0, .slice none 0 0, .int .i64 6]) (by simp [results, Try.results12, go_sem, r0, r1, r2, r3, r4, r5, r6]) rfl ?_
        exact rd_no HR.out (((((((HX3.out.x.bl.setCell (by simp <;> omega) _).setCell (by simp <;> omega) _).setCell (by simp <;> omega) _).setCell (by simp <;> omega) _).setCell (by simp <;> omega) _).setCell (by simp <;> omega) _).setCell (by simp <;> omega) _)
      · have H40 := Lib.hid h40
        have h41 : (S.step == 40) = false := by simpa using h40
        obtain ⟨hq1, hq6, hv24, hrl, hN1, hN2⟩ := rightP_small HRR.out
        obtain ⟨-, ⟨hP0, hP1⟩, ⟨hs0, hs1⟩, hvl, -⟩ := rightP_of HRR.out
        have HN0 := Lib.hid hrl
        have hwr : IntKind.i64.wrap (S.step + 1) = S.step + 1 := by rw [IntKind.wrap_i64]; omega
        have HVI := Lib.hid (show (vertsI N.toNat q P).length = S.vals.length by rw [vertsI_eq hq1 hP0, hvl])
        have HAT := Lib.hid (fun (i : Nat) (hi : i < S.vals.length) => rightP_at HRR.out hi)
        have HA3 := Lib.hid (HA.out.next HB3.out)
        have HS3 := Lib.hid (HS.out.next HB3.out)
        have HP0 := Lib.hid (Dn.start w3 P (S.step + 1))
        clear h40 hrl hvl
        go_upto_region 9 with fail
        obtain ⟨bo, hbo⟩ : ∃ b, b = w3.heap.size := ⟨_, rfl⟩
        rw [← hbo] at HP0 ⊢
        have HBO := Lib.hid hbo
        clear hbo g0 g1 j0 j1 j2 j3 p0 s0 s1 s2 s3 h41
        generalize w3.alloc (.cells #[.int .i64 P, .int .i64 (S.step + 1), .slice none 0 0, .slice none 0 0, .slice none 0 0, .slice none 0 0, .int .i64 0] 40) = W0 at HP0 ⊢
        obtain ⟨⟨z1, g0, g1, j0, j1, j2, j3, bl1⟩, z2, p0, s0, s1, s2, s3⟩ := id (HX3.out.next HP0.out.bl)
        clear z1 bl1 z2 s0 s1 s2 s3
        go_wp2_with fail
        refine (verts_any N A n c p s l q P _ (by omega) hq1).mono ?_
        rw [HVI.out]
        rintro e w5 ⟨LD, ld, rfl, hoL, hb5⟩
        have HP5 := Lib.hid (HP0.out.next hb5)
        have HL5 := Lib.hid (hoL.lower HP0.out.bl.size)
        clear hoL hb5 g0 g1 j0 j1 j2 j3 p0 HP0
        obtain ⟨T, hT⟩ : ∃ T, T = tP N es p s l q (mkP P S) := ⟨_, rfl⟩
        have HTT := Lib.hid hT
        clear hT
        go_wp2_with fail
        go_loopw [10, 11] (fun o i W => RdRel N q P S w3 bo T LD ld o i W) (fun o i W => S.vals.length - (intOf i).toNat)
        case atStart => exact ⟨0, none, 0, none, 0, none, 0, rfl, Nat.zero_le _, rfl, Lib.hid (World.ownsRow_nil _ _ _ _), HP5, HL5, Lib.hid rfl⟩
        case round =>
          obtain ⟨k, AS, cS, V, cV, R, cR, rfl, hk, rfl, HO, HP, HL, HE⟩ := hrel
          clear HP5 HL5
          have HXW := Lib.hid (HX3.out.next HP.out.bl)
          by_cases hkv : k < S.vals.length
          · have hkr : k < S.rest.length := by rw [HN0.out]; exact hkv
            have hkV : (k : Int) < (S.vals.length : Int) := by omega
            have hkR : (k : Int) < (S.rest.length : Int) := by omega
            obtain ⟨vv, hvv⟩ : ∃ vv, vv = P.toNat + k * q.toNat := ⟨_, rfl⟩
            have HVV := Lib.hid hvv
            have hvN : vv < 24 := by have := HAT.out k hkv; rw [← hvv] at this; omega
            have HVA := Lib.hid (show vAt (nv (vertsI N.toNat q P)) k = (vv : Int) by rw [verts_val hq1 hq6 hP0 hP1 (by rw [nv_len, HVI.out]; exact hkv), hvv])
            clear hvv
            obtain ⟨adv, hLD, hadv, e0⟩ := (Lies.of_own HL.out).vs k hkv
            rw [HVA.out] at e0
            obtain ⟨ad1, hA1e, hadb1, _⟩ := HS3.out.v.vs k hkv
            obtain ⟨ad2, hA2e, hadb2, _⟩ := HS3.out.r.rs k hkr
            subst hLD hA1e hA2e
            have HAD1 := Lib.hid hadb1
            have HFA := Lib.hid (show ∀ W : World, Below wr.heap.size wr W → W.cell? ⟨w.heap.size + 1 + 1, 4, none⟩ = some (.slice A3 S.inn.length c3) ∧ W.cell? (adv.add k) = some (.int .i64 vv) ∧ Below wr.heap.size wr W by
              intro W hb
              exact ⟨(HXW.out.next hb).s3, (hb.cell (by rw [block_add]; exact hadv)).trans e0, hb⟩)
            have CA := Lib.hid (fun (W : World) (hb : Below wr.heap.size wr W) => rat_any A3 S.inn.length c3 S.inn vv W (HS3.out.m.next (HP.out.bl.trans (hb.mono HP.out.bl.size))) HS.out.ok.lm)
            have q0 := HFA.out wr.drew (Below.refl _ _).drew
            go_wp2_with fail
            go_region_held3 (fun w' => w'.cell? ⟨w.heap.size + 1 + 1, 4, none⟩ = some (.slice A3 S.inn.length c3) ∧ w'.cell? (adv.add k) = some (.int .i64 vv) ∧ Below wr.heap.size wr w')
              (first | with_reducible exact q1 | with_reducible exact q0)
              (first | ((go_at_call 31); (with_reducible refine (CA.out _ q0.2.2).mono ?_); rintro e w6 ⟨rfl, hb6⟩; have q1 := HFA.out w6 (q0.2.2.trans (hb6.mono q0.2.2.size))))
            have hb6 := q1.2.2
            have HP6 := Lib.hid (HP.out.next hb6)
            have HO6 := Lib.hid (own_next HO.out hb6)
            have HL6 := Lib.hid (own_next HL.out hb6)
            clear q0 q1 e0 hb6 HFA CA HXW hadb1 hadb2 hadv HP HO HL
            have HX6 := Lib.hid (HX3.out.next HP6.out.bl)
            have s1 := HX6.out.s1
            obtain ⟨_, ea, _, c1k⟩ := (HS3.out.v.next HP6.out.bl).vs k hkv
            injection ea with ea
            subst ea
            obtain ⟨o, ho⟩ : ∃ o : Obj, o = .cells #[.int .i64 (vAt S.vals k), .slice none 0 0, .bool true, .int .i64 0] 75 := ⟨_, rfl⟩
            have HQ2 := Lib.hid (show Tn w3 bo P (S.step + 1) V cV R cR (valsL T k) (restL T k) w6.heap.size #[.int .i64 (vAt S.vals k), .slice none 0 0, .bool true, .int .i64 0] AS cS (sentL T k) none 0 [] (.slice (some adv) S.vals.length ld) S.vals.length (vc (nv (vertsI N.toNat q P))) (w6.alloc o) from ⟨HP6.out.next (below_alloc _ _), by rw [ho]; exact heap_alloc_new _ _, own_next HO6.out (below_alloc _ _), World.ownsRow_nil _ _ _ _, HP6.out.bl.size, own_next HL6.out (below_alloc _ _)⟩)
            go_upto_region 16 with fail
            rw [← ho]
            clear ho s1 c1k HP6 HO6 HL6 HX6
            obtain ⟨bt, hbt⟩ : ∃ b, b = w6.heap.size := ⟨_, rfl⟩
            rw [← hbt] at HQ2 ⊢
            generalize w6.alloc o = W2 at HQ2 ⊢
            clear hbt
            have HADV := Lib.hid (show adv.block ≠ bt from fun e => by
              have h1 := own_ne HQ2.out.lv HQ2.out.t (by decide)
              rcases HQ2.out.lv.2 with ⟨hv, _⟩ | ⟨g, cap, cur, hv, _⟩
              · injection hv with e1; cases e1
              · injection hv with e1
                injection e1 with e1
                rw [e1] at e h1
                exact h1 (by rw [← e]; rfl))
            have s2 := (HX3.out.next HQ2.out.p.bl).s2
            obtain ⟨_, ea, _, c2k⟩ := (HS3.out.r.next HQ2.out.p.bl).rs k hkr
            injection ea with ea
            subst ea
            cases hbk : atB S.inn vv with
            | true =>
              have HTR := Lib.hid (show turnR N es p s l q S.step vv (vAt S.vals k) (atV S.inn vv) true = T k by
                rw [HTT.out]; unfold tP
                rw [turnP_turn (.inr (by show atB S.inn ((P.toNat + k * q.toNat : Nat) : Int) = true; rw [← HVV.out]; exact hbk))]
                show _ = turnR N es p s l q S.step ((P.toNat + k * q.toNat : Nat) : Int) (vAt S.vals k) (atV S.inn ((P.toNat + k * q.toNat : Nat) : Int)) (atB S.inn ((P.toNat + k * q.toNat : Nat) : Int))
                rw [← HVV.out, hbk])
              clear hbk
              have HTU := Lib.hid (fun (W : World) (hb : Below W2.heap.size W2 W) => rturn_any N A n c es p s l q S.step vv (vAt S.vals k) (atV S.inn vv) true W (HA3.out.next (HQ2.out.p.bl.trans (hb.mono HQ2.out.p.bl.size))) hnc hn (HS.out.ok.vAt k) (atV_bd HS.out.ok.m _))
              rw [HTR.out] at HTU
              generalize hTk : T k = t at HTU HTR
              have HT0 := Lib.hid hTk
              clear hTk
              have HF3 := Lib.hid (show ∀ W : World, Below W2.heap.size W2 W → W.cell? ⟨w.heap.size, 0, none⟩ = some (.int .i64 N) ∧ W.cell? ⟨w.heap.size, 1, none⟩ = some (.slice A n c) ∧ W.cell? ⟨w.heap.size + 1, 0, none⟩ = some (.int .i64 p) ∧ W.cell? ⟨w.heap.size + 1, 1, none⟩ = some (.int .i64 s) ∧ W.cell? ⟨w.heap.size + 1, 2, none⟩ = some (.int .i64 l) ∧ W.cell? ⟨w.heap.size + 1, 3, none⟩ = some (.int .i64 q) ∧ W.cell? ⟨w.heap.size + 1 + 1, 1, none⟩ = some (.int .i64 S.step) ∧ W.cell? ⟨w.heap.size + 1 + 1, 2, none⟩ = some (.slice (some ad1) S.vals.length c1) ∧ W.cell? (ad1.add k) = some (.int .i64 (vAt S.vals k)) ∧ W.cell? (adv.add k) = some (.int .i64 vv) by
                intro W hb
                have h := HX3.out.next (HQ2.out.p.bl.trans (hb.mono HQ2.out.p.bl.size))
                obtain ⟨a, ea, _, hc⟩ := (HS3.out.v.next (HQ2.out.p.bl.trans (hb.mono HQ2.out.p.bl.size))).vs k hkv
                injection ea with ea
                subst ea
                obtain ⟨a, ea, _, hd⟩ := (Lies.of_own (own_next HQ2.out.lv hb)).vs k hkv
                injection ea with ea
                subst ea
                rw [HVA.out] at hd
                exact ⟨h.x.g0, h.x.g1, h.x.j0, h.x.j1, h.x.j2, h.x.j3, h.s0, h.s1, hc, hd⟩)
              have HQ4 := Lib.hid (show ∀ (W : World) (u0 u1 u2 u3 : Value), (W.cell? ⟨w.heap.size, 0, none⟩ = some (.int .i64 N) ∧ W.cell? ⟨w.heap.size, 1, none⟩ = some (.slice A n c) ∧ W.cell? ⟨w.heap.size + 1, 0, none⟩ = some (.int .i64 p) ∧ W.cell? ⟨w.heap.size + 1, 1, none⟩ = some (.int .i64 s) ∧ W.cell? ⟨w.heap.size + 1, 2, none⟩ = some (.int .i64 l) ∧ W.cell? ⟨w.heap.size + 1, 3, none⟩ = some (.int .i64 q) ∧ W.cell? ⟨w.heap.size + 1 + 1, 1, none⟩ = some (.int .i64 S.step) ∧ W.cell? ⟨w.heap.size + 1 + 1, 2, none⟩ = some (.slice (some ad1) S.vals.length c1) ∧ W.cell? (ad1.add k) = some (.int .i64 (vAt S.vals k)) ∧ W.cell? (adv.add k) = some (.int .i64 vv)) → (((((W.setCell ⟨bt, 0, none⟩ u0).setCell ⟨bt, 1, none⟩ u1).setCell ⟨bt, 2, none⟩ u2).setCell ⟨bt, 3, none⟩ u3).cell? ⟨w.heap.size, 0, none⟩ = some (.int .i64 N) ∧ ((((W.setCell ⟨bt, 0, none⟩ u0).setCell ⟨bt, 1, none⟩ u1).setCell ⟨bt, 2, none⟩ u2).setCell ⟨bt, 3, none⟩ u3).cell? ⟨w.heap.size, 1, none⟩ = some (.slice A n c) ∧ ((((W.setCell ⟨bt, 0, none⟩ u0).setCell ⟨bt, 1, none⟩ u1).setCell ⟨bt, 2, none⟩ u2).setCell ⟨bt, 3, none⟩ u3).cell? ⟨w.heap.size + 1, 0, none⟩ = some (.int .i64 p) ∧ ((((W.setCell ⟨bt, 0, none⟩ u0).setCell ⟨bt, 1, none⟩ u1).setCell ⟨bt, 2, none⟩ u2).setCell ⟨bt, 3, none⟩ u3).cell? ⟨w.heap.size + 1, 1, none⟩ = some (.int .i64 s) ∧ ((((W.setCell ⟨bt, 0, none⟩ u0).setCell ⟨bt, 1, none⟩ u1).setCell ⟨bt, 2, none⟩ u2).setCell ⟨bt, 3, none⟩ u3).cell? ⟨w.heap.size + 1, 2, none⟩ = some (.int .i64 l) ∧ ((((W.setCell ⟨bt, 0, none⟩ u0).setCell ⟨bt, 1, none⟩ u1).setCell ⟨bt, 2, none⟩ u2).setCell ⟨bt, 3, none⟩ u3).cell? ⟨w.heap.size + 1, 3, none⟩ = some (.int .i64 q) ∧ ((((W.setCell ⟨bt, 0, none⟩ u0).setCell ⟨bt, 1, none⟩ u1).setCell ⟨bt, 2, none⟩ u2).setCell ⟨bt, 3, none⟩ u3).cell? ⟨w.heap.size + 1 + 1, 1, none⟩ = some (.int .i64 S.step) ∧ ((((W.setCell ⟨bt, 0, none⟩ u0).setCell ⟨bt, 1, none⟩ u1).setCell ⟨bt, 2, none⟩ u2).setCell ⟨bt, 3, none⟩ u3).cell? ⟨w.heap.size + 1 + 1, 2, none⟩ = some (.slice (some ad1) S.vals.length c1) ∧ ((((W.setCell ⟨bt, 0, none⟩ u0).setCell ⟨bt, 1, none⟩ u1).setCell ⟨bt, 2, none⟩ u2).setCell ⟨bt, 3, none⟩ u3).cell? (ad1.add k) = some (.int .i64 (vAt S.vals k)) ∧ ((((W.setCell ⟨bt, 0, none⟩ u0).setCell ⟨bt, 1, none⟩ u1).setCell ⟨bt, 2, none⟩ u2).setCell ⟨bt, 3, none⟩ u3).cell? (adv.add k) = some (.int .i64 vv)) by
                intro W u0 u1 u2 u3 h
                have k8 : ∀ ad : Addr, ad.block ≠ bt → ((((W.setCell ⟨bt, 0, none⟩ u0).setCell ⟨bt, 1, none⟩ u1).setCell ⟨bt, 2, none⟩ u2).setCell ⟨bt, 3, none⟩ u3).cell? ad = W.cell? ad := fun ad hne => by
                  refine World.cell?_of_block (w := W) ?_
                  rw [Below.heap_setCell _ _ _ _ hne, Below.heap_setCell _ _ _ _ hne, Below.heap_setCell _ _ _ _ hne, Below.heap_setCell _ _ _ _ hne]
                have b0 : w.heap.size ≠ bt ∧ w.heap.size + 1 ≠ bt ∧ w.heap.size + 1 + 1 ≠ bt := by have h1 := HQ2.out.hbt; have h2 := HX3.out.z; omega
                have b1 : (ad1.add k).block ≠ bt := by rw [block_add]; have h1 := HQ2.out.hbt; have h2 := HAD1.out; omega
                have b2 : (adv.add k).block ≠ bt := by rw [block_add]; exact HADV.out
                exact ⟨(k8 _ b0.1).trans h.1, (k8 _ b0.1).trans h.2.1, (k8 _ b0.2.1).trans h.2.2.1, (k8 _ b0.2.1).trans h.2.2.2.1, (k8 _ b0.2.1).trans h.2.2.2.2.1, (k8 _ b0.2.1).trans h.2.2.2.2.2.1, (k8 _ b0.2.2).trans h.2.2.2.2.2.2.1, (k8 _ b0.2.2).trans h.2.2.2.2.2.2.2.1, (k8 _ b1).trans h.2.2.2.2.2.2.2.2.1, (k8 _ b2).trans h.2.2.2.2.2.2.2.2.2⟩)
              have q0 := HF3.out W2.drew (Below.refl _ _).drew
              have B0 := Lib.hid (show Below W2.heap.size W2 W2.drew from (Below.refl _ _).drew)
              go_wp2_with fail
              clear c2k s2
              go_region_held3 (fun w' => w'.cell? ⟨w.heap.size, 0, none⟩ = some (.int .i64 N) ∧ w'.cell? ⟨w.heap.size, 1, none⟩ = some (.slice A n c) ∧ w'.cell? ⟨w.heap.size + 1, 0, none⟩ = some (.int .i64 p) ∧ w'.cell? ⟨w.heap.size + 1, 1, none⟩ = some (.int .i64 s) ∧ w'.cell? ⟨w.heap.size + 1, 2, none⟩ = some (.int .i64 l) ∧ w'.cell? ⟨w.heap.size + 1, 3, none⟩ = some (.int .i64 q) ∧ w'.cell? ⟨w.heap.size + 1 + 1, 1, none⟩ = some (.int .i64 S.step) ∧ w'.cell? ⟨w.heap.size + 1 + 1, 2, none⟩ = some (.slice (some ad1) S.vals.length c1) ∧ w'.cell? (ad1.add k) = some (.int .i64 (vAt S.vals k)) ∧ w'.cell? (adv.add k) = some (.int .i64 vv))
                (first | with_reducible exact q1 | with_reducible exact q0 | with_reducible exact HQ4.out _ _ _ _ _ q1)
                (first | ((go_at_call 32); (with_reducible refine (HTU.out _ B0.out).mono ?_); rintro e w7 ⟨hb7, AT, cT, rfl, hoT⟩; have B1 := Lib.hid (B0.out.trans (hb7.mono B0.out.size)); have q1 := HF3.out w7 B1.out; have z7 := (hb7.block bt (lt_of_block HQ2.out.t)).trans HQ2.out.t; have r0 := cell_of_row w7 _ 0 _ 75 (0, 0) z7; have f0 := unfrozen z7 0; have r1 := cell_of_row w7 _ 1 _ 75 (0, 0) z7; have f1 := unfrozen z7 1; have r2 := cell_of_row w7 _ 2 _ 75 (0, 0) z7; have f2 := unfrozen z7 2; have r3 := cell_of_row w7 _ 3 _ 75 (0, 0) z7; have f3 := unfrozen z7 3; have HOT := Lib.hid hoT; clear hoT hb7 z7 q0))
              have HQ3 := Lib.hid (HQ2.out.next B1.out)
              obtain ⟨tv, tm, tb, te⟩ := t
              dsimp only at HOT ⊢
              have HQ7 := Lib.hid ((show Tn w3 bo P (S.step + 1) V cV R cR (valsL T k) (restL T k) bt #[.int .i64 (vAt S.vals k), .slice none 0 0, .bool true, .int .i64 0] AS cS (sentL T k) AT cT tm (.slice (some adv) S.vals.length ld) S.vals.length (vc (nv (vertsI N.toNat q P))) w7 from ⟨HQ3.out.p, HQ3.out.t, HQ3.out.so, HOT.out.lower HQ2.out.p.bl.size, HQ3.out.hbt, HQ3.out.lv⟩).turn (.int .i64 tv) (.slice AT tm.length cT) (.bool tb) (.int .i64 te))
              clear q1 r0 f0 r1 f1 r2 f2 r3 f3 HQ2 HQ3 HTU HF3 HQ4 B0 B1 HOT
              generalize (((w7.setCell ⟨bt, 0, none⟩ (.int .i64 tv)).setCell ⟨bt, 1, none⟩ (.slice AT tm.length cT)).setCell ⟨bt, 2, none⟩ (.bool tb)).setCell ⟨bt, 3, none⟩ (.int .i64 te) = W7 at HQ7 ⊢
              by_cases he : te = 0
              · subst he
                have HT := HT0
                have HER := Lib.hid (show errL T (k + 1) = 0 from firstE_ok HE.out (by show (T k).2.2.2 = 0; rw [HT.out]))
                have HTV := Lib.hid (show valsL T (k + 1) = valsL T k ++ [tv] by rw [valsL_succ, HT.out])
                have HTB := Lib.hid (show restL T (k + 1) = restL T k ++ [tb] by rw [restL_succ, HT.out])
                have HTS := Lib.hid (show sentL T (k + 1) = sentL T k ++ tm by rw [sentL_succ, HT.out])
                have HSL := Lib.hid (show (sentL T k).length ≤ 80 * k from sentL_len T (fun v => by rw [HTT.out]; exact tP_len ..) k)
                have HML := Lib.hid (show tm.length ≤ 80 by have := tP_len (N := N) (es := es) (p := p) (s := s) (l := l) (q := q) (mkP P S) k; rw [← HTT.out, HT.out] at this; exact this)
                have v0 := cell_of_row W7 bt 0 _ 75 (0, 0) HQ7.out.t
                have v3 := cell_of_row W7 bt 3 _ 75 (0, 0) HQ7.out.t
                have o1 := cell_of_row W7 bo 2 _ 40 (0, 0) HQ7.out.p.nb
                have HQ8 := Lib.hid (HQ7.out.next (below_alloc W7 (.cells #[.int .i64 tv] 2)))
                have oa := cell_of_row (W7.alloc (.cells #[.int .i64 tv] 2)) bo 2 _ 40 (0, 0) HQ8.out.p.nb
                have HV8 := Lib.hid HQ8.out.p.v
                have HVL := Lib.hid (valsL_len T k)
                have HRL := Lib.hid (restL_len T k)
                generalize valsL T k = vs at *
                generalize restL T k = rs at *
                generalize sentL T k = se at *
                have hvk : vs.length ≤ 24 := by have := HVL.out; omega
                have hrk : rs.length ≤ 24 := by have := HRL.out; omega
                go_wp2_with (at_builtin; go_must (refine wpList_app2 _ rfl (.tmp 102) (.tmp 105) 27 rfl w3.heap.size 2 iv _ 1 8 Try.underlying27 IV.out ZV.out SV.out BV.out rfl (by decide) V vs.length cV (vc vs) rfl HV8.out (W7.heap.size + 1) (some ⟨W7.heap.size, 0, none⟩) 1 1 (vc [tv]) rfl (lies_v W7 _) (vc_one _) (vs.length + 1) (vc vs ++ vc [tv]) rfl rfl (by unfold maxLen; omega) (by omega) HQ8.out.p.bl.size ?_))
                intro A9 c9 w9 ho9 hb9 hg9
                obtain ⟨hq9, t9, f9⟩ := HQ8.out.putV rfl ho9 hb9 hg9
                have HQ9 := Lib.hid hq9
                clear hq9 ho9 hb9 hg9 HV8 HQ8 HQ7 o1 oa v0 v3
                go_upto_region 21 with fail
                generalize w9.setCell ⟨bo, 2, none⟩ (.slice A9 (vs.length + 1) c9) = W9 at HQ9 ⊢
                clear t9 f9
                have v2 := cell_of_row W9 bt 2 _ 75 (0, 0) HQ9.out.t
                have o2 := cell_of_row W9 bo 3 _ 40 (0, 0) HQ9.out.p.nb
                have HQa := Lib.hid (HQ9.out.next (below_alloc W9 (.cells #[.bool tb] 4)))
                have oa := cell_of_row (W9.alloc (.cells #[.bool tb] 4)) bo 3 _ 40 (0, 0) HQa.out.p.nb
                have HRa := Lib.hid HQa.out.p.r
                go_wp2_with (at_builtin; go_must (refine wpList_app2 _ rfl (.tmp 111) (.tmp 114) 28 rfl w3.heap.size 4 ir _ 1 1 Try.underlying28 IR.out ZR.out SR.out BR.out rfl (by decide) R rs.length cR (rc rs) rfl HRa.out (W9.heap.size + 1) (some ⟨W9.heap.size, 0, none⟩) 1 1 (rc [tb]) rfl (lies_r W9 _) (rc_one _) (rs.length + 1) (rc rs ++ rc [tb]) rfl rfl (by unfold maxLen; omega) (by omega) HQa.out.p.bl.size ?_))
                intro Ab cb wb hob hbb hgb
                obtain ⟨hqb, tb9, fb9⟩ := HQa.out.putR rfl hob hbb hgb
                have HQb := Lib.hid hqb
                clear hqb hob hbb hgb HRa HQa HQ9 o2 oa v2
                go_upto_region 22 with fail
                generalize wb.setCell ⟨bo, 3, none⟩ (.slice Ab (rs.length + 1) cb) = Wb at HQb ⊢
                clear tb9 fb9
                have v1 := cell_of_row Wb bt 1 _ 75 (0, 0) HQb.out.t
                go_wp2_with (at_builtin; go_must (refine wpList_app2 _ rfl (.tmp 118) (.tmp 120) 29 rfl w3.heap.size 59 i0 _ 2 16 Try.underlying29 HI0.out HZ0.out HZS.out HZB.out rfl (by decide) AS se.length cS (mc se) rfl HQb.out.so Wb.heap.size AT tm.length cT (mc tm) rfl (Lies.of_own HQb.out.st') (mc_one _) (se.length + tm.length) (mc (se ++ tm)) rfl (by rw [mc_append]) (by have := HSL.out; have := HML.out; unfold maxLen; omega) (by have := HSL.out; have := HML.out; omega) HQb.out.p.bl.size ?_))
                intro Ac cc wc' hoc hbc hgc
                have HPc := Lib.hid (HQb.out.p.grown HQb.out.so hgc)
                have HLc := Lib.hid (own_apart HQb.out.lv HQb.out.so hgc (by decide))
                have HOc := Lib.hid hoc
                clear hoc hbc hgc HQb v1
                go_wp2_with fail
                go_roundw
                case rel => exact ⟨k + 1, Ac, cc, A9, c9, Ab, cb, by go_num, by omega, by rw [HTS.out, List.length_append], by rw [HTS.out, List.length_append]; exact HOc, by rw [HTV.out, HTB.out]; exact HPc, HLc, HER⟩
                case measure => simp [intOf]; omega
              · have HRE := Lib.hid (show doR N es p s l q (mkP P S) = (noPt, [], te) by
                  have e1 : errL T S.vals.length = te := (firstE_bad (f := fun v => (T v).2.2.2) HE.out hkv (by show ¬ (T k).2.2.2 = 0; rw [HT0.out]; exact he)).trans (by show (T k).2.2.2 = te; rw [HT0.out])
                  rw [HTT.out] at e1
                  unfold doR
                  rw [if_pos HJ.out, if_pos HRR.out, if_neg (show ¬ (mkP P S).step = 40 from H40.out), if_neg (show ¬ errL (tP N es p s l q (mkP P S)) (mkP P S).vals.length = 0 by show ¬ errL (tP N es p s l q (mkP P S)) S.vals.length = 0; rw [e1]; exact he)]
                  show (noPt, [], errL (tP N es p s l q (mkP P S)) S.vals.length) = _
                  rw [e1])
                have v3 := cell_of_row W7 bt 3 _ 75 (0, 0) HQ7.out.t
                have he1 : (te != 0) = true := by simpa using he
                have HB7 := Lib.hid (HB3.out.trans (HQ7.out.p.bl.mono HB3.out.size))
                have HX7 := Lib.hid (HX3.out.next HQ7.out.p.bl)
                clear he HQ7
                have z2 := H4.out W7 HB7.out
                have r0 := cell_of_row W7 _ 0 _ 40 (0, 0) z2
                have f0 := unfrozen z2 0
                have r1 := cell_of_row W7 _ 1 _ 40 (0, 0) z2
                have f1 := unfrozen z2 1
                have r2 := cell_of_row W7 _ 2 _ 40 (0, 0) z2
                have f2 := unfrozen z2 2
                have r3 := cell_of_row W7 _ 3 _ 40 (0, 0) z2
                have f3 := unfrozen z2 3
                have r4 := cell_of_row W7 _ 4 _ 40 (0, 0) z2
                have f4 := unfrozen z2 4
                have r5 := cell_of_row W7 _ 5 _ 40 (0, 0) z2
                have f5 := unfrozen z2 5
                have r6 := cell_of_row W7 _ 6 _ 40 (0, 0) z2
                have f6 := unfrozen z2 6
                clear z2
                go_wp2_with fail
                refine bodyPost_ret (v := .agg #[.int .i64 0, .int .i64 0, .slice none 0 0, .slice none 0 0, .slice none 0 0, .slice none 0 0, .int .i64 te]) (by simp [results, Try.results12, go_sem, r0, r1, r2, r3, r4, r5, r6]) rfl ?_
                exact rd_no HRE.out (((((((HX7.out.x.bl.setCell (by simp <;> omega) _).setCell (by simp <;> omega) _).setCell (by simp <;> omega) _).setCell (by simp <;> omega) _).setCell (by simp <;> omega) _).setCell (by simp <;> omega) _).setCell (by simp <;> omega) _)
            | false =>
              cases hrk : rAt S.rest k with
              | false =>
                rw [hrk] at c2k
                have HTR := Lib.hid (show turnR N es p s l q S.step vv (vAt S.vals k) (atV S.inn vv) false = T k by
                  rw [HTT.out]; unfold tP
                  rw [turnP_turn (.inl hrk)]
                  show _ = turnR N es p s l q S.step ((P.toNat + k * q.toNat : Nat) : Int) (vAt S.vals k) (atV S.inn ((P.toNat + k * q.toNat : Nat) : Int)) (atB S.inn ((P.toNat + k * q.toNat : Nat) : Int))
                  rw [← HVV.out, hbk])
                clear hbk hrk
                have HTU := Lib.hid (fun (W : World) (hb : Below W2.heap.size W2 W) => rturn_any N A n c es p s l q S.step vv (vAt S.vals k) (atV S.inn vv) false W (HA3.out.next (HQ2.out.p.bl.trans (hb.mono HQ2.out.p.bl.size))) hnc hn (HS.out.ok.vAt k) (atV_bd HS.out.ok.m _))
                rw [HTR.out] at HTU
                generalize hTk : T k = t at HTU HTR
                have HT0 := Lib.hid hTk
                clear hTk
                have HF3 := Lib.hid (show ∀ W : World, Below W2.heap.size W2 W → W.cell? ⟨w.heap.size, 0, none⟩ = some (.int .i64 N) ∧ W.cell? ⟨w.heap.size, 1, none⟩ = some (.slice A n c) ∧ W.cell? ⟨w.heap.size + 1, 0, none⟩ = some (.int .i64 p) ∧ W.cell? ⟨w.heap.size + 1, 1, none⟩ = some (.int .i64 s) ∧ W.cell? ⟨w.heap.size + 1, 2, none⟩ = some (.int .i64 l) ∧ W.cell? ⟨w.heap.size + 1, 3, none⟩ = some (.int .i64 q) ∧ W.cell? ⟨w.heap.size + 1 + 1, 1, none⟩ = some (.int .i64 S.step) ∧ W.cell? ⟨w.heap.size + 1 + 1, 2, none⟩ = some (.slice (some ad1) S.vals.length c1) ∧ W.cell? (ad1.add k) = some (.int .i64 (vAt S.vals k)) ∧ W.cell? (adv.add k) = some (.int .i64 vv) by
                  intro W hb
                  have h := HX3.out.next (HQ2.out.p.bl.trans (hb.mono HQ2.out.p.bl.size))
                  obtain ⟨a, ea, _, hc⟩ := (HS3.out.v.next (HQ2.out.p.bl.trans (hb.mono HQ2.out.p.bl.size))).vs k hkv
                  injection ea with ea
                  subst ea
                  obtain ⟨a, ea, _, hd⟩ := (Lies.of_own (own_next HQ2.out.lv hb)).vs k hkv
                  injection ea with ea
                  subst ea
                  rw [HVA.out] at hd
                  exact ⟨h.x.g0, h.x.g1, h.x.j0, h.x.j1, h.x.j2, h.x.j3, h.s0, h.s1, hc, hd⟩)
                have HQ4 := Lib.hid (show ∀ (W : World) (u0 u1 u2 u3 : Value), (W.cell? ⟨w.heap.size, 0, none⟩ = some (.int .i64 N) ∧ W.cell? ⟨w.heap.size, 1, none⟩ = some (.slice A n c) ∧ W.cell? ⟨w.heap.size + 1, 0, none⟩ = some (.int .i64 p) ∧ W.cell? ⟨w.heap.size + 1, 1, none⟩ = some (.int .i64 s) ∧ W.cell? ⟨w.heap.size + 1, 2, none⟩ = some (.int .i64 l) ∧ W.cell? ⟨w.heap.size + 1, 3, none⟩ = some (.int .i64 q) ∧ W.cell? ⟨w.heap.size + 1 + 1, 1, none⟩ = some (.int .i64 S.step) ∧ W.cell? ⟨w.heap.size + 1 + 1, 2, none⟩ = some (.slice (some ad1) S.vals.length c1) ∧ W.cell? (ad1.add k) = some (.int .i64 (vAt S.vals k)) ∧ W.cell? (adv.add k) = some (.int .i64 vv)) → (((((W.setCell ⟨bt, 0, none⟩ u0).setCell ⟨bt, 1, none⟩ u1).setCell ⟨bt, 2, none⟩ u2).setCell ⟨bt, 3, none⟩ u3).cell? ⟨w.heap.size, 0, none⟩ = some (.int .i64 N) ∧ ((((W.setCell ⟨bt, 0, none⟩ u0).setCell ⟨bt, 1, none⟩ u1).setCell ⟨bt, 2, none⟩ u2).setCell ⟨bt, 3, none⟩ u3).cell? ⟨w.heap.size, 1, none⟩ = some (.slice A n c) ∧ ((((W.setCell ⟨bt, 0, none⟩ u0).setCell ⟨bt, 1, none⟩ u1).setCell ⟨bt, 2, none⟩ u2).setCell ⟨bt, 3, none⟩ u3).cell? ⟨w.heap.size + 1, 0, none⟩ = some (.int .i64 p) ∧ ((((W.setCell ⟨bt, 0, none⟩ u0).setCell ⟨bt, 1, none⟩ u1).setCell ⟨bt, 2, none⟩ u2).setCell ⟨bt, 3, none⟩ u3).cell? ⟨w.heap.size + 1, 1, none⟩ = some (.int .i64 s) ∧ ((((W.setCell ⟨bt, 0, none⟩ u0).setCell ⟨bt, 1, none⟩ u1).setCell ⟨bt, 2, none⟩ u2).setCell ⟨bt, 3, none⟩ u3).cell? ⟨w.heap.size + 1, 2, none⟩ = some (.int .i64 l) ∧ ((((W.setCell ⟨bt, 0, none⟩ u0).setCell ⟨bt, 1, none⟩ u1).setCell ⟨bt, 2, none⟩ u2).setCell ⟨bt, 3, none⟩ u3).cell? ⟨w.heap.size + 1, 3, none⟩ = some (.int .i64 q) ∧ ((((W.setCell ⟨bt, 0, none⟩ u0).setCell ⟨bt, 1, none⟩ u1).setCell ⟨bt, 2, none⟩ u2).setCell ⟨bt, 3, none⟩ u3).cell? ⟨w.heap.size + 1 + 1, 1, none⟩ = some (.int .i64 S.step) ∧ ((((W.setCell ⟨bt, 0, none⟩ u0).setCell ⟨bt, 1, none⟩ u1).setCell ⟨bt, 2, none⟩ u2).setCell ⟨bt, 3, none⟩ u3).cell? ⟨w.heap.size + 1 + 1, 2, none⟩ = some (.slice (some ad1) S.vals.length c1) ∧ ((((W.setCell ⟨bt, 0, none⟩ u0).setCell ⟨bt, 1, none⟩ u1).setCell ⟨bt, 2, none⟩ u2).setCell ⟨bt, 3, none⟩ u3).cell? (ad1.add k) = some (.int .i64 (vAt S.vals k)) ∧ ((((W.setCell ⟨bt, 0, none⟩ u0).setCell ⟨bt, 1, none⟩ u1).setCell ⟨bt, 2, none⟩ u2).setCell ⟨bt, 3, none⟩ u3).cell? (adv.add k) = some (.int .i64 vv)) by
                  intro W u0 u1 u2 u3 h
                  have k8 : ∀ ad : Addr, ad.block ≠ bt → ((((W.setCell ⟨bt, 0, none⟩ u0).setCell ⟨bt, 1, none⟩ u1).setCell ⟨bt, 2, none⟩ u2).setCell ⟨bt, 3, none⟩ u3).cell? ad = W.cell? ad := fun ad hne => by
                    refine World.cell?_of_block (w := W) ?_
                    rw [Below.heap_setCell _ _ _ _ hne, Below.heap_setCell _ _ _ _ hne, Below.heap_setCell _ _ _ _ hne, Below.heap_setCell _ _ _ _ hne]
                  have b0 : w.heap.size ≠ bt ∧ w.heap.size + 1 ≠ bt ∧ w.heap.size + 1 + 1 ≠ bt := by have h1 := HQ2.out.hbt; have h2 := HX3.out.z; omega
                  have b1 : (ad1.add k).block ≠ bt := by rw [block_add]; have h1 := HQ2.out.hbt; have h2 := HAD1.out; omega
                  have b2 : (adv.add k).block ≠ bt := by rw [block_add]; exact HADV.out
                  exact ⟨(k8 _ b0.1).trans h.1, (k8 _ b0.1).trans h.2.1, (k8 _ b0.2.1).trans h.2.2.1, (k8 _ b0.2.1).trans h.2.2.2.1, (k8 _ b0.2.1).trans h.2.2.2.2.1, (k8 _ b0.2.1).trans h.2.2.2.2.2.1, (k8 _ b0.2.2).trans h.2.2.2.2.2.2.1, (k8 _ b0.2.2).trans h.2.2.2.2.2.2.2.1, (k8 _ b1).trans h.2.2.2.2.2.2.2.2.1, (k8 _ b2).trans h.2.2.2.2.2.2.2.2.2⟩)
                have q0 := HF3.out W2.drew (Below.refl _ _).drew
                have B0 := Lib.hid (show Below W2.heap.size W2 W2.drew from (Below.refl _ _).drew)
                go_wp2_with fail
                clear c2k s2
                go_region_held3 (fun w' => w'.cell? ⟨w.heap.size, 0, none⟩ = some (.int .i64 N) ∧ w'.cell? ⟨w.heap.size, 1, none⟩ = some (.slice A n c) ∧ w'.cell? ⟨w.heap.size + 1, 0, none⟩ = some (.int .i64 p) ∧ w'.cell? ⟨w.heap.size + 1, 1, none⟩ = some (.int .i64 s) ∧ w'.cell? ⟨w.heap.size + 1, 2, none⟩ = some (.int .i64 l) ∧ w'.cell? ⟨w.heap.size + 1, 3, none⟩ = some (.int .i64 q) ∧ w'.cell? ⟨w.heap.size + 1 + 1, 1, none⟩ = some (.int .i64 S.step) ∧ w'.cell? ⟨w.heap.size + 1 + 1, 2, none⟩ = some (.slice (some ad1) S.vals.length c1) ∧ w'.cell? (ad1.add k) = some (.int .i64 (vAt S.vals k)) ∧ w'.cell? (adv.add k) = some (.int .i64 vv))
                  (first | with_reducible exact q1 | with_reducible exact q0 | with_reducible exact HQ4.out _ _ _ _ _ q1)
                  (first | ((go_at_call 32); (with_reducible refine (HTU.out _ B0.out).mono ?_); rintro e w7 ⟨hb7, AT, cT, rfl, hoT⟩; have B1 := Lib.hid (B0.out.trans (hb7.mono B0.out.size)); have q1 := HF3.out w7 B1.out; have z7 := (hb7.block bt (lt_of_block HQ2.out.t)).trans HQ2.out.t; have r0 := cell_of_row w7 _ 0 _ 75 (0, 0) z7; have f0 := unfrozen z7 0; have r1 := cell_of_row w7 _ 1 _ 75 (0, 0) z7; have f1 := unfrozen z7 1; have r2 := cell_of_row w7 _ 2 _ 75 (0, 0) z7; have f2 := unfrozen z7 2; have r3 := cell_of_row w7 _ 3 _ 75 (0, 0) z7; have f3 := unfrozen z7 3; have HOT := Lib.hid hoT; clear hoT hb7 z7 q0))
                have HQ3 := Lib.hid (HQ2.out.next B1.out)
                obtain ⟨tv, tm, tb, te⟩ := t
                dsimp only at HOT ⊢
                have HQ7 := Lib.hid ((show Tn w3 bo P (S.step + 1) V cV R cR (valsL T k) (restL T k) bt #[.int .i64 (vAt S.vals k), .slice none 0 0, .bool true, .int .i64 0] AS cS (sentL T k) AT cT tm (.slice (some adv) S.vals.length ld) S.vals.length (vc (nv (vertsI N.toNat q P))) w7 from ⟨HQ3.out.p, HQ3.out.t, HQ3.out.so, HOT.out.lower HQ2.out.p.bl.size, HQ3.out.hbt, HQ3.out.lv⟩).turn (.int .i64 tv) (.slice AT tm.length cT) (.bool tb) (.int .i64 te))
                clear q1 r0 f0 r1 f1 r2 f2 r3 f3 HQ2 HQ3 HTU HF3 HQ4 B0 B1 HOT
                generalize (((w7.setCell ⟨bt, 0, none⟩ (.int .i64 tv)).setCell ⟨bt, 1, none⟩ (.slice AT tm.length cT)).setCell ⟨bt, 2, none⟩ (.bool tb)).setCell ⟨bt, 3, none⟩ (.int .i64 te) = W7 at HQ7 ⊢
                by_cases he : te = 0
                · subst he
                  have HT := HT0
                  have HER := Lib.hid (show errL T (k + 1) = 0 from firstE_ok HE.out (by show (T k).2.2.2 = 0; rw [HT.out]))
                  have HTV := Lib.hid (show valsL T (k + 1) = valsL T k ++ [tv] by rw [valsL_succ, HT.out])
                  have HTB := Lib.hid (show restL T (k + 1) = restL T k ++ [tb] by rw [restL_succ, HT.out])
                  have HTS := Lib.hid (show sentL T (k + 1) = sentL T k ++ tm by rw [sentL_succ, HT.out])
                  have HSL := Lib.hid (show (sentL T k).length ≤ 80 * k from sentL_len T (fun v => by rw [HTT.out]; exact tP_len ..) k)
                  have HML := Lib.hid (show tm.length ≤ 80 by have := tP_len (N := N) (es := es) (p := p) (s := s) (l := l) (q := q) (mkP P S) k; rw [← HTT.out, HT.out] at this; exact this)
                  have v0 := cell_of_row W7 bt 0 _ 75 (0, 0) HQ7.out.t
                  have v3 := cell_of_row W7 bt 3 _ 75 (0, 0) HQ7.out.t
                  have o1 := cell_of_row W7 bo 2 _ 40 (0, 0) HQ7.out.p.nb
                  have HQ8 := Lib.hid (HQ7.out.next (below_alloc W7 (.cells #[.int .i64 tv] 2)))
                  have oa := cell_of_row (W7.alloc (.cells #[.int .i64 tv] 2)) bo 2 _ 40 (0, 0) HQ8.out.p.nb
                  have HV8 := Lib.hid HQ8.out.p.v
                  have HVL := Lib.hid (valsL_len T k)
                  have HRL := Lib.hid (restL_len T k)
                  generalize valsL T k = vs at *
                  generalize restL T k = rs at *
                  generalize sentL T k = se at *
                  have hvk : vs.length ≤ 24 := by have := HVL.out; omega
                  have hrk : rs.length ≤ 24 := by have := HRL.out; omega
                  go_wp2_with (at_builtin; go_must (refine wpList_app2 _ rfl (.tmp 102) (.tmp 105) 27 rfl w3.heap.size 2 iv _ 1 8 Try.underlying27 IV.out ZV.out SV.out BV.out rfl (by decide) V vs.length cV (vc vs) rfl HV8.out (W7.heap.size + 1) (some ⟨W7.heap.size, 0, none⟩) 1 1 (vc [tv]) rfl (lies_v W7 _) (vc_one _) (vs.length + 1) (vc vs ++ vc [tv]) rfl rfl (by unfold maxLen; omega) (by omega) HQ8.out.p.bl.size ?_))
                  intro A9 c9 w9 ho9 hb9 hg9
                  obtain ⟨hq9, t9, f9⟩ := HQ8.out.putV rfl ho9 hb9 hg9
                  have HQ9 := Lib.hid hq9
                  clear hq9 ho9 hb9 hg9 HV8 HQ8 HQ7 o1 oa v0 v3
                  go_upto_region 21 with fail
                  generalize w9.setCell ⟨bo, 2, none⟩ (.slice A9 (vs.length + 1) c9) = W9 at HQ9 ⊢
                  clear t9 f9
                  have v2 := cell_of_row W9 bt 2 _ 75 (0, 0) HQ9.out.t
                  have o2 := cell_of_row W9 bo 3 _ 40 (0, 0) HQ9.out.p.nb
                  have HQa := Lib.hid (HQ9.out.next (below_alloc W9 (.cells #[.bool tb] 4)))
                  have oa := cell_of_row (W9.alloc (.cells #[.bool tb] 4)) bo 3 _ 40 (0, 0) HQa.out.p.nb
                  have HRa := Lib.hid HQa.out.p.r
                  go_wp2_with (at_builtin; go_must (refine wpList_app2 _ rfl (.tmp 111) (.tmp 114) 28 rfl w3.heap.size 4 ir _ 1 1 Try.underlying28 IR.out ZR.out SR.out BR.out rfl (by decide) R rs.length cR (rc rs) rfl HRa.out (W9.heap.size + 1) (some ⟨W9.heap.size, 0, none⟩) 1 1 (rc [tb]) rfl (lies_r W9 _) (rc_one _) (rs.length + 1) (rc rs ++ rc [tb]) rfl rfl (by unfold maxLen; omega) (by omega) HQa.out.p.bl.size ?_))
                  intro Ab cb wb hob hbb hgb
                  obtain ⟨hqb, tb9, fb9⟩ := HQa.out.putR rfl hob hbb hgb
                  have HQb := Lib.hid hqb
                  clear hqb hob hbb hgb HRa HQa HQ9 o2 oa v2
                  go_upto_region 22 with fail
                  generalize wb.setCell ⟨bo, 3, none⟩ (.slice Ab (rs.length + 1) cb) = Wb at HQb ⊢
                  clear tb9 fb9
                  have v1 := cell_of_row Wb bt 1 _ 75 (0, 0) HQb.out.t
                  go_wp2_with (at_builtin; go_must (refine wpList_app2 _ rfl (.tmp 118) (.tmp 120) 29 rfl w3.heap.size 59 i0 _ 2 16 Try.underlying29 HI0.out HZ0.out HZS.out HZB.out rfl (by decide) AS se.length cS (mc se) rfl HQb.out.so Wb.heap.size AT tm.length cT (mc tm) rfl (Lies.of_own HQb.out.st') (mc_one _) (se.length + tm.length) (mc (se ++ tm)) rfl (by rw [mc_append]) (by have := HSL.out; have := HML.out; unfold maxLen; omega) (by have := HSL.out; have := HML.out; omega) HQb.out.p.bl.size ?_))
                  intro Ac cc wc' hoc hbc hgc
                  have HPc := Lib.hid (HQb.out.p.grown HQb.out.so hgc)
                  have HLc := Lib.hid (own_apart HQb.out.lv HQb.out.so hgc (by decide))
                  have HOc := Lib.hid hoc
                  clear hoc hbc hgc HQb v1
                  go_wp2_with fail
                  go_roundw
                  case rel => exact ⟨k + 1, Ac, cc, A9, c9, Ab, cb, by go_num, by omega, by rw [HTS.out, List.length_append], by rw [HTS.out, List.length_append]; exact HOc, by rw [HTV.out, HTB.out]; exact HPc, HLc, HER⟩
                  case measure => simp [intOf]; omega
                · have HRE := Lib.hid (show doR N es p s l q (mkP P S) = (noPt, [], te) by
                    have e1 : errL T S.vals.length = te := (firstE_bad (f := fun v => (T v).2.2.2) HE.out hkv (by show ¬ (T k).2.2.2 = 0; rw [HT0.out]; exact he)).trans (by show (T k).2.2.2 = te; rw [HT0.out])
                    rw [HTT.out] at e1
                    unfold doR
                    rw [if_pos HJ.out, if_pos HRR.out, if_neg (show ¬ (mkP P S).step = 40 from H40.out), if_neg (show ¬ errL (tP N es p s l q (mkP P S)) (mkP P S).vals.length = 0 by show ¬ errL (tP N es p s l q (mkP P S)) S.vals.length = 0; rw [e1]; exact he)]
                    show (noPt, [], errL (tP N es p s l q (mkP P S)) S.vals.length) = _
                    rw [e1])
                  have v3 := cell_of_row W7 bt 3 _ 75 (0, 0) HQ7.out.t
                  have he1 : (te != 0) = true := by simpa using he
                  have HB7 := Lib.hid (HB3.out.trans (HQ7.out.p.bl.mono HB3.out.size))
                  have HX7 := Lib.hid (HX3.out.next HQ7.out.p.bl)
                  clear he HQ7
                  have z2 := H4.out W7 HB7.out
                  have r0 := cell_of_row W7 _ 0 _ 40 (0, 0) z2
                  have f0 := unfrozen z2 0
                  have r1 := cell_of_row W7 _ 1 _ 40 (0, 0) z2
                  have f1 := unfrozen z2 1
                  have r2 := cell_of_row W7 _ 2 _ 40 (0, 0) z2
                  have f2 := unfrozen z2 2
                  have r3 := cell_of_row W7 _ 3 _ 40 (0, 0) z2
                  have f3 := unfrozen z2 3
                  have r4 := cell_of_row W7 _ 4 _ 40 (0, 0) z2
                  have f4 := unfrozen z2 4
                  have r5 := cell_of_row W7 _ 5 _ 40 (0, 0) z2
                  have f5 := unfrozen z2 5
                  have r6 := cell_of_row W7 _ 6 _ 40 (0, 0) z2
                  have f6 := unfrozen z2 6
                  clear z2
                  go_wp2_with fail
                  refine bodyPost_ret (v := .agg #[.int .i64 0, .int .i64 0, .slice none 0 0, .slice none 0 0, .slice none 0 0, .slice none 0 0, .int .i64 te]) (by simp [results, Try.results12, go_sem, r0, r1, r2, r3, r4, r5, r6]) rfl ?_
                  exact rd_no HRE.out (((((((HX7.out.x.bl.setCell (by simp <;> omega) _).setCell (by simp <;> omega) _).setCell (by simp <;> omega) _).setCell (by simp <;> omega) _).setCell (by simp <;> omega) _).setCell (by simp <;> omega) _).setCell (by simp <;> omega) _)
              | true =>
                rw [hrk] at c2k
                have HT := Lib.hid (show T k = (vAt S.vals k, [], true, 0) by rw [HTT.out]; unfold tP; exact turnP_rest hrk (by show atB S.inn ((P.toNat + k * q.toNat : Nat) : Int) = false; rw [← HVV.out]; exact hbk))
                clear hbk hrk
                obtain ⟨AT, hAT⟩ : ∃ AT : Option Addr, AT = none := ⟨_, rfl⟩
                obtain ⟨cT, hcT⟩ : ∃ cT : Nat, cT = 0 := ⟨_, rfl⟩
                obtain ⟨tm, htm⟩ : ∃ tm : List Ms, tm = [] := ⟨_, rfl⟩
                obtain ⟨W7, hW7⟩ : ∃ W7, W7 = W2 := ⟨_, rfl⟩
                have HQ7 := Lib.hid (show Tn w3 bo P (S.step + 1) V cV R cR (valsL T k) (restL T k) bt #[.int .i64 (vAt S.vals k), .slice AT tm.length cT, .bool true, .int .i64 0] AS cS (sentL T k) AT cT tm (.slice (some adv) S.vals.length ld) S.vals.length (vc (nv (vertsI N.toNat q P))) W7 by rw [hAT, hcT, htm, hW7]; exact HQ2.out)
                rw [← htm] at HT
                rw [← hW7] at s2 c2k ⊢
                clear hAT hcT htm hW7 HQ2
                generalize vAt S.vals k = tv at *
                have HER := Lib.hid (show errL T (k + 1) = 0 from firstE_ok HE.out (by show (T k).2.2.2 = 0; rw [HT.out]))
                have HTV := Lib.hid (show valsL T (k + 1) = valsL T k ++ [tv] by rw [valsL_succ, HT.out])
                have HTB := Lib.hid (show restL T (k + 1) = restL T k ++ [true] by rw [restL_succ, HT.out])
                have HTS := Lib.hid (show sentL T (k + 1) = sentL T k ++ tm by rw [sentL_succ, HT.out])
                have HSL := Lib.hid (show (sentL T k).length ≤ 80 * k from sentL_len T (fun v => by rw [HTT.out]; exact tP_len ..) k)
                have HML := Lib.hid (show tm.length ≤ 80 by have := tP_len (N := N) (es := es) (p := p) (s := s) (l := l) (q := q) (mkP P S) k; rw [← HTT.out, HT.out] at this; exact this)
                have v0 := cell_of_row W7 bt 0 _ 75 (0, 0) HQ7.out.t
                have v3 := cell_of_row W7 bt 3 _ 75 (0, 0) HQ7.out.t
                have o1 := cell_of_row W7 bo 2 _ 40 (0, 0) HQ7.out.p.nb
                have HQ8 := Lib.hid (HQ7.out.next (below_alloc W7 (.cells #[.int .i64 tv] 2)))
                have oa := cell_of_row (W7.alloc (.cells #[.int .i64 tv] 2)) bo 2 _ 40 (0, 0) HQ8.out.p.nb
                have HV8 := Lib.hid HQ8.out.p.v
                have HVL := Lib.hid (valsL_len T k)
                have HRL := Lib.hid (restL_len T k)
                generalize valsL T k = vs at *
                generalize restL T k = rs at *
                generalize sentL T k = se at *
                have hvk : vs.length ≤ 24 := by have := HVL.out; omega
                have hrk : rs.length ≤ 24 := by have := HRL.out; omega
                go_wp2_with (at_builtin; go_must (refine wpList_app2 _ rfl (.tmp 102) (.tmp 105) 27 rfl w3.heap.size 2 iv _ 1 8 Try.underlying27 IV.out ZV.out SV.out BV.out rfl (by decide) V vs.length cV (vc vs) rfl HV8.out (W7.heap.size + 1) (some ⟨W7.heap.size, 0, none⟩) 1 1 (vc [tv]) rfl (lies_v W7 _) (vc_one _) (vs.length + 1) (vc vs ++ vc [tv]) rfl rfl (by unfold maxLen; omega) (by omega) HQ8.out.p.bl.size ?_))
                intro A9 c9 w9 ho9 hb9 hg9
                obtain ⟨hq9, t9, f9⟩ := HQ8.out.putV rfl ho9 hb9 hg9
                have HQ9 := Lib.hid hq9
                clear hq9 ho9 hb9 hg9 HV8 HQ8 HQ7 o1 oa v0 v3
                go_upto_region 21 with fail
                generalize w9.setCell ⟨bo, 2, none⟩ (.slice A9 (vs.length + 1) c9) = W9 at HQ9 ⊢
                clear t9 f9
                have v2 := cell_of_row W9 bt 2 _ 75 (0, 0) HQ9.out.t
                have o2 := cell_of_row W9 bo 3 _ 40 (0, 0) HQ9.out.p.nb
                have HQa := Lib.hid (HQ9.out.next (below_alloc W9 (.cells #[.bool true] 4)))
                have oa := cell_of_row (W9.alloc (.cells #[.bool true] 4)) bo 3 _ 40 (0, 0) HQa.out.p.nb
                have HRa := Lib.hid HQa.out.p.r
                go_wp2_with (at_builtin; go_must (refine wpList_app2 _ rfl (.tmp 111) (.tmp 114) 28 rfl w3.heap.size 4 ir _ 1 1 Try.underlying28 IR.out ZR.out SR.out BR.out rfl (by decide) R rs.length cR (rc rs) rfl HRa.out (W9.heap.size + 1) (some ⟨W9.heap.size, 0, none⟩) 1 1 (rc [true]) rfl (lies_r W9 _) (rc_one _) (rs.length + 1) (rc rs ++ rc [true]) rfl rfl (by unfold maxLen; omega) (by omega) HQa.out.p.bl.size ?_))
                intro Ab cb wb hob hbb hgb
                obtain ⟨hqb, tb9, fb9⟩ := HQa.out.putR rfl hob hbb hgb
                have HQb := Lib.hid hqb
                clear hqb hob hbb hgb HRa HQa HQ9 o2 oa v2
                go_upto_region 22 with fail
                generalize wb.setCell ⟨bo, 3, none⟩ (.slice Ab (rs.length + 1) cb) = Wb at HQb ⊢
                clear tb9 fb9
                have v1 := cell_of_row Wb bt 1 _ 75 (0, 0) HQb.out.t
                go_wp2_with (at_builtin; go_must (refine wpList_app2 _ rfl (.tmp 118) (.tmp 120) 29 rfl w3.heap.size 59 i0 _ 2 16 Try.underlying29 HI0.out HZ0.out HZS.out HZB.out rfl (by decide) AS se.length cS (mc se) rfl HQb.out.so Wb.heap.size AT tm.length cT (mc tm) rfl (Lies.of_own HQb.out.st') (mc_one _) (se.length + tm.length) (mc (se ++ tm)) rfl (by rw [mc_append]) (by have := HSL.out; have := HML.out; unfold maxLen; omega) (by have := HSL.out; have := HML.out; omega) HQb.out.p.bl.size ?_))
                intro Ac cc wc' hoc hbc hgc
                have HPc := Lib.hid (HQb.out.p.grown HQb.out.so hgc)
                have HLc := Lib.hid (own_apart HQb.out.lv HQb.out.so hgc (by decide))
                have HOc := Lib.hid hoc
                clear hoc hbc hgc HQb v1
                go_wp2_with fail
                go_roundw
                case rel => exact ⟨k + 1, Ac, cc, A9, c9, Ab, cb, by go_num, by omega, by rw [HTS.out, List.length_append], by rw [HTS.out, List.length_append]; exact HOc, by rw [HTV.out, HTB.out]; exact HPc, HLc, HER⟩
                case measure => simp [intOf]; omega
          · have hk' : k = S.vals.length := by omega
            subst hk'
            have HLD := Lib.hid (show sentL T S.vals.length = doS N es p s l q (mkP P S) by rw [HTT.out]; rfl)
            have HLB2 := Lib.hid (show ∀ e ∈ sentL T S.vals.length, bd e.2 by rw [HTT.out]; exact sentP_bd HS.out.ok _)
            have HLT := Lib.hid (show ∀ e ∈ sentL T S.vals.length, bd e.1 by
              rw [HTT.out]
              intro e he
              have := sentP_to (N := N) (es := es) (p := p) (s := s) (l := l) (q := q) (mkP P S) _ e he
              unfold bd; omega)
            have HLL := Lib.hid (show (sentL T S.vals.length).length ≤ 2000 by
              have := sentL_len T (fun v => by rw [HTT.out]; exact tP_len ..) S.vals.length
              omega)
            generalize sentL T S.vals.length = L at *
            obtain ⟨a, ha⟩ : ∃ a, a = q.toNat := ⟨_, rfl⟩
            have HQA := Lib.hid ha
            have hqa : q = (a : Int) := by omega
            have HQI := Lib.hid hqa
            clear ha hqa HXW HL
            have hkn : ¬ (S.vals.length : Int) < (S.vals.length : Int) := by omega
            go_wp2_with fail
            go_loopw [15] (fun i W => RfRel p a L w3 bo P (S.step + 1) V cV R cR (valsL T S.vals.length) (restL T S.vals.length) AS cS i W) (fun i W => a - (intOf i).toNat)
            case atStart => exact ⟨0, none, 0, [], rfl, Nat.zero_le _, Lib.hid rfl, HP, HO, Lib.hid rfl⟩
            case round =>
              clear HP HO
              obtain ⟨k, D, cD, os, rfl, hk, HMP, HP, HO, HEF⟩ := hrel
              have HXW := Lib.hid (HX3.out.next HP.out.bl)
              have ha6 : 1 ≤ a ∧ a ≤ 6 := by have := HQI.out; omega
              have HOL := Lib.hid (show os.length = k by have := congrArg List.length HMP.out; simpa using this)
              by_cases hka : k < a
              · have hkq : (k : Int) < q := by have := HQI.out; omega
                have j3 := HXW.out.x.j3
                have CT := Lib.hid (fun (W : World) (hb : Below wr.heap.size wr W) => rto_any p s l q k AS cS L W ((Lies.of_own HO.out).next hb) (by have := HLL.out; omega) HLT.out hq1 hq6)
                rw [← HQA.out] at CT
                have HTL := Lib.hid (show (toK a k L).length ≤ 2000 by have h1 : (toK a k L).length ≤ L.length := List.length_filter_le _ _; have := HLL.out; omega)
                have CF := Lib.hid (fun (W : World) (B : Option Addr) (cB : Nat) (hl : Lies W W.heap.size 2 B (toK a k L).length (mc (toK a k L))) => rfdf_any p B (toK a k L).length cB (toK a k L) W hl (by have := HTL.out; omega) (fun e he => HLB2.out e (List.mem_filter.1 he).1))
                have HF := Lib.hid (show ∀ W : World, Below wr.heap.size wr W → W.cell? ⟨w.heap.size + 1, 0, none⟩ = some (.int .i64 p) ∧ W.cell? ⟨w.heap.size + 1, 1, none⟩ = some (.int .i64 s) ∧ W.cell? ⟨w.heap.size + 1, 2, none⟩ = some (.int .i64 l) ∧ W.cell? ⟨w.heap.size + 1, 3, none⟩ = some (.int .i64 q) ∧ Below wr.heap.size wr W by
                  intro W hb
                  have h := HXW.out.next hb
                  exact ⟨h.x.j0, h.x.j1, h.x.j2, h.x.j3, hb⟩)
                have q0 := HF.out wr.drew (Below.refl _ _).drew
                have HFO := Lib.hid (show foR p a L k = fdR p (toK a k L) from rfl)
                have HFC := Lib.hid (show foC p a L k = fdC p (toK a k L) from rfl)
                generalize toK a k L = X at *
                generalize fdR p X = FR at *
                generalize fdC p X = fc at *
                go_wp2_with fail
                clear j3
                go_region_held3 (fun w' => w'.cell? ⟨w.heap.size + 1, 0, none⟩ = some (.int .i64 p) ∧ w'.cell? ⟨w.heap.size + 1, 1, none⟩ = some (.int .i64 s) ∧ w'.cell? ⟨w.heap.size + 1, 2, none⟩ = some (.int .i64 l) ∧ w'.cell? ⟨w.heap.size + 1, 3, none⟩ = some (.int .i64 q) ∧ Below wr.heap.size wr w')
                  (first | with_reducible exact q2 | with_reducible exact q1 | with_reducible exact q0)
                  (first | ((go_at_call 34); (with_reducible refine (CT.out _ q0.2.2.2.2).mono ?_); rintro e w5 ⟨B, cB, rfl, hoB, hb5⟩; have q1 := HF.out w5 (q0.2.2.2.2.trans (hb5.mono q0.2.2.2.2.size)); have HLX := Lib.hid (Lies.of_own hoB); clear hoB hb5 q0) | ((go_at_call 33); (with_reducible refine (CF.out _ _ _ HLX.out).mono ?_); rintro e w6 ⟨AF, cF, rfl, hoF, hb6⟩; have q2 := HF.out w6 (q1.2.2.2.2.trans (hb6.mono q1.2.2.2.2.size)); have HOF := Lib.hid hoF; have HSZ := Lib.hid q1.2.2.2.2.size; clear hoF hb6 q1))
                have hb6 := q2.2.2.2.2
                have HP6 := Lib.hid (HP.out.next hb6)
                have HO6 := Lib.hid (own_next HO.out hb6)
                have HF6 := Lib.hid (HOF.out.lower (Nat.le_trans HP.out.bl.size HSZ.out))
                clear q2 hb6 HF CT CF HP HO HOF HXW
                by_cases hf : fc = 0
                · have HE1 := Lib.hid (show firstE (foC p a L) (k + 1) = 0 from firstE_ok HEF.out (by rw [HFC.out]; exact hf))
                  have HM1 := Lib.hid (show (os ++ [(⟨AF, cF, FR⟩ : Le)]).map Le.ms = (List.range (k + 1)).map (foR p a L) by rw [List.map_append, HMP.out, List.range_succ, List.map_append]; simp [HFO.out])
                  subst hf
                  have hb8 := below_alloc w6 (.cells #[.slice AF FR.length cF] 29)
                  have o1 := cell_of_row w6 bo 5 _ 40 (0, 0) HP6.out.nb
                  have HP8 := Lib.hid (HP6.out.next hb8)
                  have oa := cell_of_row (w6.alloc (.cells #[.slice AF FR.length cF] 29)) bo 5 _ 40 (0, 0) HP8.out.nb
                  have HO8 := Lib.hid (own_next HO6.out hb8)
                  have HF8 := Lib.hid (own_next HF6.out hb8)
                  have HR8 := Lib.hid HP8.out.o
                  have HL8 := Lib.hid (show Lies (w6.alloc (.cells #[.slice AF FR.length cF] 29)) (w6.heap.size + 1) 1 (some ⟨w6.heap.size, 0, none⟩) 1 (lcl [⟨AF, cF, FR⟩]) from lies_cells w6 (lcl [⟨AF, cF, FR⟩]) 29 1 1 rfl)
                  have ho6 : os.length ≤ 6 := by have := HOL.out; omega
                  clear hb8 HP6 HO6 HF6
                  go_wp2_with (at_builtin; go_must (refine wpList_app2 _ rfl (.tmp 143) (.tmp 145) 35 rfl w3.heap.size 29 il _ 1 24 Try.underlying35 IL.out ZL.out SL.out BL.out rfl (by decide) D os.length cD (lcl os) rfl HR8.out (w6.heap.size + 1) (some ⟨w6.heap.size, 0, none⟩) 1 1 (lcl [⟨AF, cF, FR⟩]) rfl HL8.out (fun u hu => by have hu : u ∈ [Value.slice AF FR.length cF] := hu; rw [List.mem_singleton.1 hu]; rfl) (os.length + 1) (lcl os ++ lcl [⟨AF, cF, FR⟩]) rfl rfl (by unfold maxLen; omega) (by omega) HP8.out.bl.size ?_))
                  intro A9 c9 w9 ho9 hb9 hg9
                  obtain ⟨hp9, t9, f9⟩ := HP8.out.putO (ys := [⟨AF, cF, FR⟩]) rfl ho9 hb9 hg9 (fun e he => by rw [List.mem_singleton.1 he]; exact HF8.out)
                  have HP9 := Lib.hid hp9
                  have HO9 := Lib.hid (HP8.out.keepO (i := 5) (y := .slice A9 (os.length + 1) c9) HO8.out (by decide) (by decide) hg9)
                  clear hp9 ho9 hb9 hg9 HR8 HL8 HP8 HO8 HF8 o1 oa
                  go_wp2_with fail
                  go_roundw
                  case rel => exact ⟨k + 1, A9, c9, _, by go_num, by omega, HM1, HP9, HO9, HE1⟩
                  case measure => simp [intOf]; omega
                · have HRE := Lib.hid (show doR N es p s l q (mkP P S) = (noPt, [], fc) by
                    have e1 : firstE (foC p a L) a = fc := (firstE_bad HEF.out hka (by rw [HFC.out]; exact hf)).trans HFC.out
                    have e2 : doC N es p s l q (mkP P S) = fc := by rw [← foC_eq, ← HLD.out, ← HQA.out]; exact e1
                    unfold doR
                    rw [if_pos HJ.out, if_pos HRR.out, if_neg (show ¬ (mkP P S).step = 40 from H40.out), if_pos (show errL (tP N es p s l q (mkP P S)) (mkP P S).vals.length = 0 by rw [← HTT.out]; exact HE.out), if_neg (by rw [e2]; exact hf), e2])
                  have he1 : (fc != 0) = true := by simpa using hf
                  have HB7 := Lib.hid (HB3.out.trans (HP6.out.bl.mono HB3.out.size))
                  have HX7 := Lib.hid (HX3.out.next HP6.out.bl)
                  clear hf HP6
                  have z2 := H4.out w6 HB7.out
                  have r0 := cell_of_row w6 _ 0 _ 40 (0, 0) z2
                  have f0 := unfrozen z2 0
                  have r1 := cell_of_row w6 _ 1 _ 40 (0, 0) z2
                  have f1 := unfrozen z2 1
                  have r2 := cell_of_row w6 _ 2 _ 40 (0, 0) z2
                  have f2 := unfrozen z2 2
                  have r3 := cell_of_row w6 _ 3 _ 40 (0, 0) z2
                  have f3 := unfrozen z2 3
                  have r4 := cell_of_row w6 _ 4 _ 40 (0, 0) z2
                  have f4 := unfrozen z2 4
                  have r5 := cell_of_row w6 _ 5 _ 40 (0, 0) z2
                  have f5 := unfrozen z2 5
                  have r6 := cell_of_row w6 _ 6 _ 40 (0, 0) z2
                  have f6 := unfrozen z2 6
                  clear z2
                  go_wp2_with fail
                  refine bodyPost_ret (v := .agg #[.int .i64 0, .int .i64 0, .slice none 0 0, .slice none 0 0, .slice none 0 0, .slice none 0 0, .int .i64 fc]) (by simp [results, Try.results12, go_sem, r0, r1, r2, r3, r4, r5, r6]) rfl ?_
                  exact rd_no HRE.out (((((((HX7.out.x.bl.setCell (by simp <;> omega) _).setCell (by simp <;> omega) _).setCell (by simp <;> omega) _).setCell (by simp <;> omega) _).setCell (by simp <;> omega) _).setCell (by simp <;> omega) _).setCell (by simp <;> omega) _)
              · have hk' : k = a := by omega
                subst hk'
                have hkq : ¬ (k : Int) < q := by have := HQI.out; omega
                have j3 := HXW.out.x.j3
                have HRE := Lib.hid (show doR N es p s l q (mkP P S) = (mkP P (nextS N es p s l q P S), (List.range q.toNat).map (foR p q.toNat (doS N es p s l q (mkP P S))), 0) by
                  have e2 : doC N es p s l q (mkP P S) = 0 := by rw [← foC_eq, ← HLD.out, ← HQA.out]; exact HEF.out
                  unfold doR
                  rw [if_pos HJ.out, if_pos HRR.out, if_neg (show ¬ (mkP P S).step = 40 from H40.out), if_pos (show errL (tP N es p s l q (mkP P S)) (mkP P S).vals.length = 0 by rw [← HTT.out]; exact HE.out), if_pos e2]; rfl)
                have HB7 := Lib.hid (HB3.out.trans (HP.out.bl.mono HB3.out.size))
                have z2 := H4.out wr HB7.out
                have r0 := cell_of_row wr _ 0 _ 40 (0, 0) z2
                have f0 := unfrozen z2 0
                have r1 := cell_of_row wr _ 1 _ 40 (0, 0) z2
                have f1 := unfrozen z2 1
                have r2 := cell_of_row wr _ 2 _ 40 (0, 0) z2
                have f2 := unfrozen z2 2
                have r3 := cell_of_row wr _ 3 _ 40 (0, 0) z2
                have f3 := unfrozen z2 3
                have r4 := cell_of_row wr _ 4 _ 40 (0, 0) z2
                have f4 := unfrozen z2 4
                have r5 := cell_of_row wr _ 5 _ 40 (0, 0) z2
                have f5 := unfrozen z2 5
                have r6 := cell_of_row wr _ 6 _ 40 (0, 0) z2
                have f6 := unfrozen z2 6
                have c08 := cell_of_row wr bo 0 _ 40 (0, 0) HP.out.nb
                have c18 := cell_of_row wr bo 1 _ 40 (0, 0) HP.out.nb
                have c28 := cell_of_row wr bo 2 _ 40 (0, 0) HP.out.nb
                have c38 := cell_of_row wr bo 3 _ 40 (0, 0) HP.out.nb
                have c48 := cell_of_row wr bo 4 _ 40 (0, 0) HP.out.nb
                have c58 := cell_of_row wr bo 5 _ 40 (0, 0) HP.out.nb
                have c68 := cell_of_row wr bo 6 _ 40 (0, 0) HP.out.nb
                have hlt3 : w.heap.size + 1 + 1 + 1 < w3.heap.size := Nat.lt_of_lt_of_le (lt_of_block (H4.out w4 (Below.refl _ _))) HB3.out.size
                have hne : ¬ w.heap.size + 1 + 1 + 1 = bo := by have := HBO.out; omega
                rw [valsL_len] at c28
                rw [restL_len] at c38
                clear z2
                go_wp2_with fail
                refine bodyPost_ret (v := .agg #[.int .i64 P, .int .i64 (S.step + 1), .slice V S.vals.length cV, .slice R S.vals.length cR, .slice none 0 0, .slice D os.length cD, .int .i64 0]) (by simp [results, Try.results12, go_sem, r0, r1, r2, r3, r4, r5, r6]) rfl ?_
                rw [HRE.out]
                have hvl : (nextS N es p s l q P S).vals.length = S.vals.length := valsL_len ..
                have hrl : (nextS N es p s l q P S).rest.length = S.vals.length := restL_len ..
                have hkk := sev7 (W := wr) hlt3 (.int .i64 P) (.int .i64 (S.step + 1)) (.slice V S.vals.length cV) (.slice R S.vals.length cR) (.slice none 0 0) (.slice D os.length cD) (.int .i64 0)
                refine ⟨(((((((HXW.out.x.bl.setCell (by simp <;> omega) _).setCell (by simp <;> omega) _).setCell (by simp <;> omega) _).setCell (by simp <;> omega) _).setCell (by simp <;> omega) _).setCell (by simp <;> omega) _).setCell (by simp <;> omega) _), P, nextS N es p s l q P S, V, cV, R, cR, none, 0, D, cD, os, by rw [hvl, hrl]; rfl, rfl, by rw [HMP.out, HLD.out, HQA.out], ?_, ?_⟩
                · have hv8 := own_block HP.out.v hkk
                  have hr8 := own_block HP.out.r hkk
                  rw [valsL_len] at hv8
                  rw [restL_len] at hr8
                  refine ⟨?_, ?_, Lies.nil, ?_, ?_, Nat.le_refl _, nextS_ok HS.out.ok hs1⟩
                  · rw [hvl]; unfold nextS; rw [← HTT.out]; exact Lies.of_own hv8
                  · rw [hrl]; unfold nextS; rw [← HTT.out]; exact Lies.of_own hr8
                  · rw [hvl]; exact own_cap hv8
                  · rw [hrl]; exact own_cap hr8
                · exact ⟨Lies.of_own (own_block HP.out.o hkk), own_cap HP.out.o, fun e he => Lies.of_own (own_block (HP.out.el e he) hkk)⟩
  · have HR := Lib.hid (show doR N es p s l q (mkP P S) = (noPt, [], jchk N es p s l q) by unfold doR; rw [if_neg hj])
    have he1 : (jchk N es p s l q != 0) = true := by simpa using hj
    clear hj
    generalize jchk N es p s l q = te at *
    have z2 := H4.out w1 HB1.out
    have r0 := cell_of_row w1 _ 0 _ 40 (0, 0) z2
    have f0 := unfrozen z2 0
    have r1 := cell_of_row w1 _ 1 _ 40 (0, 0) z2
    have f1 := unfrozen z2 1
    have r2 := cell_of_row w1 _ 2 _ 40 (0, 0) z2
    have f2 := unfrozen z2 2
    have r3 := cell_of_row w1 _ 3 _ 40 (0, 0) z2
    have f3 := unfrozen z2 3
    have r4 := cell_of_row w1 _ 4 _ 40 (0, 0) z2
    have f4 := unfrozen z2 4
    have r5 := cell_of_row w1 _ 5 _ 40 (0, 0) z2
    have f5 := unfrozen z2 5
    have r6 := cell_of_row w1 _ 6 _ 40 (0, 0) z2
    have f6 := unfrozen z2 6
    clear z2
    go_wp2_with fail
    refine bodyPost_ret (v := .agg #[.int .i64 0, .int .i64 0, .slice none 0 0, .slice none 0 0, .slice none 0 0, .slice none 0 0, .int .i64 te]) (by simp [results, Try.results12, go_sem, r0, r1, r2, r3, r4, r5, r6]) rfl ?_
    exact rd_no HR.out (((((((HX1.out.x.bl.setCell (by simp <;> omega) _).setCell (by simp <;> omega) _).setCell (by simp <;> omega) _).setCell (by simp <;> omega) _).setCell (by simp <;> omega) _).setCell (by simp <;> omega) _).setCell (by simp <;> omega) _)
end Go.Proofs.Ytcaccjfnibjbpaa
