/-
  The walk of SeqSteady: of a state that is quiet a superstep changes nothing but Step. No condition.
-/
import Derived.Test.YtkmflofokgkekaaSqP
import Derived.Test.YtkmflofokgkekaaSqQ
import Derived.Test.YtkmflofokgkekaaSqI
import Derived.Test.YtkmflofokgkekaaWayN
import Derived.Deep.Cut
namespace Go.Proofs.Ytkmflofokgkekaa
open Go.ChangeShapes Go.WideShapes Go.ChangeAt Go.RowKit
set_option linter.unusedVariables false

def SdRel (w6 : World) (b2 m : Nat) (st : Int) (A1 : Option Addr) (nv c1 : Nat) (i : Value) (W : World) : Prop :=
  ∃ (k : Nat) (R : Option Addr) (cR : Nat), i = .int .i64 k ∧ k ≤ m ∧ Hid (W.heap[b2]? = some (.cells #[.int .i64 st, .slice A1 nv c1, .slice R k cR, .slice none 0 0] 31 (0, 0))) ∧ Hid (W.ownsRow w6.heap.size 4 1 (.slice R k cR) k (rc (List.replicate k true))) ∧ Hid (Bel1 w6.heap.size b2 w6 W)
theorem repT_succ (k : Nat) : List.replicate (k + 1) true = List.replicate k true ++ [true] := by rw [List.replicate_succ']

set_option maxRecDepth 20000 in
set_option maxHeartbeats 4000000 in
theorem steady_walk (N : Int) (A : Option Addr) (n c : Nat) (es : List Ed) (p s l q : Int) (S : St) (A1 : Option Addr) (c1 : Nat) (A2 : Option Addr) (c2 : Nat) (A3 : Option Addr) (c3 : Nat) (w : World) (hA : Lies w w.heap.size 3 A n (ec es)) (hnc : n ≤ c) (hn : n ≤ maxLen) (hS : StI w S A1 c1 A2 c2 A3 c3) :
    Calls Try.prog 8 #[.agg #[.int .i64 N, .slice A n c], .agg #[.int .i64 p, .int .i64 s, .int .i64 l, .int .i64 q], .agg #[.int .i64 S.step, .slice A1 S.vals.length c1, .slice A2 S.rest.length c2, .slice A3 S.inn.length c3]] w fun e w' => e = .returned (.bool true) ∧ Below w.heap.size w w' := by
  have mixed : Try.prog.follows .mixedOrders = true := by kernel_rfl
  obtain ⟨ir, hir, hzr, hzsr, hzbr⟩ := info_parts (show (Try.prog.info? 4).map (fun i => (i.zero, i.size, i.bytes)) = some (some (.bool false), 1, 1) by kernel_rfl)
  have IR := Lib.hid hir
  have ZR := Lib.hid hzr
  have SR := Lib.hid hzsr
  have BR := Lib.hid hzbr
  clear hir hzr hzsr hzbr
  obtain ⟨w3, hw3⟩ : ∃ w3, w3 = ((w.alloc (.cells #[.int .i64 N, .slice A n c] 24)).alloc (.cells #[.int .i64 p, .int .i64 s, .int .i64 l, .int .i64 q] 26)).alloc (.cells #[.int .i64 S.step, .slice A1 S.vals.length c1, .slice A2 S.rest.length c2, .slice A3 S.inn.length c3] 31) := ⟨_, rfl⟩
  have HBS := Lib.hid (show Bs w N A n c p s l q S A1 c1 A2 c2 A3 c3 w3 by rw [hw3]; exact Bs.init w N A n c p s l q S A1 c1 A2 c2 A3 c3)
  have HT := Lib.hid (fun (W : World) (hb : Below w3.heap.size w3 W) => third w N A n c p s l q (.cells #[.int .i64 S.step, .slice A1 S.vals.length c1, .slice A2 S.rest.length c2, .slice A3 S.inn.length c3] 31) W (by rw [hw3] at hb; exact hb))
  have HA0 := Lib.hid hA
  have HA := Lib.hid (hA.next HBS.out.x.bl)
  have HSI := Lib.hid hS
  clear hA hS
  go_enter Try.func8, Try.ntmps8
  go_wp2_with fail
  rw [← hw3]
  clear hw3
  by_cases hg : 200 < n
  · refine (great_any N A n c _ true (by simpa using hg)).mono ?_
    rintro e w1 ⟨rfl, hb1⟩
    have HB1 := Lib.hid (HBS.out.next hb1).x.bl
    clear hb1
    go_wp2_with fail
    refine (knows_any _).mono ?_
    rintro e wk ⟨rfl, hbk⟩
    have BK := Lib.hid (HB1.out.trans (hbk.mono HB1.out.size))
    clear hbk
    go_wp2_with fail
    go_ret
    exact ⟨rfl, BK.out⟩
  · refine (great_any N A n c _ false (by simpa using hg)).mono ?_
    rintro e w1 ⟨rfl, hb1⟩
    have HB0 := Lib.hid hb1
    have hx1 := HBS.out.next hb1
    have s0 := hx1.s0
    have s1 := hx1.s1
    have s2 := hx1.s2
    have s3 := hx1.s3
    clear hb1 hx1 hg
    go_wp2_with fail
    refine (wide_any S A1 c1 A2 c2 A3 c3 _).mono ?_
    rintro e w2 ⟨rfl, hb2⟩
    have HB2 := Lib.hid (HB0.out.trans (hb2.mono HB0.out.size))
    have hx2 := HBS.out.next HB2.out
    have HBW := Lib.hid hx2.x.bl
    clear hb2 s0 s1 s2 s3
    cases hw : wideB S with
    | true =>
      clear hw hx2
      go_wp2_with fail
      refine (knows_any _).mono ?_
      rintro e wk ⟨rfl, hbk⟩
      have BK := Lib.hid (HBW.out.trans (hbk.mono HBW.out.size))
      clear hbk
      go_wp2_with fail
      go_ret
      exact ⟨rfl, BK.out⟩
    | false =>
      have HSL := Lib.hid (HSI.out.ok hw)
      clear hw
      have g0 := hx2.x.g0
      have g1 := hx2.x.g1
      have j0 := hx2.x.j0
      have j1 := hx2.x.j1
      have j2 := hx2.x.j2
      have j3 := hx2.x.j3
      clear hx2
      go_wp2_with fail
      refine (rjcheck_any N A n c es p s l q _ (HA.out.next HB2.out) hnc hn).mono ?_
      rintro e w6 ⟨rfl, hb6⟩
      have HB6 := Lib.hid (HB2.out.trans (hb6.mono HB2.out.size))
      have HX6 := Lib.hid (HBS.out.next HB6.out)
      have HW6 := Lib.hid HX6.out.x.bl
      clear hb6 g0 g1 j0 j1 j2 j3
      by_cases hj : jchk N es p s l q = 0
      · have HJ := Lib.hid hj
        have HN := Lib.hid (jchk_N hj)
        rw [hj]
        clear hj
        obtain ⟨m, hm⟩ : ∃ m : Nat, N = m := ⟨N.toNat, by have := HN.out; omega⟩
        have HM := Lib.hid hm
        clear hm
        have hz6 := (HT.out w6 HB6.out).1
        have hlt6 := (HT.out w6 HB6.out).2
        have hlt3 := (HT.out w3 (Below.refl _ _)).2
        have r2 := cell_of_row w6 _ 2 _ 31 (0, 0) hz6
        have f2 := unfrozen hz6 2
        have r3 := cell_of_row w6 _ 3 _ 31 (0, 0) hz6
        have f3 := unfrozen hz6 3
        have HZ0 := Lib.hid (show ((w6.setCell ⟨w.heap.size + 1 + 1, 3, none⟩ (.slice none 0 0)).setCell ⟨w.heap.size + 1 + 1, 2, none⟩ (.slice none 0 0)).heap[w.heap.size + 1 + 1]? = some (.cells #[.int .i64 S.step, .slice A1 S.vals.length c1, .slice none 0 0, .slice none 0 0] 31 (0, 0)) from set_heap (set_heap hz6 _) _)
        have HBL0 := Lib.hid (((Bel1.refl w6.heap.size (w.heap.size + 1 + 1) w6).set 3 (.slice none 0 0)).set 2 (.slice none 0 0))
        clear hz6
        go_wp2_with fail
        generalize (w6.setCell ⟨w.heap.size + 1 + 1, 3, none⟩ (.slice none 0 0)).setCell ⟨w.heap.size + 1 + 1, 2, none⟩ (.slice none 0 0) = W0 at HZ0 HBL0 ⊢
        clear r2 f2 r3 f3
        go_loopw [7] (fun i W => SdRel w6 (w.heap.size + 1 + 1) m S.step A1 S.vals.length c1 i W) (fun i W => m - (intOf i).toNat)
        case atStart => exact ⟨0, none, 0, rfl, Nat.zero_le _, HZ0, World.ownsRow_nil _ _ _ _, HBL0⟩
        case round =>
          clear HZ0 HBL0
          obtain ⟨k, R, cR, rfl, hk, HZ, HO, HBL⟩ := hrel
          have g0 : wr.cell? ⟨w.heap.size, 0, none⟩ = some (.int .i64 N) := (HBL.out.cell (p := ⟨w.heap.size, 0, none⟩) (by show w.heap.size < _; omega) (by show w.heap.size ≠ _; omega)).trans HX6.out.x.g0
          by_cases hkm : k < m
          · have hkN : (k : Int) < N := by have := HM.out; omega
            have hk24 : k < 24 := by have := HM.out; have := HN.out; omega
            have o2 := cell_of_row wr (w.heap.size + 1 + 1) 2 _ 31 (0, 0) HZ.out
            have hba := below_alloc wr (.cells #[.bool true] 4)
            have hltw := lt_of_block HZ.out
            have oa : (wr.alloc (.cells #[.bool true] 4)).cell? ⟨w.heap.size + 1 + 1, 2, none⟩ = some (.slice R k cR) := (World.cell?_alloc_lt wr _ _ hltw).trans o2
            have HO8 := Lib.hid (own_next HO.out hba)
            have HZ8 := Lib.hid ((hba.block _ hltw).trans HZ.out)
            have HBL8 := Lib.hid (HBL.out.below hba HBL.out.size)
            have hlt8 : w.heap.size + 1 + 1 < (wr.alloc (.cells #[.bool true] 4)).heap.size := lt_of_block HZ8.out
            have HS8 := Lib.hid (show w6.heap.size ≤ (wr.alloc (.cells #[.bool true] 4)).heap.size from HBL8.out.size)
            clear hba
            go_wp2_with (at_builtin; go_must (refine wpList_app2 _ rfl (.tmp 32) (.tmp 33) 28 rfl w6.heap.size 4 ir _ 1 1 Try.underlying28 IR.out ZR.out SR.out BR.out rfl (by decide) R k cR (rc (List.replicate k true)) rfl HO8.out (wr.heap.size + 1) (some ⟨wr.heap.size, 0, none⟩) 1 1 (rc [true]) rfl (lies_r wr _) (rc_one _) (k + 1) (rc (List.replicate k true) ++ rc [true]) rfl rfl (by unfold maxLen; omega) (by omega) HS8.out ?_))
            intro A5 c5 w5 ho5 hb5 hg5
            have hz5 := (hg5.block _ hlt8 (fun e => own_ne HO8.out HZ8.out (by decide) e.symm)).trans HZ8.out
            have t5 := cell_of_row w5 (w.heap.size + 1 + 1) 2 _ 31 (0, 0) hz5
            have f5 := unfrozen hz5 2
            have HZ5 := Lib.hid (show (w5.setCell ⟨w.heap.size + 1 + 1, 2, none⟩ (.slice A5 (k + 1) c5)).heap[w.heap.size + 1 + 1]? = some (.cells #[.int .i64 S.step, .slice A1 S.vals.length c1, .slice A5 (k + 1) c5, .slice none 0 0] 31 (0, 0)) from set_heap hz5 _)
            have HO5 := Lib.hid (show (w5.setCell ⟨w.heap.size + 1 + 1, 2, none⟩ (.slice A5 (k + 1) c5)).ownsRow w6.heap.size 4 1 (.slice A5 (k + 1) c5) (k + 1) (rc (List.replicate (k + 1) true)) by
              rw [repT_succ, rc_app]
              exact ownsRow_setCell_other ho5 (a := ⟨w.heap.size + 1 + 1, 2, none⟩) (own_ne ho5 hz5 (by decide)) _)
            have HBL5 := Lib.hid ((HBL8.out.below hb5 (Nat.le_refl _)).set 2 (.slice A5 (k + 1) c5))
            clear hz5 ho5 hb5 hg5 HO8 HZ8 HBL8 o2 oa g0
            go_wp2_with fail
            go_roundw
            case rel => exact ⟨k + 1, A5, c5, by go_num, by omega, HZ5, HO5, HBL5⟩
            case measure => simp [intOf]; omega
          · have hk' : k = m := by omega
            subst hk'
            have hkN : ¬ ((k : Int) < N) := by have := HM.out; omega
            have hcell : ∀ b o, b < w.heap.size + 1 + 1 → wr.cell? ⟨b, o, none⟩ = w6.cell? ⟨b, o, none⟩ := fun b o hl => HBL.out.cell (p := ⟨b, o, none⟩) (by show b < _; omega) (by show b ≠ _; omega)
            have g1 := (hcell _ 1 (by omega)).trans HX6.out.x.g1
            have j0 := (hcell _ 0 (by omega)).trans HX6.out.x.j0
            have j1 := (hcell _ 1 (by omega)).trans HX6.out.x.j1
            have j2 := (hcell _ 2 (by omega)).trans HX6.out.x.j2
            have j3 := (hcell _ 3 (by omega)).trans HX6.out.x.j3
            have HWr := Lib.hid (show Below w.heap.size w wr from HW6.out.trans (HBL.out.low (by omega) (by omega)))
            obtain ⟨S1, hS1⟩ : ∃ S1 : St, S1 = ⟨S.step, S.vals, List.replicate k true, []⟩ := ⟨_, rfl⟩
            have HS1 := Lib.hid hS1
            have e0 : S1.step = S.step := by rw [hS1]
            have e1 : S1.vals = S.vals := by rw [hS1]
            have e2 : S1.rest.length = k := by rw [hS1]; simp
            have e3 : S1.inn.length = 0 := by rw [hS1]; rfl
            have HST := Lib.hid (show StL wr wr.heap.size S1 A1 c1 R cR none 0 by
              rw [hS1]
              refine ⟨HSL.out.v.next HWr.out, ?_, Lies.nil, HSL.out.cv, ?_, Nat.le_refl _, ⟨HSL.out.ok.st, HSL.out.ok.v, fun e he => (by cases he), HSL.out.ok.lv, ?_, by simp⟩⟩
              · dsimp only; rw [List.length_replicate]; exact Lies.of_own HO.out
              · dsimp only; rw [List.length_replicate]; exact own_cap HO.out
              · dsimp only; rw [List.length_replicate]; have := HM.out; have := HN.out; omega)
            have C14 := Lib.hid (rright_any N A n c es p s l q S1 A1 c1 R cR none 0 wr (HA0.out.next HWr.out) hnc hn HST.out)
            have b0 := cell_of_row wr (w.heap.size + 1 + 1) 0 _ 31 (0, 0) HZ.out
            have b1 := cell_of_row wr (w.heap.size + 1 + 1) 1 _ 31 (0, 0) HZ.out
            have b2 := cell_of_row wr (w.heap.size + 1 + 1) 2 _ 31 (0, 0) HZ.out
            have b3 := cell_of_row wr (w.heap.size + 1 + 1) 3 _ 31 (0, 0) HZ.out
            have ZB := HZ.out
            rw [← e0, ← e1] at ZB b0 b1
            rw [e0, e1, e2, e3] at C14
            rw [e0, e1] at b0 b1 ZB
            clear hS1 hcell
            go_wp2_with fail
            refine C14.out.mono ?_
            rintro e w7 ⟨rfl, hb7⟩
            have HW7 := Lib.hid (HWr.out.trans (hb7.mono HWr.out.size))
            have HZ7 := Lib.hid ((hb7.block _ (lt_of_block HZ.out)).trans HZ.out)
            have HST7 := Lib.hid (HST.out.next hb7)
            have kk : ∀ b o, b < w.heap.size + 1 + 1 → w7.cell? ⟨b, o, none⟩ = wr.cell? ⟨b, o, none⟩ := fun b o hl => hb7.cell (p := ⟨b, o, none⟩) (Nat.lt_trans hl (lt_of_block HZ.out))
            have g0 := (kk _ 0 (by omega)).trans g0
            have g1 := (kk _ 1 (by omega)).trans g1
            have j0 := (kk _ 0 (by omega)).trans j0
            have j1 := (kk _ 1 (by omega)).trans j1
            have j2 := (kk _ 2 (by omega)).trans j2
            have j3 := (kk _ 3 (by omega)).trans j3
            clear kk hb7 b0 b1 b2 b3 C14
            have b0 := cell_of_row w7 (w.heap.size + 1 + 1) 0 _ 31 (0, 0) HZ7.out
            have b1 := cell_of_row w7 (w.heap.size + 1 + 1) 1 _ 31 (0, 0) HZ7.out
            have b2 := cell_of_row w7 (w.heap.size + 1 + 1) 2 _ 31 (0, 0) HZ7.out
            have b3 := cell_of_row w7 (w.heap.size + 1 + 1) 3 _ 31 (0, 0) HZ7.out
            cases hr : rightB N es p s l q S1 with
            | false =>
              clear hr
              go_wp2_with fail
              refine (knows_any _).mono ?_
              rintro e wk ⟨rfl, hbk⟩
              have BK := Lib.hid (HW7.out.trans (hbk.mono HW7.out.size))
              clear hbk
              go_wp2_with fail
              go_ret
              exact ⟨rfl, BK.out⟩
            | true =>
              have HRT := Lib.hid hr
              clear hr
              by_cases h40 : S.step = 40
              · have h40' : (S.step == 40) = true := by simpa using h40
                go_wp2_with fail
                refine (knows_any _).mono ?_
                rintro e wk ⟨rfl, hbk⟩
                have BK := Lib.hid (HW7.out.trans (hbk.mono HW7.out.size))
                clear hbk
                go_wp2_with fail
                go_ret
                exact ⟨rfl, BK.out⟩
              · have h40' : (S.step == 40) = false := by simpa using h40
                obtain ⟨T, hT⟩ : ∃ T : St, T = ⟨S.step + 1, S.vals, List.replicate k true, []⟩ := ⟨_, rfl⟩
                have HSD := Lib.hid (show stepR N es p s l q S1 = (T, 0) by rw [HS1.out, hT]; exact steady HM.out (by have := HRT.out; rw [HS1.out] at this; exact this) h40)
                have HTQ := Lib.hid (show quietB T = true by rw [hT]; exact steady_quiet)
                have hwr : IntKind.i64.wrap (S.step + 1) = S.step + 1 := by
                  have := (right_of HRT.out).2.1
                  rw [e0] at this
                  rw [IntKind.wrap_i64]; omega
                have t0 : T.step = S.step + 1 := by rw [hT]
                have t1 : T.vals = S.vals := by rw [hT]
                have t2 : T.rest.length = k := by rw [hT]; simp
                have t3 : T.inn.length = 0 := by rw [hT]; rfl
                have C25 := Lib.hid (step_any N A n c es p s l q S1 A1 c1 R cR none 0 w7 (HA0.out.next HW7.out) hnc hn HST7.out)
                rw [HSD.out, e0, e1, e2, e3] at C25
                have HTT := Lib.hid hT
                clear h40 hT
                go_wp2_with fail
                refine C25.out.mono ?_
                rintro e w8 ⟨hb8, Z1, z1, Z2, z2, Z3, z3, rfl, hs8, fr1, fr2, fr3⟩
                dsimp only at hs8 ⊢
                rw [t0, t1, t2, t3]
                have hb8' := hb8.trans ((below_alloc w8 (.cells #[.int .i64 (S.step + 1), .slice Z1 S.vals.length z1, .slice Z2 k z2, .slice Z3 0 z3] 31)).mono hb8.size)
                have HW8 := Lib.hid (HW7.out.trans (hb8'.mono HW7.out.size))
                have HS8 := Lib.hid (hs8.next (below_alloc w8 (.cells #[.int .i64 (S.step + 1), .slice Z1 S.vals.length z1, .slice Z2 k z2, .slice Z3 0 z3] 31)))
                have HN8 := Lib.hid (heap_alloc_new w8 (.cells #[.int .i64 (S.step + 1), .slice Z1 S.vals.length z1, .slice Z2 k z2, .slice Z3 0 z3] 31))
                have HZ8 := Lib.hid ((hb8'.block _ (lt_of_block HZ7.out)).trans HZ7.out)
                have HST8 := Lib.hid (HST7.out.next hb8')
                have hb27 : w.heap.size + 1 + 1 < w7.heap.size := lt_of_block HZ7.out
                have hbn : w8.heap.size ≠ w.heap.size + 1 + 1 := by have := hb8.size; omega
                have HFZ := Lib.hid (show Fr w7.heap.size Z1 ∧ Fr w7.heap.size Z2 ∧ Fr w7.heap.size Z3 from ⟨fr1, fr2, fr3⟩)
                have HNR := Lib.hid (show Nb (w.heap.size + 1 + 1) R from (Fr.own HO.out).nb hlt6)
                clear hb8 hb8' hs8 g0 g1 j0 j1 j2 j3 b0 b1 b2 b3 fr1 fr2 fr3
                go_upto_region 12 with fail
                generalize w8.alloc (.cells #[.int .i64 (S.step + 1), .slice Z1 S.vals.length z1, .slice Z2 k z2, .slice Z3 0 z3] 31) = W8 at HW8 HS8 HN8 HZ8 HST8 ⊢
                generalize w8.heap.size = bn at HN8 hbn ⊢
                have b0 := cell_of_row W8 (w.heap.size + 1 + 1) 0 _ 31 (0, 0) HZ8.out
                have f0 := unfrozen HZ8.out 0
                have HZ9 := Lib.hid (show (W8.setCell ⟨w.heap.size + 1 + 1, 0, none⟩ (.int .i64 (S.step + 1))).heap[w.heap.size + 1 + 1]? = some (.cells #[.int .i64 (S.step + 1), .slice A1 S.vals.length c1, .slice R k cR, .slice none 0 0] 31 (0, 0)) from set_heap HZ8.out _)
                have HN9 := Lib.hid (show (W8.setCell ⟨w.heap.size + 1 + 1, 0, none⟩ (.int .i64 (S.step + 1))).heap[bn]? = some (.cells #[.int .i64 (S.step + 1), .slice Z1 S.vals.length z1, .slice Z2 k z2, .slice Z3 0 z3] 31) by rw [Below.heap_setCell _ _ _ _ hbn]; exact HN8.out)
                have HW9 := Lib.hid (HW8.out.setCell (p := ⟨w.heap.size + 1 + 1, 0, none⟩) (by show w.heap.size ≤ w.heap.size + 1 + 1; omega) (.int .i64 (S.step + 1)))
                have HSZ := Lib.hid (show StL (W8.setCell ⟨w.heap.size + 1 + 1, 0, none⟩ (.int .i64 (S.step + 1))) (W8.setCell ⟨w.heap.size + 1 + 1, 0, none⟩ (.int .i64 (S.step + 1))).heap.size T Z1 z1 Z2 z2 Z3 z3 from (HS8.out.set HFZ.out.1 HFZ.out.2.1 HFZ.out.2.2 hb27 _).size)
                have HSA := Lib.hid (show StL (W8.setCell ⟨w.heap.size + 1 + 1, 0, none⟩ (.int .i64 (S.step + 1))) (W8.setCell ⟨w.heap.size + 1 + 1, 0, none⟩ (.int .i64 (S.step + 1))).heap.size T A1 c1 R cR none 0 by
                  have x := HST8.out
                  rw [HS1.out] at x
                  have hok := HS8.out.ok
                  rw [HTT.out] at hok ⊢
                  have n1 : Nbl (w.heap.size + 1 + 1) A1 (vc S.vals) := (HSL.out.v.below HW8.out).nbl (show w.heap.size ≤ w.heap.size + 1 + 1 by omega)
                  exact ⟨(x.v.setN n1 _).more (by simp [World.setCell]), (x.r.setN (.inr HNR.out) _).more (by simp [World.setCell]), Lies.nil, x.cv, x.cr, Nat.le_refl _, hok⟩)
                go_upto_region 13 with fail
                generalize W8.setCell ⟨w.heap.size + 1 + 1, 0, none⟩ (.int .i64 (S.step + 1)) = W9 at HZ9 HN9 HW9 HSZ HSA ⊢
                clear b0 f0 HS8 HN8 HZ8 HST8 HW8
                have n0 := cell_of_row W9 bn 0 _ 31 (0, 0) HN9.out
                have n1 := cell_of_row W9 bn 1 _ 31 (0, 0) HN9.out
                have n2 := cell_of_row W9 bn 2 _ 31 (0, 0) HN9.out
                have n3 := cell_of_row W9 bn 3 _ 31 (0, 0) HN9.out
                have c0 := cell_of_row W9 (w.heap.size + 1 + 1) 0 _ 31 (0, 0) HZ9.out
                have c1' := cell_of_row W9 (w.heap.size + 1 + 1) 1 _ 31 (0, 0) HZ9.out
                have c2' := cell_of_row W9 (w.heap.size + 1 + 1) 2 _ 31 (0, 0) HZ9.out
                have c3' := cell_of_row W9 (w.heap.size + 1 + 1) 3 _ 31 (0, 0) HZ9.out
                have HC := Lib.hid (same_yes T Z1 z1 Z2 z2 Z3 z3 A1 c1 R cR none 0 W9 HSZ.out HSA.out)
                rw [t0, t1, t2, t3] at HC
                go_wp2_with fail
                refine HC.out.mono ?_
                rintro e wa ⟨rfl, hba⟩
                have HWa := Lib.hid (HW9.out.trans (hba.mono HW9.out.size))
                have HNa := Lib.hid ((hba.block _ (lt_of_block HN9.out)).trans HN9.out)
                have HCq := Lib.hid (quiet_any T Z1 z1 Z2 z2 Z3 z3 wa (HSZ.out.next hba))
                rw [t0, t1, t2, t3, HTQ.out] at HCq
                clear hba n0 n1 n2 n3 c0 c1' c2' c3' HC
                have n0 := cell_of_row wa bn 0 _ 31 (0, 0) HNa.out
                have n1 := cell_of_row wa bn 1 _ 31 (0, 0) HNa.out
                have n2 := cell_of_row wa bn 2 _ 31 (0, 0) HNa.out
                have n3 := cell_of_row wa bn 3 _ 31 (0, 0) HNa.out
                go_wp2_with fail
                refine HCq.out.mono ?_
                rintro e wb ⟨rfl, hbb⟩
                have HWb := Lib.hid (HWa.out.trans (hbb.mono HWa.out.size))
                clear hbb n0 n1 n2 n3
                go_wp2_with fail
                refine (knows_any _).mono ?_
                rintro e wk ⟨rfl, hbk⟩
                have BK := Lib.hid (HWb.out.trans (hbk.mono HWb.out.size))
                clear hbk
                go_wp2_with fail
                go_ret
                exact ⟨rfl, BK.out⟩
      · have hj1 : (jchk N es p s l q != 0) = true := by simpa using hj
        clear hj
        go_wp2_with fail
        refine (knows_any _).mono ?_
        rintro e wk ⟨rfl, hbk⟩
        have BK := Lib.hid (HW6.out.trans (hbk.mono HW6.out.size))
        clear hbk
        go_wp2_with fail
        go_ret
        exact ⟨rfl, BK.out⟩

end Go.Proofs.Ytkmflofokgkekaa
