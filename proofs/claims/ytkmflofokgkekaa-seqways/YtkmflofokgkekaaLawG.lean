/-
  The walk of SeqWays: of Sssp that is done the source has 0, no edge leads to a shorter way than what is told, and each vertex that was reached has an edge by which its value comes. No condition.
-/
import Derived.Test.YtkmflofokgkekaaSqP
import Derived.Test.YtkmflofokgkekaaWayM
import Derived.Test.YtkmflofokgkekaaWayN
import Derived.Deep.Cut
import Derived.Deep.DeepCutAuto
import Derived.BigQuiet
namespace Go.Proofs.Ytkmflofokgkekaa
open Go.ChangeShapes Go.WideShapes Go.ChangeAt Go.RowKit
set_option linter.unusedVariables false

theorem onw_one {N : Int} {es : List Ed} {p s l q : Int} {S : St} (h : (onwR N es p s l q S).2 = 1) : quietB S = true := by
  apply Classical.byContradiction
  intro hq
  unfold onwR at h
  rw [if_neg hq] at h
  split at h
  · cases h
  · split at h <;> cases h
/-- Is it by edge j that v's value comes? -/
def byE (vs : List Int) (es : List Ed) (v : Nat) (j : Nat) : Prop := (eAt es j).2.1 = v ∧ ¬ vAt vs (eAt es j).1.toNat = far ∧ vAt vs v = vAt vs (eAt es j).1.toNat + (eAt es j).2.2
def OwRel (w5 : World) (m : Nat) (i : Value) (W : World) : Prop := ∃ v : Nat, i = .int .i64 v ∧ v ≤ m ∧ Hid (Below w5.heap.size w5 W)
def IwRel (w5 : World) (vs : List Int) (es : List Ed) (s : Int) (v : Nat) (co i : Value) (W : World) : Prop :=
  ∃ (j : Nat) (cm : Bool), i = .int .i64 j ∧ co = .bool cm ∧ j ≤ es.length ∧ Hid ((v : Int) = s ∨ vAt vs v = far → cm = true) ∧ Hid (∀ i, i < j → byE vs es v i → cm = true) ∧ Hid (Below w5.heap.size w5 W)

set_option maxRecDepth 100000 in
set_option maxHeartbeats 4000000 in
theorem ways_walk (N : Int) (A : Option Addr) (n c : Nat) (es : List Ed) (s : Int) (w : World) (hA : Lies w w.heap.size 3 A n (ec es)) (hnc : n ≤ c) (hn : n ≤ maxLen) :
    Calls Try.prog 9 #[.agg #[.int .i64 N, .slice A n c], .int .i64 s] w fun e w' => e = .returned (.bool true) ∧ Below w.heap.size w w' := by
  have mixed : Try.prog.follows .mixedOrders = true := by kernel_rfl
  obtain rfl := hA.ed_len
  obtain ⟨w2, hw2⟩ : ∃ w2, w2 = w.alloc (.cells #[.int .i64 N, .slice A es.length c] 24) := ⟨_, rfl⟩
  have HB2 := Lib.hid (show Below w.heap.size w w2 by rw [hw2]; exact below_alloc _ _)
  have HG := Lib.hid (fun (W : World) (hb : Below w2.heap.size w2 W) => show W.heap[w.heap.size]? = some (.cells #[.int .i64 N, .slice A es.length c] 24) from (hb.block _ (by rw [hw2]; simp)).trans (by rw [hw2]; exact heap_alloc_new _ _))
  have HA := Lib.hid (hA.next HB2.out)
  clear hA
  go_enter Try.func9, Try.ntmps9
  go_wp2_with fail
  rw [← hw2]
  clear hw2
  by_cases hg : 200 < es.length
  · refine (great_any N A es.length c _ true (by simpa using hg)).mono ?_
    rintro e w1 ⟨rfl, hb1⟩
    have HB1 := Lib.hid (HB2.out.trans (hb1.mono HB2.out.size))
    clear hb1
    go_wp2_with fail
    refine (knows_any _).mono ?_
    rintro e wk ⟨rfl, hbk⟩
    have BK := Lib.hid (HB1.out.trans (hbk.mono HB1.out.size))
    clear hbk
    go_wp2_with fail
    go_ret
    exact ⟨rfl, BK.out⟩
  · refine (great_any N A es.length c _ false (by simpa using hg)).mono ?_
    rintro e w1 ⟨rfl, hb1⟩
    have HB1 := Lib.hid hb1
    have z1 := HG.out w1 hb1
    have g0 := cell_of_row w1 _ 0 _ 24 (0, 0) z1
    have g1 := cell_of_row w1 _ 1 _ 24 (0, 0) z1
    clear hb1 z1
    go_wp2_with fail
    refine (run_any N A es.length c es 1 s 40 1 _ (HA.out.next HB1.out) hnc hn).mono ?_
    rintro e w5 ⟨hb5, kd, st, vs, Y, y, rfl, hly, _, hny, hans⟩
    have hb5' := hb5.trans ((below_alloc w5 (.cells #[.int .i64 kd, .int .i64 st, .slice Y vs.length y] 45)).mono hb5.size)
    have HB5 := Lib.hid (HB1.out.trans (hb5'.mono HB1.out.size))
    have HL5 := Lib.hid (hly.next (below_alloc w5 (.cells #[.int .i64 kd, .int .i64 st, .slice Y vs.length y] 45)))
    have HAN := Lib.hid hans
    have HZ5 := Lib.hid (heap_alloc_new w5 (.cells #[.int .i64 kd, .int .i64 st, .slice Y vs.length y] 45))
    clear hb5 hb5' hly hny hans g0 g1
    go_upto_region 4 with fail
    generalize w5.alloc (.cells #[.int .i64 kd, .int .i64 st, .slice Y vs.length y] 45) = W5 at HB5 HL5 HZ5 ⊢
    generalize w5.heap.size = ba at HZ5 ⊢
    have HW5 := Lib.hid (HB2.out.trans (HB5.out.mono HB2.out.size))
    have a0 := cell_of_row W5 ba 0 _ 45 (0, 0) HZ5.out
    have a1 := cell_of_row W5 ba 1 _ 45 (0, 0) HZ5.out
    have a2 := cell_of_row W5 ba 2 _ 45 (0, 0) HZ5.out
    by_cases h1 : kd = 1
    · subst h1
      have hans := HAN.out
      rcases hans with ⟨_, h4, _⟩ | ⟨hj, k, S, hk, h0, e1, e2, e3⟩
      · cases h4
      have hq := onw_one e1.symm
      rw [if_neg (by decide)] at e3
      subst e3
      obtain ⟨hlen, hsrc, hedge, hback, hbd⟩ := ways hj hk hq
      obtain ⟨hN1, hN2⟩ := jchk_N hj
      obtain ⟨_, ⟨hs0, hs1⟩, _⟩ := badJ_not (jchk_zero hj).2
      have hok := chk_ok (jchk_zero hj).1
      obtain ⟨sn, hsn⟩ : ∃ sn : Nat, s = sn := ⟨s.toNat, by omega⟩
      subst hsn
      obtain ⟨m, hm⟩ : ∃ m : Nat, N = m := ⟨N.toNat, by omega⟩
      subst hm
      have hlm : S.vals.length = m := by omega
      rw [Int.toNat_natCast] at hlen hsrc hback hbd
      have HED := Lib.hid hedge
      have HBK := Lib.hid hback
      have HBDv := Lib.hid hbd
      have HOK := Lib.hid hok
      have HSR := Lib.hid hsrc
      generalize S.vals = vs at *
      clear hk h0 e1 e2 hq hedge hback hbd hok hj
      have hm24 : m ≤ 24 := by omega
      have hsm : sn < m := by omega
      have hes : es.length ≤ 200 := by omega
      subst hlm
      obtain ⟨ad, rfl, hadb, cs⟩ := HL5.out.vs sn (by omega)
      rw [HSR.out] at cs
      have z5 := HG.out W5 HB5.out
      have g0 := cell_of_row W5 _ 0 _ 24 (0, 0) z5
      have g1 := cell_of_row W5 _ 1 _ 24 (0, 0) z5
      have hsm' : (sn : Int) < (vs.length : Int) := by omega
      clear z5 hlen hg
      go_wp2_with fail
      clear g0 g1 a0 a1 a2 cs
      go_loopw [6] (fun i W => OwRel W5 vs.length i W) (fun i W => vs.length - (intOf i).toNat)
      case atStart => exact ⟨0, rfl, Nat.zero_le _, Below.refl _ _⟩
      case round =>
        obtain ⟨v, rfl, hv, HB⟩ := hrel
        have HBw := Lib.hid (HB5.out.trans (HB.out.mono HB5.out.size))
        have z5 := HG.out wr HBw.out
        have g0 := cell_of_row wr _ 0 _ 24 (0, 0) z5
        have g1 := cell_of_row wr _ 1 _ 24 (0, 0) z5
        have y5 := (HB.out.block _ (lt_of_block HZ5.out)).trans HZ5.out
        have a2 := cell_of_row wr _ 2 _ 45 (0, 0) y5
        clear z5 y5
        by_cases hvm : v < vs.length
        · have hvI : (v : Int) < (vs.length : Int) := by omega
          obtain ⟨ad', ea, _, cv⟩ := (HL5.out.next HB.out).vs v hvm
          injection ea with ea
          subst ea
          obtain ⟨b, hb⟩ : ∃ b, b = vAt vs v := ⟨_, rfl⟩
          rw [← hb] at cv
          have HBV := Lib.hid hb
          clear hb
          go_upto_region 11 with fail
          go_cut [7] (fun s7 W => ∃ cm, s7 = .bool cm ∧ Hid ((v : Int) = (sn : Int) ∨ vAt vs v = far → cm = true) ∧ W = wr)
          case first =>
            by_cases hvs : (v : Int) = (sn : Int)
            · have hvs' : ((v : Int) == (sn : Int)) = true := by simpa using hvs
              go_wp2_with fail
              go_meet
              exact ⟨_, rfl, fun _ => by first | rfl | simpa using hvs, rfl⟩
            · have hvs' : ((v : Int) == (sn : Int)) = false := by simpa using hvs
              by_cases hbf : b = 9223372036854775807
              · have hbf' : (b == 9223372036854775807) = true := by simpa using hbf
                go_wp2_with fail
                go_meet
                exact ⟨_, rfl, fun _ => by first | rfl | simpa using hbf, rfl⟩
              · have hbf' : (b == 9223372036854775807) = false := by simpa using hbf
                have HNF := Lib.hid hbf
                go_wp2_with fail
                go_meet
                exact ⟨_, rfl, fun h => by rcases h with h | h; · exact absurd h hvs
                                           · exact absurd (HBV.out.trans h) HNF.out, rfl⟩
          case rest =>
            obtain ⟨cm0, rfl, hcm0, hwc⟩ := hcut
            subst hwc
            have HCM0 := Lib.hid hcm0.out
            have HBT := Lib.hid (HBDv.out v hvm)
            clear hcm0
            go_wp2_with fail
            clear g0 g1 a2 cv
            go_loopw [7, 8] (fun co i W => IwRel W5 vs es sn v co i W) (fun co i W => es.length - (intOf i).toNat)
            case atStart => exact ⟨0, cm0, rfl, rfl, Nat.zero_le _, HCM0, fun i h => by omega, HB⟩
            case round =>
              obtain ⟨j, cm, rfl, rfl, hj, HC0, HCE, HBi⟩ := hrel
              have HBw' := Lib.hid (HB5.out.trans (HBi.out.mono HB5.out.size))
              have z5 := HG.out wr HBw'.out
              have g1 := cell_of_row wr _ 1 _ 24 (0, 0) z5
              have y5 := (HBi.out.block _ (lt_of_block HZ5.out)).trans HZ5.out
              by_cases hjl : j < es.length
              · have hjI : (j : Int) < (es.length : Int) := by omega
                obtain ⟨eA, rfl, _, e0, e1, e2⟩ := (HA.out.next HBw'.out).ed j hjl
                have hemem : eAt es j ∈ es := by rw [eAt_get es j hjl]; exact List.getElem_mem hjl
                have hed := edge1_zero.1 (HOK.out _ hemem)
                have HEDj := Lib.hid (HED.out _ hemem)
                have HBE := Lib.hid (show byE vs es v j ↔ ((eAt es j).2.1 = v ∧ ¬ vAt vs (eAt es j).1.toNat = far ∧ vAt vs v = vAt vs (eAt es j).1.toNat + (eAt es j).2.2) from Iff.rfl)
                obtain ⟨⟨f1, t1, x⟩, hee⟩ : ∃ ee, ee = eAt es j := ⟨_, rfl⟩
                rw [← hee] at e0 e1 e2 hed HEDj HBE
                dsimp only at e0 e1 e2 hed HEDj HBE
                clear hee hemem
                obtain ⟨u, hu⟩ : ∃ u : Nat, f1 = u := ⟨f1.toNat, by omega⟩
                obtain ⟨tn, htn⟩ : ∃ tn : Nat, t1 = tn := ⟨t1.toNat, by omega⟩
                subst hu htn
                rw [Int.toNat_natCast] at HEDj HBE
                rw [Int.toNat_natCast] at HEDj
                have hul : u < vs.length := by omega
                have huI : (u : Int) < (vs.length : Int) := by omega
                have HBu := Lib.hid (HBDv.out u hul)
                have hba := below_alloc wr (.cells #[.int .i64 (u : Int), .int .i64 (tn : Int), .int .i64 x] 54)
                have HB7 := Lib.hid (HBi.out.trans (hba.mono HBi.out.size))
                have HZe := Lib.hid (heap_alloc_new wr (.cells #[.int .i64 (u : Int), .int .i64 (tn : Int), .int .i64 x] 54))
                have HY7 := Lib.hid ((hba.block _ (lt_of_block y5)).trans y5)
                clear hba z5 y5
                go_upto_region 16 with fail
                generalize wr.alloc (.cells #[.int .i64 (u : Int), .int .i64 (tn : Int), .int .i64 x] 54) = W7 at HB7 HZe HY7 ⊢
                generalize wr.heap.size = be at HZe ⊢
                clear g1 e0 e1 e2 HBw' HBi
                have a2 := cell_of_row W7 _ 2 _ 45 (0, 0) HY7.out
                have e0 := cell_of_row W7 _ 0 _ 54 (0, 0) HZe.out
                have e1 := cell_of_row W7 _ 1 _ 54 (0, 0) HZe.out
                have e2 := cell_of_row W7 _ 2 _ 54 (0, 0) HZe.out
                obtain ⟨_, ea, _, cv⟩ := (HL5.out.next HB7.out).vs v hvm
                injection ea with ea
                subst ea
                obtain ⟨_, ea, _, cu⟩ := (HL5.out.next HB7.out).vs u hul
                injection ea with ea
                subst ea
                rw [← HBV.out] at cv HBT HBE HC0
                obtain ⟨a, haa⟩ : ∃ a, a = vAt vs u := ⟨_, rfl⟩
                rw [← haa] at cu HEDj HBE HBu
                have HAA := Lib.hid haa
                clear haa
                by_cases hto : (tn : Int) = (v : Int)
                · have hto' : ((tn : Int) != (v : Int)) = false := by simpa using hto
                  by_cases hfa : a = 9223372036854775807
                  · have hfa' : (a == 9223372036854775807) = true := by simpa using hfa
                    have HCE' := Lib.hid (show ∀ i, i < j + 1 → byE vs es v i → cm = true from fun i hi hbe => by
                      by_cases e : i = j
                      · subst e; exact absurd hfa (HBE.out.1 hbe).2.1
                      · exact HCE.out i (by omega) hbe)
                    clear hfa
                    go_wp2_with fail
                    go_roundw
                    case rel => exact ⟨j + 1, cm, by go_num, rfl, by omega, by rw [← HBV.out]; exact HC0, HCE', HB7⟩
                    case measure => simp [intOf]; omega
                  · have hfa' : (a == 9223372036854775807) = false := by simpa using hfa
                    obtain ⟨d1, d2⟩ := HEDj.out hfa
                    obtain rfl : tn = v := by omega
                    rw [← HBV.out] at d2
                    unfold far at d1
                    have HFA := Lib.hid hfa
                    have ha0 := HBu.out.1
                    have hw1 : IntKind.i64.wrap (9223372036854775807 - x) = 9223372036854775807 - x := by rw [IntKind.wrap_i64]; omega
                    have hw2 : IntKind.i64.wrap (a + x) = a + x := by rw [IntKind.wrap_i64]; omega
                    have hd1 : decide (9223372036854775807 - x < a) = false := decide_eq_false (by omega)
                    have hd2 : decide (a + x < b) = false := decide_eq_false (by omega)
                    clear hfa d1 d2 hed
                    go_wp2_with fail
                    go_quiet (fail)
                    have HB8 := Lib.hid (below_to_drewN HB7.out nq)
                    have a2 : (W7.drewN nq).cell? ⟨ba, 2, none⟩ = _ := a2
                    have e0 : (W7.drewN nq).cell? ⟨be, 0, none⟩ = _ := e0
                    have e2 : (W7.drewN nq).cell? ⟨be, 2, none⟩ = _ := e2
                    have cv : (W7.drewN nq).cell? (ad.add tn) = _ := cv
                    have cu : (W7.drewN nq).cell? (ad.add u) = _ := cu
                    generalize W7.drewN nq = W8 at HB8 a2 e0 e2 cv cu ⊢
                    go_upto_region 19 with fail
                    cases cm with
                    | true =>
                      go_quiet (fail)
                      have HB9 := Lib.hid (below_to_drewN HB8.out nq)
                      go_wp2_with fail
                      go_roundw
                      case rel => exact ⟨j + 1, true, by go_num, rfl, by omega, fun _ => rfl, fun _ _ _ => rfl, HB9⟩
                      case measure => simp [intOf]; omega
                    | false =>
                      by_cases hbx : b = a + x
                      · have hbx' : (b == a + x) = true := by simpa using hbx
                        clear hbx
                        go_quiet (fail)
                        have HB9 := Lib.hid (below_to_drewN HB8.out nq)
                        go_wp2_with fail
                        go_roundw
                        case rel => exact ⟨j + 1, true, by go_num, rfl, by omega, fun _ => rfl, fun _ _ _ => rfl, HB9⟩
                        case measure => simp [intOf]; omega
                      · have hbx' : (b == a + x) = false := by simpa using hbx
                        have HCE' := Lib.hid (show ∀ i, i < j + 1 → byE vs es tn i → false = true from fun i hi hbe => by
                          by_cases e : i = j
                          · subst e; exact absurd (HBE.out.1 hbe).2.2 hbx
                          · exact HCE.out i (by omega) hbe)
                        clear hbx
                        go_quiet (fail)
                        have HB9 := Lib.hid (below_to_drewN HB8.out nq)
                        go_wp2_with fail
                        go_roundw
                        case rel => exact ⟨j + 1, false, by go_num, rfl, by omega, by rw [← HBV.out]; exact HC0, HCE', HB9⟩
                        case measure => simp [intOf]; omega
                · have hto' : ((tn : Int) != (v : Int)) = true := by simpa using hto
                  have HCE' := Lib.hid (show ∀ i, i < j + 1 → byE vs es v i → cm = true from fun i hi hbe => by
                    by_cases e : i = j
                    · subst e; exact absurd (HBE.out.1 hbe).1 hto
                    · exact HCE.out i (by omega) hbe)
                  clear hto
                  go_wp2_with fail
                  go_roundw
                  case rel => exact ⟨j + 1, cm, by go_num, rfl, by omega, by rw [← HBV.out]; exact HC0, HCE', HB7⟩
                  case measure => simp [intOf]; omega
              · have hj' : j = es.length := by omega
                subst hj'
                have hcm : cm = true := by
                  by_cases hb0 : (v : Int) = (sn : Int) ∨ vAt vs v = far
                  · exact HC0.out hb0
                  · obtain ⟨e, he, k1, k2, k3⟩ := HBK.out v hvm (fun h => hb0 (.inl h)) (fun h => hb0 (.inr h))
                    obtain ⟨i, hi, hie⟩ := List.getElem_of_mem he
                    exact HCE.out i hi (by unfold byE; rw [eAt_get es i hi, hie]; exact ⟨k1, k2, k3⟩)
                subst hcm
                clear z5 y5
                go_wp2_with fail
                go_roundw
                case rel => exact ⟨v + 1, by go_num, by omega, HBi⟩
                case measure => simp [intOf]; omega
        · have hv' : v = vs.length := by omega
          subst hv'
          have HWr := Lib.hid (HW5.out.trans (HB.out.mono HW5.out.size))
          go_wp2_with fail
          refine (knows_any _).mono ?_
          rintro e wk ⟨rfl, hbk⟩
          have BK := Lib.hid (HWr.out.trans (hbk.mono HWr.out.size))
          clear hbk
          go_wp2_with fail
          go_ret
          exact ⟨rfl, BK.out⟩
    · have h1' : (kd != 1) = true := by simpa using h1
      have hk : kd = 4 ∨ kd = 2 ∨ kd = 3 := by
        rcases ans_kind HAN.out with ⟨_, h⟩ | ⟨_, _, h, _⟩ <;> omega
      clear h1
      rcases hk with rfl | rfl | rfl
      · skip
        go_wp2_with fail
        refine (knows_any _).mono ?_
        rintro e wk ⟨rfl, hbk⟩
        have BK := Lib.hid (HW5.out.trans (hbk.mono HW5.out.size))
        clear hbk
        go_wp2_with fail
        go_ret
        exact ⟨rfl, BK.out⟩
      · skip
        go_wp2_with fail
        refine (knows_any _).mono ?_
        rintro e wk ⟨rfl, hbk⟩
        have BK := Lib.hid (HW5.out.trans (hbk.mono HW5.out.size))
        clear hbk
        go_wp2_with fail
        go_ret
        exact ⟨rfl, BK.out⟩
      · skip
        go_wp2_with fail
        refine (knows_any _).mono ?_
        rintro e wk ⟨rfl, hbk⟩
        have BK := Lib.hid (HW5.out.trans (hbk.mono HW5.out.size))
        clear hbk
        go_wp2_with fail
        go_ret
        exact ⟨rfl, BK.out⟩

end Go.Proofs.Ytkmflofokgkekaa
