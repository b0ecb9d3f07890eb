import Derived.Test.YtdpmlpclhojcjaaDq
/-
  The walk of DiskPlays. No condition but that the lists have no more than can lie in memory.
-/
namespace Go.Proofs.Ytdpmlpclhojcjaa
open Go.ChangeShapes Go.WideShapes Go.ChangeAt Go.RowKit
set_option linter.unusedVariables false

def PlRel (w : World) (bx : Nat) (m : Nat) (s5 s6 : Value) (W : World) : Prop := ∃ (k : Nat) (X : Option Addr) (xc : Nat) (lx : List Fe) (Y : Option Addr) (yc : Nat) (ly : List Fe), s6 = .int .i64 k ∧ s5 = .slice Y ly.length yc ∧ k ≤ m ∧ Hid (Dx w bx X xc lx W) ∧ Hid (Fls W W.heap.size Y yc ly) ∧ Hid (xs ly = xs lx) ∧ Hid (Mod lx)
set_option maxRecDepth 100000 in
set_option maxHeartbeats 8000000 in
theorem plays_walk (A : Option Addr) (c : Nat) (ls : List Fe) (QA : Option Addr) (qc : Nat) (la : List Ae) (w : World) (hA : Fls w w.heap.size A c ls) (hQ : Lies w w.heap.size 5 QA la.length (ac la)) (mq : la.length ≤ maxLen) (ha : ∀ a ∈ la, AeI w a) :
    Calls Try.prog 3 #[.agg #[.slice A ls.length c], .slice QA la.length qc] w fun e w' => e = .returned (.bool true) ∧ Below w.heap.size w w' := by
  have mq63 : la.length ≤ 9223372036854775807 := mq
  have HAI := Lib.hid ha
  have HQQ := Lib.hid (fun W (h : Below w.heap.size w W) => (hQ.below h))
  clear mq hQ ha
  have HD0 := Lib.hid (Dx.arg hA)
  clear hA
  go_enter Try.func3, Try.ntmps3
  go_upto_region 1 with fail
  generalize w.alloc (.cells #[.slice A ls.length c] 24) = w1 at HD0 ⊢
  generalize hbx : w.heap.size = bx at HD0 ⊢
  have HBX := Lib.hid hbx
  clear hbx
  have z0 := HD0.out.c0
  go_wp2_with fail
  refine (great_any A c ls w1 HD0.out.L.L).mono ?_
  rintro e w2 ⟨rfl, hb2⟩
  have HD := Lib.hid (HD0.out.next hb2)
  clear hb2 z0 HD0
  cases hg : grtB ls with
  | true =>
    go_wp2_with fail
    refine (knows_any _).mono ?_
    rintro e w99 ⟨rfl, hb99⟩
    have HB99 := Lib.hid (below_then HD.out.bl hb99)
    clear hb99
    go_wp2_with fail
    go_ret
    exact ⟨rfl, HB99.out⟩
  | false =>
    have HM := Lib.hid (mod_few hg)
    clear hg
    have z0 := HD.out.c0
    go_wp2_with fail
    refine (as_any A c ls w2 HD.out.L (by have := HM.out.n; omega)).mono ?_
    rintro e w3 ⟨hb3, Y3, y3, l3, rfl, hL3, hx3⟩
    have HD3 := Lib.hid (HD.out.next hb3)
    have HL3 := Lib.hid hL3
    have HX3 := Lib.hid hx3
    have HN3 := Lib.hid (show l3.length ≤ 1000 by have := congrArg List.length hx3; rw [xs_len, xs_len] at this; have := HM.out.n; omega)
    clear hb3 hL3 hx3 z0 HD
    have z0 := HD3.out.c0
    go_wp2_with fail
    refine (dright_any A c ls w3 HD3.out.L HM.out).mono ?_
    rintro e w4 ⟨rfl, hb4⟩
    have HD4 := Lib.hid (HD3.out.next hb4)
    have HL4 := Lib.hid (HL3.out.next hb4)
    clear hb4 z0 HD3 HL3
    go_wp2_with fail
    refine (rright_any Y3 y3 l3 w4 HL4.out.L (by have := HN3.out; omega)).mono ?_
    rintro e w5 ⟨rfl, hb5⟩
    rw [HX3.out]
    have HD5 := Lib.hid (HD4.out.next hb5)
    have HL5 := Lib.hid (HL4.out.next hb5)
    clear hb5 HD4 HL4
    go_wp2_with fail
    go_loopw [5, 6] (fun s5 s6 W => PlRel w bx la.length s5 s6 W) (fun s5 s6 W => la.length - (intOf s6).toNat)
    case atStart => exact ⟨0, A, c, ls, Y3, y3, l3, rfl, rfl, Nat.zero_le _, HD5, HL5, HX3, HM⟩
    case round =>
      clear HD5 HL5 HX3 HN3 HM
      obtain ⟨k, X, xc, lx, Y, yc, ly, rfl, rfl, hk, HD, HLY, HXY, HM⟩ := hrel
      by_cases hlt : k < la.length
      · have hkl : (k : Int) < (la.length : Int) := by omega
        by_cases h30 : k < 30
        · obtain ⟨ad, rfl, hadb, e0, e1, e2, e3, e4⟩ := (HQQ.out _ HD.out.bl).ae k hlt
          have HI := Lib.hid (HAI.out _ (List.getElem_mem hlt))
          have HCE := Lib.hid (show ∀ W : World, Below w.heap.size w W → W.cell? (ad.add (k * 5)) = some (.int .i64 la[k].kd) ∧ W.cell? ⟨(ad.add (k * 5)).block, (ad.add (k * 5)).off + 1, none⟩ = some (.int .i64 la[k].n) ∧ W.cell? ⟨(ad.add (k * 5)).block, (ad.add (k * 5)).off + 2, none⟩ = some (.string la[k].nm) ∧
            W.cell? ⟨(ad.add (k * 5)).block, (ad.add (k * 5)).off + 3, none⟩ = some (.slice la[k].BA la[k].b.length la[k].bcap) ∧ W.cell? ⟨(ad.add (k * 5)).block, (ad.add (k * 5)).off + 4, none⟩ = some (.slice la[k].KA la[k].l.length la[k].kc) from fun W hb => by
            obtain ⟨ad', ea, _, h0, h1, h2, h3, h4⟩ := (HQQ.out _ hb).ae k hlt
            injection ea with ea
            subst ea
            exact ⟨h0, h1, h2, h3, h4⟩)
          generalize la[k] = m at *
          obtain ⟨kd, n, nm, BA, bcap, b, KA, kc, l⟩ := m
          simp only at e0 e1 e2 e3 e4 HCE
          have HAK := Lib.hid (fun W (h : Below w.heap.size w W) => (show Ak W W.heap.size BA bcap b KA kc l from ⟨(HI.out.ak.lb.below h).more h.size, (HI.out.ak.lk.below h).more h.size, HI.out.ak.cb, HI.out.ak.ck⟩))
          go_wp2_with fail
          refine (wide_any kd n nm BA bcap b KA kc l wr).mono ?_
          rintro e w6 ⟨rfl, hb6⟩
          have HD6 := Lib.hid (HD.out.next hb6)
          have HL6 := Lib.hid (HLY.out.next hb6)
          clear hb6 e0 e1 e2 e3 e4 HD HLY
          cases hw : widB nm b l with
          | true =>
            go_wp2_with fail
            go_roundw
            case rel => exact ⟨k + 1, X, xc, lx, Y, yc, ly, by go_num, rfl, by omega, HD6, HL6, HXY, HM⟩
            case measure => simp [intOf]; omega
          | false =>
            obtain ⟨hw1, hw2, hw3⟩ := wid_no hw
            have HAN := Lib.hid (show An n nm b l from ⟨HI.out.n1, HI.out.n2, by omega, by omega, by omega, HI.out.hx⟩)
            have HLN := Lib.hid (show ly.length ≤ 1000 by have := congrArg List.length HXY.out; rw [xs_len, xs_len] at this; have := HM.out.n; omega)
            clear hw hw1 hw2 hw3
            have CD := Lib.hid (fun (W : World) (hb : Below w6.heap.size w6 W) => do_any X xc lx kd n nm BA bcap b KA kc l W (HD6.out.next hb).L HM.out (HAK.out _ (HD6.out.next hb).bl) HAN.out)
            have CE := Lib.hid (fun (W : World) (hL : Fls W W.heap.size Y yc ly) (hb : Below w.heap.size w W) => does_any Y yc ly kd n nm BA bcap b KA kc l W hL HLN.out (HAK.out _ hb) HAN.out)
            rw [HXY.out] at CE
            have HGD := Lib.hid (goodOf_good (xs lx))
            have HGX := Lib.hid (act_good HGD.out kd n nm.toList b l)
            generalize actE (goodOf (xs lx)) kd n nm.toList b = E at *
            generalize actD (goodOf (xs lx)) kd n nm.toList b l = dx at *
            obtain ⟨e0, e1, e2, e3, e4⟩ := HCE.out _ HD6.out.bl
            have z0 := HD6.out.c0
            have hbz := below_alloc w6 (.cells #[.slice none 0 0] 24)
            have HBZ := Lib.hid hbz
            obtain ⟨g0, g1, g2, g3, g4⟩ := HCE.out _ (HD6.out.next hbz).bl
            have y0 := (HD6.out.next hbz).c0
            clear hbz
            go_upto_region 10 with fail
            go_cut [7, 8] (fun s1 s2 W => Px w w6 E dx s1 s2 W)
            case first =>
              go_region_law (first | (go_simp; go_at_call 15; (with_reducible refine (CD.out _ (Below.refl _ w6).drew).mono ?_); rintro e w4 ⟨hb4, X4, x4, lx4, rfl, hL4, hx4⟩; have HB4 := Lib.hid (show Below w6.heap.size w6 w4 from below_of_drew hb4); have HL4 := Lib.hid hL4; have HX4 := Lib.hid hx4; clear hb4 hL4 hx4) | (go_simp; go_at_call 15; (with_reducible refine (CD.out _ HBZ.out.drew).mono ?_); rintro e w4 ⟨hb4, X4, x4, lx4, rfl, hL4, hx4⟩; have HB4 := Lib.hid (show Below w6.heap.size w6 w4 from HBZ.out.trans ((below_of_drew hb4).mono HBZ.out.size)); have HL4 := Lib.hid hL4; have HX4 := Lib.hid hx4; have z4 := ((below_of_drew hb4).block _ (by simp)).trans (heap_alloc_new w6 (.cells #[.slice none 0 0] 24)); have HZ4 := Lib.hid z4; have q1 := cell_of_row w4 _ 0 _ 24 (0, 0) z4; have q2 := unfrozen z4 0; clear hb4 hL4 hx4 z4) | fail)
              all_goals
                go_wp2_with fail
                go_meet
                first | exact px_new HD6.out.bl HB4.out HL4.out HX4.out | exact px_put HD6.out.bl HB4.out HL4.out HX4.out HZ4.out (by omega)
            case rest =>
              obtain ⟨b7, X7, x7, lx7, rfl, rfl, HV, HX7, HB7⟩ := hcut
              have HD7 := Lib.hid (HD6.out.next HB7.out)
              have HL7 := Lib.hid (HL6.out.next HB7.out)
              have HG7 := Lib.hid (show Good (xs lx7) by rw [HX7.out]; exact HGX.out)
              generalize hwk : wc = w7 at *
              clear hwk e0 e1 e2 e3 e4 g0 g1 g2 g3 g4 z0 y0 HD6 HL6 HBZ CD
              obtain ⟨e0, e1, e2, e3, e4⟩ := HCE.out _ HD7.out.bl
              go_wp2_with fail
              refine (CE.out w7 HL7.out HD7.out.bl).mono ?_
              rintro e w8 ⟨hb8, Y8, y8, ly8, rfl, hL8, hx8⟩
              have HD8 := Lib.hid (HD7.out.next hb8)
              have HV8 := Lib.hid (HV.out.next hb8)
              have HL8 := Lib.hid hL8
              have HX8 := Lib.hid hx8
              clear hb8 hL8 hx8 e0 e1 e2 e3 e4 HD7 HL7 HV
              have hEE : (E != E) = false := by simp
              have z0 := HV8.out.c0
              have HN7 := Lib.hid (show lx7.length ≤ 40 by have := HG7.out.len; rwa [xs_len] at this)
              go_wp2_with fail
              refine (as_any X7 x7 lx7 w8 HV8.out.L (by have := HN7.out; omega)).mono ?_
              rintro e w9 ⟨hb9, Z9, z9, lz9, rfl, hL9, hx9⟩
              have HD9 := Lib.hid (HD8.out.next hb9)
              have HV9 := Lib.hid (HV8.out.next hb9)
              have HL9 := Lib.hid (HL8.out.next hb9)
              have HZ9 := Lib.hid hL9
              have HXZ := Lib.hid hx9
              have HN9 := Lib.hid (show lz9.length ≤ 40 ∧ ly8.length ≤ 40 by
                have h1 := congrArg List.length hx9
                have h2 := congrArg List.length (HX8.out.trans HX7.out.symm)
                rw [xs_len, xs_len] at h1 h2
                have := HN7.out
                omega)
              clear hb9 hL9 hx9 z0 HD8 HV8 HL8
              have CS := Lib.hid (show Calls Try.prog 17 #[.slice Z9 lz9.length z9, .slice Y8 ly8.length y8] w9 fun e w' => e = .returned (.bool true) ∧ Below w9.heap.size w9 w' by
                have h := same_any Z9 z9 lz9 Y8 y8 ly8 w9 HZ9.out HL9.out (by have := HN9.out; omega) (by have := HN9.out; omega)
                rw [decide_eq_true (by rw [HXZ.out, HX7.out, HX8.out])] at h
                exact h)
              go_wp2_with fail
              refine CS.out.mono ?_
              rintro e w10 ⟨rfl, hb10⟩
              have HD10 := Lib.hid (HD9.out.next hb10)
              have HV10 := Lib.hid (HV9.out.next hb10)
              have HL10 := Lib.hid (HL9.out.next hb10)
              clear hb10 HD9 HV9 HL9 HZ9 CS
              have z0 := HV10.out.c0
              have q1 := HD10.out.c0
              have q2 := HD10.out.fz
              go_wp2_with fail
              go_roundw
              case rel => exact ⟨k + 1, X7, x7, lx7, Y8, y8, ly8, by go_num, rfl, by omega, Lib.hid (HD10.out.set HV10.out.L), Lib.hid (by rw [size_set]; exact HL10.out.setBox HD10.out.nb 0 _), Lib.hid (by rw [HX8.out, HX7.out]), Lib.hid (mod_good HG7.out)⟩
              case measure => simp [intOf]; omega
        · have h30' : ¬ (k : Int) < 30 := by omega
          go_wp2_with fail
          refine (knows_any _).mono ?_
          rintro e w99 ⟨rfl, hb99⟩
          have HB99 := Lib.hid (below_then HD.out.bl hb99)
          clear hb99
          go_wp2_with fail
          go_ret
          exact ⟨rfl, HB99.out⟩
      · have hkl : ¬ (k : Int) < (la.length : Int) := by omega
        go_wp2_with fail
        refine (knows_any _).mono ?_
        rintro e w99 ⟨rfl, hb99⟩
        have HB99 := Lib.hid (below_then HD.out.bl hb99)
        clear hb99
        go_wp2_with fail
        go_ret
        exact ⟨rfl, HB99.out⟩
end Go.Proofs.Ytdpmlpclhojcjaa
