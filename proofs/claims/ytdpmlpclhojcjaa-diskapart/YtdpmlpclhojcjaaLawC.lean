import Derived.Test.YtdpmlpclhojcjaaDq
/-
  The walk of DiskApart. No condition but that the lists have no more than can lie in memory.
-/
namespace Go.Proofs.Ytdpmlpclhojcjaa
open Go.ChangeShapes Go.WideShapes Go.ChangeAt Go.RowKit
set_option linter.unusedVariables false

set_option maxHeartbeats 8000000 in
theorem apart_walk (A : Option Addr) (c : Nat) (ls : List Fe) (kd n : Int) (nm : ByteArray) (BA : Option Addr) (bcap : Nat) (b : List UInt8) (KA : Option Addr) (kc : Nat) (l : List Int) (o : ByteArray) (w : World) (hA : Fls w w.heap.size A c ls) (hK : Ak w w.heap.size BA bcap b KA kc l) (n1 : -9223372036854775808 ≤ n ∧ n ≤ 9223372036854775807) (hx : ∀ x ∈ l, -9223372036854775808 ≤ x ∧ x ≤ 9223372036854775807)
    (mo : o.size ≤ maxLen) :
    Calls Try.prog 6 #[.agg #[.slice A ls.length c], .agg #[.int .i64 kd, .int .i64 n, .string nm, .slice BA b.length bcap, .slice KA l.length kc], .string o] w fun e w' => e = .returned (.bool true) ∧ Below w.heap.size w w' := by
  have mo63 : o.size ≤ 9223372036854775807 := mo
  have HI := Lib.hid n1
  have HXB := Lib.hid hx
  clear mo n1 hx
  have HD0 := Lib.hid ((Dx.arg hA).next (below_alloc (w.alloc (.cells #[.slice A ls.length c] 24)) (.cells #[.int .i64 kd, .int .i64 n, .string nm, .slice BA b.length bcap, .slice KA l.length kc] 34)))
  have HA0 := Lib.hid (show Ax (w.alloc (.cells #[.slice A ls.length c] 24)).heap.size kd n nm BA bcap b KA kc l ((w.alloc (.cells #[.slice A ls.length c] 24)).alloc (.cells #[.int .i64 kd, .int .i64 n, .string nm, .slice BA b.length bcap, .slice KA l.length kc] 34)) from heap_alloc_new _ _)
  have HK0 := Lib.hid ((hK.next (below_alloc w (.cells #[.slice A ls.length c] 24))).next (below_alloc _ (.cells #[.int .i64 kd, .int .i64 n, .string nm, .slice BA b.length bcap, .slice KA l.length kc] 34)))
  rw [show (w.alloc (.cells #[.slice A ls.length c] 24)).heap.size = w.heap.size + 1 by simp] at HA0
  clear hA hK
  go_enter Try.func6, Try.ntmps6
  go_upto_region 1 with fail
  generalize (w.alloc (.cells #[.slice A ls.length c] 24)).alloc (.cells #[.int .i64 kd, .int .i64 n, .string nm, .slice BA b.length bcap, .slice KA l.length kc] 34) = w1 at HD0 HA0 HK0 ⊢
  generalize hba : w.heap.size + 1 = ba at HA0 ⊢
  generalize hbx : w.heap.size = bx at HD0 ⊢
  have HBX := Lib.hid hbx
  clear hbx hba
  have z0 := HD0.out.c0
  have a0 := HA0.out.c0
  have a1 := HA0.out.c1
  have a2 := HA0.out.c2
  have a3 := HA0.out.c3
  have a4 := HA0.out.c4
  go_wp2_with fail
  refine (great_any A c ls w1 HD0.out.L.L).mono ?_
  rintro e w2 ⟨rfl, hb2⟩
  have HD := Lib.hid (HD0.out.next hb2)
  have HAX := Lib.hid (HA0.out.next hb2)
  have HAK := Lib.hid (HK0.out.next hb2)
  clear hb2 z0 HD0 a0 a1 a2 a3 a4 HA0 HK0
  have a0 := HAX.out.c0
  have a1 := HAX.out.c1
  have a2 := HAX.out.c2
  have a3 := HAX.out.c3
  have a4 := HAX.out.c4
  cases hg : grtB ls with
  | true =>
    go_wp2_with fail
    refine (knows_any _).mono ?_
    rintro e w99 ⟨rfl, hb99⟩
    have HB99 := Lib.hid (below_then HD.out.bl hb99)
    clear hb99
    go_wp2_with fail
    go_ret
    exact ⟨rfl, HB99.out⟩
  | false =>
    have HM := Lib.hid (mod_few hg)
    clear hg
    go_wp2_with fail
    refine (wide_any kd n nm BA bcap b KA kc l w2).mono ?_
    rintro e w3 ⟨rfl, hb3⟩
    have HD3 := Lib.hid (HD.out.next hb3)
    have HAX3 := Lib.hid (HAX.out.next hb3)
    have HAK3 := Lib.hid (HAK.out.next hb3)
    clear hb3 HD HAX HAK a0 a1 a2 a3 a4
    have a0 := HAX3.out.c0
    cases hw : widB nm b l with
    | true =>
      go_wp2_with fail
      refine (knows_any _).mono ?_
      rintro e w99 ⟨rfl, hb99⟩
      have HB99 := Lib.hid (below_then HD3.out.bl hb99)
      clear hb99
      go_wp2_with fail
      go_ret
      exact ⟨rfl, HB99.out⟩
    | false =>
      by_cases ho : 100 < o.size
      · have hoi : (100 : Int) < (o.size : Int) := by omega
        go_wp2_with fail
        refine (knows_any _).mono ?_
        rintro e w99 ⟨rfl, hb99⟩
        have HB99 := Lib.hid (below_then HD3.out.bl hb99)
        clear hb99
        go_wp2_with fail
        go_ret
        exact ⟨rfl, HB99.out⟩
      have hoi : ¬ (100 : Int) < (o.size : Int) := by omega
      by_cases h0 : kd < 0
      · go_wp2_with fail
        refine (knows_any _).mono ?_
        rintro e w99 ⟨rfl, hb99⟩
        have HB99 := Lib.hid (below_then HD3.out.bl hb99)
        clear hb99
        go_wp2_with fail
        go_ret
        exact ⟨rfl, HB99.out⟩
      by_cases h3 : 3 < kd
      · go_wp2_with fail
        refine (knows_any _).mono ?_
        rintro e w99 ⟨rfl, hb99⟩
        have HB99 := Lib.hid (below_then HD3.out.bl hb99)
        clear hb99
        go_wp2_with fail
        go_ret
        exact ⟨rfl, HB99.out⟩
      obtain ⟨hw1, hw2, hw3⟩ := wid_no hw
      have HAN := Lib.hid (show An n nm b l from ⟨HI.out.1, HI.out.2, by omega, by omega, by omega, HXB.out⟩)
      have HKD := Lib.hid (show 0 ≤ kd ∧ kd ≤ 3 by omega)
      have z0 := HD3.out.c0
      clear hw hw1 hw2 hw3
      go_wp2_with fail
      refine (dget_any A c ls w3 HD3.out.L HM.out o (by omega)).mono ?_
      rintro e w4 ⟨hb4, G, gc, gb, rfl, hgb, hgl⟩
      have HD4 := Lib.hid (HD3.out.next hb4)
      have HAX4 := Lib.hid (HAX3.out.next hb4)
      have HAK4 := Lib.hid (HAK3.out.next hb4)
      have HGB := Lib.hid hgb
      have HGL := Lib.hid hgl
      clear hb4 hgb hgl z0 HD3 HAX3 HAK3 a0
      have z0 := HD4.out.c0
      have a0 := HAX4.out.c0
      have a1 := HAX4.out.c1
      have a2 := HAX4.out.c2
      have a3 := HAX4.out.c3
      have a4 := HAX4.out.c4
      have CDO := Lib.hid (do_any A c ls kd n nm BA bcap b KA kc l w4 HD4.out.L HM.out HAK4.out HAN.out)
      have HGD := Lib.hid (goodOf_good (xs ls))
      have HGX := Lib.hid (act_good HGD.out kd n nm.toList b l)
      have HNO := Lib.hid (act_no (d := goodOf (xs ls)) (n := n) (nm := nm.toList) (b := b) (l := l) HKD.out.1 HKD.out.2)
      have HOT := Lib.hid (fun h => act_other (l := l) (n := n) (b := b) HGD.out (o := o.toList) (nm := nm.toList) HKD.out.1 HKD.out.2 h)
      generalize actE (goodOf (xs ls)) kd n nm.toList b = E at *
      generalize actD (goodOf (xs ls)) kd n nm.toList b l = dx at *
      go_wp2_with fail
      refine CDO.out.mono ?_
      rintro e w5 ⟨hb5, X, xc, lx, rfl, hL5, hx5⟩
      have HD5 := Lib.hid (HD4.out.next hb5)
      have HAX5 := Lib.hid (HAX4.out.next hb5)
      have HGL5 := Lib.hid (HGL.out.next hb5)
      have HX5 := Lib.hid hx5
      have HGX5 := Lib.hid (show Good (xs lx) by rw [hx5]; exact HGX.out)
      have HY := Lib.hid (Dx.new HD5.out.bl hL5)
      have hba5 := below_alloc w5 (.cells #[.slice X lx.length xc] 24)
      have HD6 := Lib.hid (HD5.out.next hba5)
      have HAX6 := Lib.hid (HAX5.out.next hba5)
      have HGL6 := Lib.hid (HGL5.out.next hba5)
      clear hb5 hL5 hx5 hba5 z0 a0 a1 a2 a3 a4 HD4 HAX4 HAK4 HGL HD5 HAX5 HGL5 CDO
      go_upto_region 5 with fail
      generalize w5.alloc (.cells #[.slice X lx.length xc] 24) = w6 at HY HD6 HAX6 HGL6 ⊢
      generalize w5.heap.size = by5 at HY ⊢
      have z0 := HY.out.c0
      go_wp2_with fail
      refine (dget_any X xc lx w6 HY.out.L (mod_good HGX5.out) o (by omega)).mono ?_
      rintro e w7 ⟨hb7, H, hc, hb, rfl, hhb, hhl⟩
      rw [goodOf_self HGX5.out, HX5.out] at hhb
      rw [goodOf_self HGX5.out, HX5.out]
      have HHB := Lib.hid hhb
      have HHL := Lib.hid hhl
      have HD7 := Lib.hid (HD6.out.next hb7)
      have HY7 := Lib.hid (HY.out.next hb7)
      have HAX7 := Lib.hid (HAX6.out.next hb7)
      have HGL7 := Lib.hid (HGL6.out.next hb7)
      clear hb7 hhb hhl z0 HD6 HY HAX6 HGL6
      have z0 := HY7.out.c0
      go_wp2_with fail
      refine (dright_any X xc lx w7 HY7.out.L (mod_good HGX5.out)).mono ?_
      rintro e w8 ⟨rfl, hb8⟩
      rw [(goodB_iff _).2 HGX5.out]
      have HD8 := Lib.hid (HD7.out.next hb8)
      have HY8 := Lib.hid (HY7.out.next hb8)
      have HAX8 := Lib.hid (HAX7.out.next hb8)
      have HGL8 := Lib.hid (HGL7.out.next hb8)
      have HHL8 := Lib.hid (HHL.out.next hb8)
      clear hb8 z0 HD7 HY7 HAX7 HGL7 HHL
      have HLN := Lib.hid (show lx.length ≤ 40 by have := HGX5.out.len; rwa [xs_len] at this)
      have z0 := HY8.out.c0
      go_wp2_with fail
      refine (as_any X xc lx w8 HY8.out.L (by have := HLN.out; omega)).mono ?_
      rintro e w9 ⟨hb9, Y, yc, ly, rfl, hL9, hx9⟩
      have HD9 := Lib.hid (HD8.out.next hb9)
      have HY9 := Lib.hid (HY8.out.next hb9)
      have HAX9 := Lib.hid (HAX8.out.next hb9)
      have HGL9 := Lib.hid (HGL8.out.next hb9)
      have HHL9 := Lib.hid (HHL8.out.next hb9)
      have HL9 := Lib.hid hL9
      have HX9 := Lib.hid hx9
      clear hb9 hL9 hx9 z0 HD8 HY8 HAX8 HGL8 HHL8
      go_wp2_with fail
      refine (rright_any Y yc ly w9 HL9.out.L (by have := congrArg List.length HX9.out; rw [xs_len, xs_len] at this; have := HLN.out; omega)).mono ?_
      rintro e w10 ⟨rfl, hb10⟩
      rw [HX9.out, (goodB_iff _).2 HGX5.out]
      have HD := Lib.hid (HD9.out.next hb10)
      have HYB := Lib.hid (HY9.out.next hb10)
      have HAX := Lib.hid (HAX9.out.next hb10)
      have HGL := Lib.hid (HGL9.out.next hb10)
      have HHL := Lib.hid (HHL9.out.next hb10)
      clear hb10 HD9 HY9 HAX9 HGL9 HHL9 HL9 HX9
      by_cases hE : E = 0
      · subst hE
        have a2 := HAX.out.c2
        by_cases hon : o.toList = nm.toList
        · have hon' : (o.toList == nm.toList) = true := by simpa using hon
          clear hon
          go_wp2_with fail
          refine (knows_any _).mono ?_
          rintro e w99 ⟨rfl, hb99⟩
          have HB99 := Lib.hid (below_then HD.out.bl hb99)
          clear hb99
          go_wp2_with fail
          go_ret
          exact ⟨rfl, HB99.out⟩
        · have hon' : (o.toList == nm.toList) = false := by simpa using hon
          obtain ⟨ho1, ho2⟩ := HOT.out hon
          have K1 : (convert 31 9 (.slice G gb.length gc)).run Try.prog w10 = .ok (.string ⟨gb.toArray⟩) w10 := run_str _ _ 31 9 5 _ _ _ _ Try.underlying31 Try.underlying5 Try.underlying9 HGL.out
          have K2 : (convert 31 9 (.slice H hb.length hc)).run Try.prog w10 = .ok (.string ⟨gb.toArray⟩) w10 := by
            have h := run_str (P := Try.prog) w10 _ 31 9 5 H hb.length hc hb Try.underlying31 Try.underlying5 Try.underlying9 HHL.out
            rw [show hb = gb by rw [HHB.out, HGB.out, ho1]] at h ⊢
            exact h
          have HEE := Lib.hid ho2
          rw [HEE.out]
          clear hon ho1 ho2
          go_wp2_with fail
          refine (knows_any _).mono ?_
          rintro e w99 ⟨rfl, hb99⟩
          have HB99 := Lib.hid (below_then HD.out.bl hb99)
          clear hb99
          go_wp2_with fail
          go_ret
          exact ⟨rfl, HB99.out⟩
      · have hE' : (E != 0) = true := by simpa using hE
        have HXX := Lib.hid (show xs lx = goodOf (xs ls) by rw [HX5.out]; exact HNO.out hE)
        clear hE
        have HF := Lib.hid (show ∀ W : World, Below w10.heap.size w10 W → W.cell? ⟨bx, 0, none⟩ = some (.slice A ls.length c) ∧ W.cell? ⟨by5, 0, none⟩ = some (.slice X lx.length xc) ∧ Below w10.heap.size w10 W from fun W hb => ⟨(HD.out.next hb).c0, (HYB.out.next hb).c0, hb⟩)
        have CX := Lib.hid (fun (W : World) (hb : Below w10.heap.size w10 W) => as_any X xc lx W (HYB.out.next hb).L (by have := HLN.out; omega))
        have CA := Lib.hid (fun (W : World) (hb : Below w10.heap.size w10 W) => as_any A c ls W (HD.out.next hb).L (by have := HM.out.n; omega))
        have CG := Lib.hid (fun (Z : Option Addr) (zc : Nat) (lz : List Fe) (W : World) (h : Fls W W.heap.size Z zc lz) (hz : xs lz = xs ls) => good_any Z zc lz W h (by have := congrArg List.length hz; rw [xs_len, xs_len] at this; have := HM.out.n; omega))
        have CS := Lib.hid (fun (P : Option Addr) (pc : Nat) (lp : List Fe) (Q : Option Addr) (qc : Nat) (lq : List Fe) (W : World) (h : Fls W W.heap.size P pc lp) (hp : xs lp = xs lx) (h2 : Fls W W.heap.size Q qc lq) (hq : xs lq = xs lx) => (show Calls Try.prog 17 #[.slice P lp.length pc, .slice Q lq.length qc] W fun e w' => e = .returned (.bool true) ∧ Below W.heap.size W w' by
          have h := same_any P pc lp Q qc lq W h h2 (by have := congrArg List.length hp; rw [xs_len, xs_len] at this; have := HLN.out; omega) (by have := congrArg List.length hq; rw [xs_len, xs_len] at this; have := HLN.out; omega)
          rw [decide_eq_true (hp.trans hq.symm)] at h
          exact h))
        have q1 := HF.out w10.drew (Below.refl _ _).drew
        go_upto_region 9 with fail
        go_region_held3 (fun w' => w'.cell? ⟨bx, 0, none⟩ = some (.slice A ls.length c) ∧ w'.cell? ⟨by5, 0, none⟩ = some (.slice X lx.length xc) ∧ Below w10.heap.size w10 w')
          (exact q1)
          (first | ((go_at_call 11); (with_reducible refine (CX.out _ q1.2.2).mono ?_); rintro e w9 ⟨hb9, X9, x9, l9, rfl, hL9, hx9⟩; have K1 := Lib.hid hL9; have X1 := Lib.hid hx9; have q1 := HF.out w9 (q1.2.2.trans (hb9.mono q1.2.2.size)); clear hb9 hL9 hx9) | ((go_at_call 11); (with_reducible refine (CA.out _ q1.2.2).mono ?_); rintro e w9 ⟨hb9, Y9, y9, m9, rfl, hL9, hx9⟩; have K3 := Lib.hid hL9; have X3 := Lib.hid hx9; have K1 := Lib.hid (K1.out.next hb9); have q1 := HF.out w9 (q1.2.2.trans (hb9.mono q1.2.2.size)); clear hb9 hL9 hx9) | ((go_at_call 18); (with_reducible refine (CG.out _ _ _ _ K3.out X3.out).mono ?_); rintro e w9 ⟨hb9, Z9, z9, n9, rfl, hL9, hx9⟩; have K2 := Lib.hid hL9; have X2 := Lib.hid (show xs n9 = xs lx by rw [hx9, X3.out, HXX.out]); have K1 := Lib.hid (K1.out.next hb9); have q1 := HF.out w9 (q1.2.2.trans (hb9.mono q1.2.2.size)); clear hb9 hL9 hx9) | ((go_at_call 17); (with_reducible refine (CS.out _ _ _ _ _ _ _ K1.out X1.out K2.out X2.out).mono ?_); rintro e w9 ⟨rfl, hb9⟩; have q1 := HF.out w9 (q1.2.2.trans (hb9.mono q1.2.2.size)); clear hb9) | ((go_at_call 10); (with_reducible refine (knows_any _).mono ?_); rintro e w9 ⟨rfl, hb9⟩; have q1 := HF.out w9 (q1.2.2.trans (hb9.mono q1.2.2.size)); clear hb9))
        all_goals
          go_wp2_with fail
          go_ret
          exact ⟨rfl, below_then HD.out.bl q1.2.2⟩
end Go.Proofs.Ytdpmlpclhojcjaa
