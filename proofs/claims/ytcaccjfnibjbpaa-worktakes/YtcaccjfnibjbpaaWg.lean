/-
  The contracts of the document's own Take and Quiet (chapter 8). No condition but that the numbers are of 64 bits and not too many.
-/
import Derived.Test.YtcaccjfnibjbpaaWe
import Derived.BigQuiet
namespace Go.Proofs.Ytcaccjfnibjbpaa
open Go.ChangeShapes Go.WideShapes Go.ChangeAt Go.RowKit Go.Sort
set_option linter.unusedVariables false

/-- What the document's Take answers: a partition and a number. -/
def RkPost (t : Pt × Int) (w : World) (r : Ending) (w' : World) : Prop :=
  Below w.heap.size w w' ∧ ∃ Q T A1 c1 A2 c2 A3 c3, r = .returned (.tuple #[.agg #[.int .i64 Q, .int .i64 T.step, .slice A1 T.vals.length c1, .slice A2 T.rest.length c2, .slice A3 T.inn.length c3], .int .i64 t.2]) ∧ mkP Q T = t.1 ∧ StL w' w'.heap.size T A1 c1 A2 c2 A3 c3
theorem rk_no {t : Pt × Int} {e : Int} {w w' : World} (h : t = (noPt, e)) (hb : Below w.heap.size w w') : RkPost t w (.returned (.tuple #[.agg #[.int .i64 0, .int .i64 0, .slice none 0 0, .slice none 0 0, .slice none 0 0], .int .i64 e])) w' := by
  subst h
  exact ⟨hb, 0, noSt, none, 0, none, 0, none, 0, rfl, rfl, StL.no _ _⟩
def RtR8 (N q P : Int) (L : List Ms) (w3 : World) (i : Value) (W : World) : Prop := ∃ k : Nat, i = .int .i64 k ∧ k ≤ L.length ∧ Hid ((L.take k).all (ownB N q P) = true) ∧ Hid (Below w3.heap.size w3 W)
set_option maxRecDepth 20000 in
set_option maxHeartbeats 4000000 in
theorem rtake_any (N : Int) (A : Option Addr) (n c : Nat) (es : List Ed) (p s l q P : Int) (S : St) (A1 : Option Addr) (c1 : Nat) (A2 : Option Addr) (c2 : Nat) (A3 : Option Addr) (c3 : Nat) (D : Option Addr) (d : Nat) (ls : List Le) (w : World) (hA : Lies w w.heap.size 3 A n (ec es)) (hnc : n ≤ c) (hn : n ≤ maxLen) (hS : StL w w.heap.size S A1 c1 A2 c2 A3 c3) (hD : Lls w w.heap.size D d ls) (hl : ls.length ≤ 1000) (hL : (lcatl ls).length ≤ 100000) (hbd : ∀ e ∈ lcatl ls, bd e.2) :
    Calls Try.prog 17 #[.agg #[.int .i64 N, .slice A n c], .agg #[.int .i64 p, .int .i64 s, .int .i64 l, .int .i64 q], .agg #[.int .i64 P, .int .i64 S.step, .slice A1 S.vals.length c1, .slice A2 S.rest.length c2, .slice A3 S.inn.length c3], .slice D ls.length d] w (RkPost (takeR N es p s l q (mkP P S) (lcatl ls)) w) := by
  have mixed : Try.prog.follows .mixedOrders = true := by kernel_rfl
  obtain ⟨w4, hw4⟩ : ∃ w4, w4 = (((w.alloc (.cells #[.int .i64 N, .slice A n c] 24)).alloc (.cells #[.int .i64 p, .int .i64 s, .int .i64 l, .int .i64 q] 26)).alloc (.cells #[.int .i64 P, .int .i64 S.step, .slice A1 S.vals.length c1, .slice A2 S.rest.length c2, .slice A3 S.inn.length c3] 31)).alloc (.cells #[.int .i64 0, .int .i64 0, .slice none 0 0, .slice none 0 0, .slice none 0 0] 31) := ⟨_, rfl⟩
  have hbs : Bp w N A n c p s l q P S A1 c1 A2 c2 A3 c3 w4 := by rw [hw4]; exact (Bp.init w N A n c p s l q P S A1 c1 A2 c2 A3 c3).next (below_alloc _ _)
  have H4 := Lib.hid (fun (W : World) (hb : Below w4.heap.size w4 W) => fourth8 w _ _ _ _ W (by rw [hw4] at hb; exact hb))
  have HB3x := Lib.hid (show ∀ W : World, Below w4.heap.size w4 W → W.heap[w.heap.size + 1 + 1]? = some (.cells #[.int .i64 P, .int .i64 S.step, .slice A1 S.vals.length c1, .slice A2 S.rest.length c2, .slice A3 S.inn.length c3] 31) by
    intro W hb
    rw [hw4] at hb
    rw [hb.block _ (by simp), heap_alloc_old _ _ (by simp)]
    have e : ((w.alloc (.cells #[.int .i64 N, .slice A n c] 24)).alloc (.cells #[.int .i64 p, .int .i64 s, .int .i64 l, .int .i64 q] 26)).heap.size = w.heap.size + 1 + 1 := by simp
    rw [← e]; exact heap_alloc_new _ _)
  have HA := Lib.hid (hA.next hbs.x.bl)
  have HS := Lib.hid (hS.next hbs.x.bl)
  have HD := Lib.hid (hD.next hbs.x.bl)
  have HBD := Lib.hid hbd
  have HBS := Lib.hid hbs
  have HS0 := Lib.hid hS
  clear hbs hA hS hD hbd
  go_enter Try.func17, Try.ntmps17
  go_upto_region 1 with fail
  rw [← hw4]
  clear hw4
  obtain ⟨⟨z1, g0, g1, j0, j1, j2, j3, bl1⟩, z2, p0, s0, s1, s2, s3⟩ := id HBS.out
  clear z1 bl1 z2 p0 s0 s1 s2 s3
  go_wp2_with fail
  refine (rjcheck_any N A n c es p s l q _ HA.out hnc hn).mono ?_
  rintro e w1 ⟨rfl, hb1⟩
  have HB1 := Lib.hid hb1
  have HX1 := Lib.hid (HBS.out.next hb1)
  clear g0 g1 j0 j1 j2 j3 hb1
  by_cases hj : jchk N es p s l q = 0
  · have HJ := Lib.hid hj
    rw [hj]
    clear hj
    obtain ⟨⟨z1, g0, g1, j0, j1, j2, j3, bl1⟩, z2, p0, s0, s1, s2, s3⟩ := id HX1.out
    clear z1 bl1 z2
    have C1 := Lib.hid (rpright_any N A n c es p s l q P S A1 c1 A2 c2 A3 c3 w1 (HA.out.next HB1.out) hnc hn (HS.out.next HB1.out))
    cases hr : rightP N es p s l q (mkP P S) with
    | false =>
      have HR := Lib.hid (takeR_no (L := lcatl ls) HJ.out (.inl hr))
      rw [hr] at C1
      clear hr
      go_wp2_with fail
      refine C1.out.mono ?_
      rintro e w3 ⟨rfl, hb3⟩
      have HB3 := Lib.hid (HB1.out.trans (hb3.mono HB1.out.size))
      have HX3 := Lib.hid (HX1.out.next hb3)
      clear g0 g1 j0 j1 j2 j3 p0 s0 s1 s2 s3 hb3 C1
      have z2 := H4.out w3 HB3.out
      have r0 := cell_of_row w3 _ 0 _ 31 (0, 0) z2
      have f0 := unfrozen z2 0
      have r1 := cell_of_row w3 _ 1 _ 31 (0, 0) z2
      have f1 := unfrozen z2 1
      have r2 := cell_of_row w3 _ 2 _ 31 (0, 0) z2
      have f2 := unfrozen z2 2
      have r3 := cell_of_row w3 _ 3 _ 31 (0, 0) z2
      have f3 := unfrozen z2 3
      have r4 := cell_of_row w3 _ 4 _ 31 (0, 0) z2
      have f4 := unfrozen z2 4
      clear z2
      go_wp2_with fail
      refine bodyPost_ret (v := .tuple #[.agg #[.int .i64 0, .int .i64 0, .slice none 0 0, .slice none 0 0, .slice none 0 0], .int .i64 1]) (by simp [results, Try.results17, go_sem, r0, r1, r2, r3, r4]) rfl ?_
      exact rk_no HR.out (((((HX3.out.x.bl.setCell (by simp <;> omega) _).setCell (by simp <;> omega) _).setCell (by simp <;> omega) _).setCell (by simp <;> omega) _).setCell (by simp <;> omega) _)
    | true =>
      have HRR := Lib.hid hr
      rw [hr] at C1
      clear hr
      go_wp2_with fail
      refine C1.out.mono ?_
      rintro e w3 ⟨rfl, hb3⟩
      have HB3 := Lib.hid (HB1.out.trans (hb3.mono HB1.out.size))
      have HX3 := Lib.hid (HX1.out.next hb3)
      clear g0 g1 j0 j1 j2 j3 p0 s0 s1 s2 s3 hb3 C1 HX1 HB1
      have s3 := HX3.out.s3
      by_cases hi : S.inn.length = 0
      · have HI := Lib.hid hi
        have hi0 : (((S.inn.length : Nat) : Int) != 0) = false := by simp; exact List.eq_nil_of_length_eq_zero hi
        clear hi
        go_wp2_with fail
        refine (mjoin_any D d ls _ (HD.out.next HB3.out) (by omega) (by omega)).mono ?_
        rintro e w5 ⟨B, cB, rfl, hoB, hb5⟩
        have HB5 := Lib.hid (HB3.out.trans (hb5.mono HB3.out.size))
        have HX5 := Lib.hid (HX3.out.next hb5)
        have HLB := Lib.hid (Lies.of_own hoB)
        have HML := Lib.hid (show (msort (lcatl ls)).length = (lcatl ls).length from msort_len _)
        have HOH := Lib.hid (own_home (N := N) (q := q) (P := P) (by have := rightP_small HRR.out; omega) (by have := rightP_small HRR.out; omega) (by have := rightP_of HRR.out; omega) (lcatl ls))
        have HFD := Lib.hid (fd_sorted p (lcatl ls))
        have HBM := Lib.hid (show ∀ e ∈ msort (lcatl ls), bd e.2 from fun e he => HBD.out e ((msort_perm _).mem_iff.1 he))
        have HSQ := Lib.hid (rightP_small HRR.out)
        have HP0 := Lib.hid (show 0 ≤ P ∧ P < q from (rightP_of HRR.out).2.1)
        have HMS := Lib.hid (show (msort (lcatl ls)).length ≤ 100000 by have := HML.out; omega)
        generalize msort (lcatl ls) = M at *
        have hM := HMS.out
        clear s3 hi0 hb5 hoB HX3
        go_wp2_with fail
        go_loopw [12] (fun i W => RtR8 N q P M w5 i W) (fun i W => M.length - (intOf i).toNat)
        case atStart => exact ⟨0, rfl, Nat.zero_le _, Lib.hid rfl, Lib.hid (Below.refl _ _)⟩
        case round =>
          obtain ⟨k, rfl, hk, HP, HB⟩ := hrel
          have HXW := Lib.hid (HX5.out.next HB.out)
          have HBW := Lib.hid (HB5.out.trans (HB.out.mono HB5.out.size))
          have HLW := Lib.hid (HLB.out.next HB.out)
          by_cases hlt : k < M.length
          · have hkl : (k : Int) < (M.length : Int) := by omega
            obtain ⟨ad, hB', hadb, e0, e1⟩ := HLW.out.ms k hlt
            subst hB'
            have HT := Lib.hid (allM_take (ownB N q P) M k hlt)
            have HN := Lib.hid (allM_no (ownB N q P) M k hlt)
            have g0 := HXW.out.x.g0
            have j3 := HXW.out.x.j3
            have p0 := HXW.out.p0
            generalize mAt M k = m at *
            obtain ⟨m1, m2⟩ := m
            have e0 : wr.cell? (ad.add (k * 2)) = some (.int .i64 m1) := e0
            have hq16 : 1 ≤ q ∧ q ≤ 6 := by have := HSQ.out; omega
            have hq0 : q ≠ 0 := by omega
            clear e1 hadb
            go_upto_region 11 with fail
            go_cut [64] (fun s64 W => s64 = .bool (!ownB N q P (m1, m2)) ∧ Below wr.heap.size wr W)
            case first =>
              by_cases h1 : m1 < 0
              · have HF := Lib.hid (show ownB N q P (m1, m2) = false by unfold ownB; rw [homeI_no (.inl h1), decide_eq_false (show ¬ (-1 : Int) = P by have := HP0.out; omega)]; simp)
                go_quiet (fail)
                go_wp2_with fail
                go_meet
                exact ⟨by rw [HF.out]; rfl, below_to_drewN (Below.refl _ _) _⟩
              · by_cases h2 : m1 ≥ N
                · have HF := Lib.hid (show ownB N q P (m1, m2) = false by unfold ownB; rw [decide_eq_false (show ¬ m1 < N by omega)]; rfl)
                  go_quiet (fail)
                  go_wp2_with fail
                  go_meet
                  exact ⟨by rw [HF.out]; rfl, below_to_drewN (Below.refl _ _) _⟩
                · have HF := Lib.hid (show ownB N q P (m1, m2) = decide (m1 % q = P) by unfold ownB; rw [decide_eq_true (show m1 < N by omega), homeI_yes h1 (by omega) (by omega)]; rfl)
                  by_cases h3 : m1 % q = P
                  · go_quiet (fail)
                    go_wp2_with fail
                    go_meet
                    exact ⟨by rw [HF.out, decide_eq_true h3]; simp, below_to_drewN (Below.refl _ _) _⟩
                  · go_quiet (fail)
                    go_wp2_with fail
                    go_meet
                    exact ⟨by rw [HF.out, decide_eq_false h3]; simp [h3], below_to_drewN (Below.refl _ _) _⟩
            case rest =>
              obtain ⟨rfl, hb⟩ := hcut
              have HXV := Lib.hid (HXW.out.next hb)
              have HBV := Lib.hid (HB.out.trans (hb.mono HB.out.size))
              have HB4 := Lib.hid (HBW.out.trans (hb.mono HBW.out.size))
              clear hb g0 j3 p0 e0
              cases ho : ownB N q P (m1, m2) with
              | true =>
                have HT1 := Lib.hid (show (M.take (k + 1)).all (ownB N q P) = true by rw [HT.out, HP.out, ho]; rfl)
                clear ho
                go_wp2_with fail
                go_roundw
                case rel => exact ⟨k + 1, by go_num, by omega, HT1, HBV⟩
                case measure => simp [intOf]; omega
              | false =>
                have HR := Lib.hid (takeR_no (x := mkP P S) HJ.out (.inr (.inr (show inHome N q P (lcatl ls) = false by rw [← HOH.out]; exact HN.out ho))))
                clear ho
                have z2 := H4.out _ HB4.out
                have r0 := cell_of_row _ _ 0 _ 31 (0, 0) z2
                have f0 := unfrozen z2 0
                have r1 := cell_of_row _ _ 1 _ 31 (0, 0) z2
                have f1 := unfrozen z2 1
                have r2 := cell_of_row _ _ 2 _ 31 (0, 0) z2
                have f2 := unfrozen z2 2
                have r3 := cell_of_row _ _ 3 _ 31 (0, 0) z2
                have f3 := unfrozen z2 3
                have r4 := cell_of_row _ _ 4 _ 31 (0, 0) z2
                have f4 := unfrozen z2 4
                clear z2
                go_wp2_with fail
                refine bodyPost_ret (v := .tuple #[.agg #[.int .i64 0, .int .i64 0, .slice none 0 0, .slice none 0 0, .slice none 0 0], .int .i64 1]) (by simp [results, Try.results17, go_sem, r0, r1, r2, r3, r4]) rfl ?_
                exact rk_no HR.out (((((HXV.out.x.bl.setCell (by simp <;> omega) _).setCell (by simp <;> omega) _).setCell (by simp <;> omega) _).setCell (by simp <;> omega) _).setCell (by simp <;> omega) _)
          · have hk' : k = M.length := by omega
            subst hk'
            have HIN := Lib.hid (show inHome N q P (lcatl ls) = true by rw [← HOH.out]; have := HP.out; rw [List.take_length] at this; exact this)
            have HR := Lib.hid (takeR_yes HJ.out HRR.out HI.out HIN.out)
            have C3 := Lib.hid (rfdf_any p B M.length cB M wr HLW.out (by omega) HBM.out)
            rw [HFD.out.1, HFD.out.2] at C3
            have j0 := HXW.out.x.j0
            clear HP HIN
            go_wp2_with fail
            refine C3.out.mono ?_
            rintro e w7 ⟨AF, cF, rfl, hoF, hb7⟩
            have HB7 := Lib.hid (HBW.out.trans (hb7.mono HBW.out.size))
            have HX7 := Lib.hid (HXW.out.next hb7)
            have HOF := Lib.hid hoF
            have HSW := Lib.hid HBW.out.size
            clear j0 hb7 hoF C3
            by_cases hf : fdC p (lcatl ls) = 0
            · rw [if_pos hf] at HR
              rw [hf]
              clear hf
              have hz2 : w7.heap[w.heap.size + 1 + 1]? = some (.cells #[.int .i64 P, .int .i64 S.step, .slice A1 S.vals.length c1, .slice A2 S.rest.length c2, .slice A3 S.inn.length c3] 31) := HB3x.out w7 HB7.out
              have hz3 := H4.out w7 HB7.out
              generalize hFR : fdR p (lcatl ls) = FR at *
              have HFRR := Lib.hid hFR
              clear hFR
              have x0 := cell_of_row w7 _ 0 _ 31 (0, 0) hz2
              have r0 := cell_of_row w7 _ 0 _ 31 (0, 0) hz3
              have f0 := unfrozen hz3 0
              have x1 := cell_of_row w7 _ 1 _ 31 (0, 0) hz2
              have r1 := cell_of_row w7 _ 1 _ 31 (0, 0) hz3
              have f1 := unfrozen hz3 1
              have x2 := cell_of_row w7 _ 2 _ 31 (0, 0) hz2
              have r2 := cell_of_row w7 _ 2 _ 31 (0, 0) hz3
              have f2 := unfrozen hz3 2
              have x3 := cell_of_row w7 _ 3 _ 31 (0, 0) hz2
              have r3 := cell_of_row w7 _ 3 _ 31 (0, 0) hz3
              have f3 := unfrozen hz3 3
              have x4 := cell_of_row w7 _ 4 _ 31 (0, 0) hz2
              have r4 := cell_of_row w7 _ 4 _ 31 (0, 0) hz3
              have f4 := unfrozen hz3 4
              have g4 := unfrozen hz2 4
              have hlt3 : w.heap.size + 1 + 1 + 1 < w4.heap.size := lt_of_block (H4.out w4 (Below.refl _ _))
              clear hz2 hz3
              go_wp2_with fail
              refine bodyPost_ret (v := .tuple #[.agg #[.int .i64 P, .int .i64 S.step, .slice A1 S.vals.length c1, .slice A2 S.rest.length c2, .slice AF FR.length cF], .int .i64 0]) (by simp [results, Try.results17, go_sem, r0, r1, r2, r3, r4]) rfl ?_
              rw [HR.out]
              have hbf : Below w.heap.size w ((((((w7.setCell ⟨w.heap.size + 1 + 1, 4, none⟩ (.slice AF FR.length cF)).setCell ⟨w.heap.size + 1 + 1 + 1, 0, none⟩ (.int .i64 P)).setCell ⟨w.heap.size + 1 + 1 + 1, 1, none⟩ (.int .i64 S.step)).setCell ⟨w.heap.size + 1 + 1 + 1, 2, none⟩ (.slice A1 S.vals.length c1)).setCell ⟨w.heap.size + 1 + 1 + 1, 3, none⟩ (.slice A2 S.rest.length c2)).setCell ⟨w.heap.size + 1 + 1 + 1, 4, none⟩ (.slice AF FR.length cF)) := ((((((HX7.out.x.bl.setCell (by simp <;> omega) _).setCell (by simp <;> omega) _).setCell (by simp <;> omega) _).setCell (by simp <;> omega) _).setCell (by simp <;> omega) _).setCell (by simp <;> omega) _)
              refine ⟨hbf, P, takeS p S (lcatl ls), A1, c1, A2, c2, AF, cF, by unfold takeS; dsimp only; rw [HFRR.out], rfl, ?_⟩
              have hfr : Fr w4.heap.size AF := (Fr.own HOF.out).low HSW.out
              have hm := ((Lies.of_own HOF.out).set (i := 4) hfr (show w.heap.size + 1 + 1 < w4.heap.size by omega) (.slice AF FR.length cF)).five hfr hlt3 (.int .i64 P) (.int .i64 S.step) (.slice A1 S.vals.length c1) (.slice A2 S.rest.length c2) (.slice AF FR.length cF)
              refine ⟨HS0.out.v.next hbf, HS0.out.r.next hbf, ?_, HS0.out.cv, HS0.out.cr, ?_, takeS_ok HS.out.ok HBD.out hL⟩
              · unfold takeS; dsimp only; rw [HFRR.out]; exact hm.more (by simp [World.setCell])
              · unfold takeS; dsimp only; rw [HFRR.out]; exact own_cap HOF.out
            · rw [if_neg hf] at HR
              have he1 : (fdC p (lcatl ls) != 0) = true := by simpa using hf
              clear hf
              generalize fdC p (lcatl ls) = te at *
              have z2 := H4.out w7 HB7.out
              have r0 := cell_of_row w7 _ 0 _ 31 (0, 0) z2
              have f0 := unfrozen z2 0
              have r1 := cell_of_row w7 _ 1 _ 31 (0, 0) z2
              have f1 := unfrozen z2 1
              have r2 := cell_of_row w7 _ 2 _ 31 (0, 0) z2
              have f2 := unfrozen z2 2
              have r3 := cell_of_row w7 _ 3 _ 31 (0, 0) z2
              have f3 := unfrozen z2 3
              have r4 := cell_of_row w7 _ 4 _ 31 (0, 0) z2
              have f4 := unfrozen z2 4
              clear z2
              go_wp2_with fail
              refine bodyPost_ret (v := .tuple #[.agg #[.int .i64 0, .int .i64 0, .slice none 0 0, .slice none 0 0, .slice none 0 0], .int .i64 te]) (by simp [results, Try.results17, go_sem, r0, r1, r2, r3, r4]) rfl ?_
              exact rk_no HR.out (((((HX7.out.x.bl.setCell (by simp <;> omega) _).setCell (by simp <;> omega) _).setCell (by simp <;> omega) _).setCell (by simp <;> omega) _).setCell (by simp <;> omega) _)
      · have HR := Lib.hid (takeR_no (L := lcatl ls) HJ.out (.inr (.inl (show ¬ (mkP P S).inn.length = 0 from hi))))
        have hi0 : (((S.inn.length : Nat) : Int) != 0) = true := by simp; intro h; exact hi (by rw [h]; rfl)
        clear hi
        have z2 := H4.out w3 HB3.out
        have r0 := cell_of_row w3 _ 0 _ 31 (0, 0) z2
        have f0 := unfrozen z2 0
        have r1 := cell_of_row w3 _ 1 _ 31 (0, 0) z2
        have f1 := unfrozen z2 1
        have r2 := cell_of_row w3 _ 2 _ 31 (0, 0) z2
        have f2 := unfrozen z2 2
        have r3 := cell_of_row w3 _ 3 _ 31 (0, 0) z2
        have f3 := unfrozen z2 3
        have r4 := cell_of_row w3 _ 4 _ 31 (0, 0) z2
        have f4 := unfrozen z2 4
        clear z2
        go_wp2_with fail
        refine bodyPost_ret (v := .tuple #[.agg #[.int .i64 0, .int .i64 0, .slice none 0 0, .slice none 0 0, .slice none 0 0], .int .i64 1]) (by simp [results, Try.results17, go_sem, r0, r1, r2, r3, r4]) rfl ?_
        exact rk_no HR.out (((((HX3.out.x.bl.setCell (by simp <;> omega) _).setCell (by simp <;> omega) _).setCell (by simp <;> omega) _).setCell (by simp <;> omega) _).setCell (by simp <;> omega) _)
  · have HR := Lib.hid (takeR_j (x := mkP P S) (L := lcatl ls) hj)
    have he1 : (jchk N es p s l q != 0) = true := by simpa using hj
    clear hj
    generalize jchk N es p s l q = te at *
    have z2 := H4.out w1 HB1.out
    have r0 := cell_of_row w1 _ 0 _ 31 (0, 0) z2
    have f0 := unfrozen z2 0
    have r1 := cell_of_row w1 _ 1 _ 31 (0, 0) z2
    have f1 := unfrozen z2 1
    have r2 := cell_of_row w1 _ 2 _ 31 (0, 0) z2
    have f2 := unfrozen z2 2
    have r3 := cell_of_row w1 _ 3 _ 31 (0, 0) z2
    have f3 := unfrozen z2 3
    have r4 := cell_of_row w1 _ 4 _ 31 (0, 0) z2
    have f4 := unfrozen z2 4
    clear z2
    go_wp2_with fail
    refine bodyPost_ret (v := .tuple #[.agg #[.int .i64 0, .int .i64 0, .slice none 0 0, .slice none 0 0, .slice none 0 0], .int .i64 te]) (by simp [results, Try.results17, go_sem, r0, r1, r2, r3, r4]) rfl ?_
    exact rk_no HR.out (((((HX1.out.x.bl.setCell (by simp <;> omega) _).setCell (by simp <;> omega) _).setCell (by simp <;> omega) _).setCell (by simp <;> omega) _).setCell (by simp <;> omega) _)
set_option maxRecDepth 20000 in
set_option maxHeartbeats 1000000 in
theorem rpquiet_any (P : Int) (S : St) (A1 : Option Addr) (c1 : Nat) (A2 : Option Addr) (c2 : Nat) (A3 : Option Addr) (c3 : Nat) (w : World) (hS : StL w w.heap.size S A1 c1 A2 c2 A3 c3) :
    Calls Try.prog 19 #[.agg #[.int .i64 P, .int .i64 S.step, .slice A1 S.vals.length c1, .slice A2 S.rest.length c2, .slice A3 S.inn.length c3]] w fun e w' => e = .returned (.bool (quietB S)) ∧ Below w.heap.size w w' := by
  have HB := Lib.hid (below_alloc w (.cells #[.int .i64 P, .int .i64 S.step, .slice A1 S.vals.length c1, .slice A2 S.rest.length c2, .slice A3 S.inn.length c3] 31))
  have HS := Lib.hid (hS.next HB.out)
  have C1 := Lib.hid (show Calls Try.prog 45 #[.agg #[.int .i64 0, .slice none 0 0, .slice A2 S.rest.length c2, .slice A3 S.inn.length c3]] (w.alloc (.cells #[.int .i64 P, .int .i64 S.step, .slice A1 S.vals.length c1, .slice A2 S.rest.length c2, .slice A3 S.inn.length c3] 31)) fun e w' => e = .returned (.bool (quietB S)) ∧ Below (w.alloc (.cells #[.int .i64 P, .int .i64 S.step, .slice A1 S.vals.length c1, .slice A2 S.rest.length c2, .slice A3 S.inn.length c3] 31)).heap.size (w.alloc (.cells #[.int .i64 P, .int .i64 S.step, .slice A1 S.vals.length c1, .slice A2 S.rest.length c2, .slice A3 S.inn.length c3] 31)) w' from
    rquiet_any ⟨0, [], S.rest, S.inn⟩ none 0 A2 c2 A3 c3 _ ⟨Lies.nil, HS.out.r, HS.out.m, Nat.le_refl _, HS.out.cr, HS.out.cm, ⟨bd0, fun x hx => (by cases hx), HS.out.ok.m, Nat.zero_le _, HS.out.ok.lr, HS.out.ok.lm⟩⟩)
  clear hS
  go_enter Try.func19, Try.ntmps19
  go_wp2_with fail
  refine C1.out.mono ?_
  rintro e w1 ⟨rfl, hb1⟩
  have HB1 := Lib.hid (HB.out.trans (hb1.mono HB.out.size))
  clear hb1
  go_wp2_with fail
  go_ret
  exact ⟨rfl, HB1.out⟩
end Go.Proofs.Ytcaccjfnibjbpaa
