import Derived.Test.YtpgdddjjjfkneaaGreatDoorWd
/-
  The contract of work.Take. No condition but that the numbers are of 62 bits and not too many.
-/
namespace Go.Proofs.YtpgdddjjjfkneaaGreatDoor
open Go.ChangeShapes Go.WideShapes Go.ChangeAt Go.RowKit Go.Sort
set_option linter.unusedVariables false

theorem fd_sorted (p : Int) (L : List Ms) : fdC p (msort L) = fdC p L ∧ fdR p (msort L) = fdR p L := by
  have h : msort (msort L) = msort L := msort_of (msort_perm L)
  unfold fdC fdR
  rw [h]
  exact ⟨rfl, rfl⟩
theorem own_home {N q P : Int} (h1 : 1 ≤ q) (h6 : q ≤ 6) (h0 : 0 ≤ P) (L : List Ms) : (msort L).all (ownB N q P) = inHome N q P L := by
  have e : (msort L).all (ownB N q P) = L.all (ownB N q P) := by
    rw [Bool.eq_iff_iff, List.all_eq_true, List.all_eq_true]
    exact ⟨fun h m hm => h m ((msort_perm L).mem_iff.2 hm), fun h m hm => h m ((msort_perm L).mem_iff.1 hm)⟩
  rw [e]
  unfold inHome
  congr 1
  funext m
  unfold ownB
  rw [toHome_iff h1 h6 h0]
def takeS (p : Int) (S : St) (L : List Ms) : St := ⟨S.step, S.vals, S.rest, fdR p L⟩
theorem takeS_ok {p : Int} {S : St} {L : List Ms} (h : Ok S) (hb : ∀ e ∈ L, bd e.2) (hl : L.length ≤ 100000) : Ok (takeS p S L) :=
  ⟨h.st, h.v, fdR_bd hb, h.lv, h.lr, by have := fdR_len p L; show (fdR p L).length ≤ _; omega⟩
theorem takeR_j {N : Int} {es : List Ed} {p s l q : Int} {x : Pt} {L : List Ms} (h : ¬ jchk N es p s l q = 0) : takeR N es p s l q x L = (noPt, jchk N es p s l q) := by unfold takeR; rw [if_neg h]
theorem takeR_no {N : Int} {es : List Ed} {p s l q : Int} {x : Pt} {L : List Ms} (hj : jchk N es p s l q = 0) (h : rightP N es p s l q x = false ∨ ¬ x.inn.length = 0 ∨ inHome N q x.P L = false) : takeR N es p s l q x L = (noPt, 1) := by
  unfold takeR
  rw [if_pos hj, if_neg]
  rcases h with h | h | h
  · rw [h]; simp
  · rw [decide_eq_false h]; simp
  · rw [h]; simp
theorem takeR_yes {N : Int} {es : List Ed} {p s l q P : Int} {S : St} {L : List Ms} (hj : jchk N es p s l q = 0) (h1 : rightP N es p s l q (mkP P S) = true) (h2 : S.inn.length = 0) (h3 : inHome N q P L = true) : takeR N es p s l q (mkP P S) L = if fdC p L = 0 then (mkP P (takeS p S L), 0) else (noPt, fdC p L) := by
  unfold takeR
  rw [if_pos hj, if_pos]
  · rfl
  · rw [h1, show (mkP P S).inn.length = 0 from h2, show inHome N q (mkP P S).P L = true from h3]; rfl
set_option maxRecDepth 20000 in
set_option maxHeartbeats 4000000 in
theorem take_any (N : Int) (A : Option Addr) (n c : Nat) (es : List Ed) (p s l q P : Int) (S : St) (A1 : Option Addr) (c1 : Nat) (A2 : Option Addr) (c2 : Nat) (A3 : Option Addr) (c3 : Nat) (D : Option Addr) (d : Nat) (ls : List Le) (w : World) (hA : Lies w w.heap.size 3 A n (ec es)) (hnc : n ≤ c) (hn : n ≤ maxLen) (hS : StL w w.heap.size S A1 c1 A2 c2 A3 c3) (hD : Lls w w.heap.size D d ls) (hl : ls.length ≤ 1000) (hL : (lcatl ls).length ≤ 100000) (hbd : ∀ e ∈ lcatl ls, bd e.2) :
    Calls Tryz.prog 22 #[.agg #[.int .i64 N, .slice A n c], .agg #[.int .i64 p, .int .i64 s, .int .i64 l, .int .i64 q], .agg #[.int .i64 P, .int .i64 S.step, .slice A1 S.vals.length c1, .slice A2 S.rest.length c2, .slice A3 S.inn.length c3], .slice D ls.length d] w (TkPost (takeR N es p s l q (mkP P S) (lcatl ls)) w) := by
  have mixed : Tryz.prog.follows .mixedOrders = true := by kernel_rfl
  obtain ⟨w4, hw4⟩ : ∃ w4, w4 = (((w.alloc (.cells #[.int .i64 N, .slice A n c] 27)).alloc (.cells #[.int .i64 p, .int .i64 s, .int .i64 l, .int .i64 q] 23)).alloc (.cells #[.int .i64 P, .int .i64 S.step, .slice A1 S.vals.length c1, .slice A2 S.rest.length c2, .slice A3 S.inn.length c3] 64)).alloc (.cells #[.int .i64 0, .int .i64 0, .slice none 0 0, .slice none 0 0, .slice none 0 0] 64) := ⟨_, rfl⟩
  have hbs : Bp w N A n c p s l q P S A1 c1 A2 c2 A3 c3 w4 := by rw [hw4]; exact (Bp.init w N A n c p s l q P S A1 c1 A2 c2 A3 c3).next (below_alloc _ _)
  have H4 := Lib.hid (fun (W : World) (hb : Below w4.heap.size w4 W) => fourth8 w _ _ _ _ W (by rw [hw4] at hb; exact hb))
  have HA := Lib.hid (hA.next hbs.x.bl)
  have HS := Lib.hid (hS.next hbs.x.bl)
  have HD := Lib.hid (hD.next hbs.x.bl)
  have HBD := Lib.hid hbd
  have HBS := Lib.hid hbs
  clear hbs hA hS hD hbd
  go_enter Tryz.func22, Tryz.ntmps22
  go_upto_region 1 with fail
  rw [← hw4]
  clear hw4
  obtain ⟨⟨z1, g0, g1, j0, j1, j2, j3, bl1⟩, z2, p0, s0, s1, s2, s3⟩ := id HBS.out
  clear z1 bl1 z2 p0 s0 s1 s2 s3
  go_wp2_with fail
  refine (jcheck_any N A n c es p s l q _ HA.out hnc hn).mono ?_
  rintro e w1 ⟨rfl, hb1⟩
  have HB1 := Lib.hid hb1
  have HX1 := Lib.hid (HBS.out.next hb1)
  clear g0 g1 j0 j1 j2 j3 hb1
  by_cases hj : jchk N es p s l q = 0
  · have HJ := Lib.hid hj
    rw [hj]
    clear hj
    go_wp2_with fail
    refine (bjoin_any D d ls _ (HD.out.next HB1.out) (by omega) (by omega)).mono ?_
    rintro e w2 ⟨B, cB, rfl, hoB, hb2⟩
    have HB2 := Lib.hid (HB1.out.trans (hb2.mono HB1.out.size))
    have HX2 := Lib.hid (HX1.out.next hb2)
    have HLB := Lib.hid (Lies.of_own hoB)
    obtain ⟨⟨z1, g0, g1, j0, j1, j2, j3, bl1⟩, z2, p0, s0, s1, s2, s3⟩ := id HX2.out
    clear z1 bl1 z2 hb2 hoB HX1 HB1
    have HML := Lib.hid (show (msort (lcatl ls)).length = (lcatl ls).length from msort_len _)
    have C1 := Lib.hid (pright_any N A n c es p s l q P S A1 c1 A2 c2 A3 c3 w2 (HA.out.next HB2.out) hnc hn (HS.out.next HB2.out))
    cases hr : rightP N es p s l q (mkP P S) with
    | false =>
      have HR := Lib.hid (takeR_no (L := lcatl ls) HJ.out (.inl hr))
      rw [hr] at C1
      clear hr
      go_wp2_with fail
      refine C1.out.mono ?_
      rintro e w3 ⟨rfl, hb3⟩
      have HB3 := Lib.hid (HB2.out.trans (hb3.mono HB2.out.size))
      have HX3 := Lib.hid (HX2.out.next hb3)
      clear g0 g1 j0 j1 j2 j3 p0 s0 s1 s2 s3 hb3 C1
      have z2 := H4.out w3 HB3.out
      have r0 := cell_of_row w3 _ 0 _ 64 (0, 0) z2
      have f0 := unfrozen z2 0
      have r1 := cell_of_row w3 _ 1 _ 64 (0, 0) z2
      have f1 := unfrozen z2 1
      have r2 := cell_of_row w3 _ 2 _ 64 (0, 0) z2
      have f2 := unfrozen z2 2
      have r3 := cell_of_row w3 _ 3 _ 64 (0, 0) z2
      have f3 := unfrozen z2 3
      have r4 := cell_of_row w3 _ 4 _ 64 (0, 0) z2
      have f4 := unfrozen z2 4
      clear z2
      go_wp2_with fail
      refine bodyPost_ret (v := .tuple #[.agg #[.int .i64 0, .int .i64 0, .slice none 0 0, .slice none 0 0, .slice none 0 0], .int .i64 1]) (by simp [results, Tryz.results22, go_sem, r0, r1, r2, r3, r4]) rfl ?_
      exact tk_no HR.out (((((HX3.out.x.bl.setCell (by simp <;> omega) _).setCell (by simp <;> omega) _).setCell (by simp <;> omega) _).setCell (by simp <;> omega) _).setCell (by simp <;> omega) _)
    | true =>
      have HRR := Lib.hid hr
      rw [hr] at C1
      clear hr
      go_wp2_with fail
      refine C1.out.mono ?_
      rintro e w3 ⟨rfl, hb3⟩
      have HB3 := Lib.hid (HB2.out.trans (hb3.mono HB2.out.size))
      have HX3 := Lib.hid (HX2.out.next hb3)
      have HL3 := Lib.hid (HLB.out.next hb3)
      clear g0 g1 j0 j1 j2 j3 p0 s0 s1 s2 s3 hb3 C1 HX2 HB2 HLB
      obtain ⟨⟨z1, g0, g1, j0, j1, j2, j3, bl1⟩, z2, p0, s0, s1, s2, s3⟩ := id HX3.out
      clear z1 bl1 z2
      by_cases hi : S.inn.length = 0
      · have HI := Lib.hid hi
        have hi0 : decide (0 < S.inn.length) = false := decide_eq_false (by omega)
        clear hi
        have C2 := Lib.hid (owns_any N A n c p s l q P B cB (msort (lcatl ls)) w3 HL3.out (by have := HML.out; omega))
        rw [own_home (by have := rightP_small HRR.out; omega) (by have := rightP_small HRR.out; omega) (by have := rightP_of HRR.out; omega)] at C2
        cases ho : inHome N q P (lcatl ls) with
        | false =>
          have HR := Lib.hid (takeR_no (x := mkP P S) HJ.out (.inr (.inr ho)))
          rw [ho] at C2
          clear ho
          go_wp2_with fail
          refine C2.out.mono ?_
          rintro e w5 ⟨rfl, hb5⟩
          have HB5 := Lib.hid (HB3.out.trans (hb5.mono HB3.out.size))
          have HX5 := Lib.hid (HX3.out.next hb5)
          clear g0 g1 j0 j1 j2 j3 p0 s0 s1 s2 s3 hb5 C2
          have z2 := H4.out w5 HB5.out
          have r0 := cell_of_row w5 _ 0 _ 64 (0, 0) z2
          have f0 := unfrozen z2 0
          have r1 := cell_of_row w5 _ 1 _ 64 (0, 0) z2
          have f1 := unfrozen z2 1
          have r2 := cell_of_row w5 _ 2 _ 64 (0, 0) z2
          have f2 := unfrozen z2 2
          have r3 := cell_of_row w5 _ 3 _ 64 (0, 0) z2
          have f3 := unfrozen z2 3
          have r4 := cell_of_row w5 _ 4 _ 64 (0, 0) z2
          have f4 := unfrozen z2 4
          clear z2
          go_wp2_with fail
          refine bodyPost_ret (v := .tuple #[.agg #[.int .i64 0, .int .i64 0, .slice none 0 0, .slice none 0 0, .slice none 0 0], .int .i64 1]) (by simp [results, Tryz.results22, go_sem, r0, r1, r2, r3, r4]) rfl ?_
          exact tk_no HR.out (((((HX5.out.x.bl.setCell (by simp <;> omega) _).setCell (by simp <;> omega) _).setCell (by simp <;> omega) _).setCell (by simp <;> omega) _).setCell (by simp <;> omega) _)
        | true =>
          have HR := Lib.hid (takeR_yes HJ.out HRR.out HI.out ho)
          rw [ho] at C2
          clear ho
          go_wp2_with fail
          refine C2.out.mono ?_
          rintro e w4' ⟨rfl, hb4⟩
          have HB4 := Lib.hid (HB3.out.trans (hb4.mono HB3.out.size))
          have HX4 := Lib.hid (HX3.out.next hb4)
          have HL4 := Lib.hid (HL3.out.next hb4)
          clear g0 g1 j0 j1 j2 j3 p0 s0 s1 s2 s3 hb4 C2 HX3 HB3 HL3 hi0
          have j0 := HX4.out.x.j0
          have C3 := Lib.hid (fdf_any p B (msort (lcatl ls)).length cB (msort (lcatl ls)) w4' HL4.out (by have := HML.out; omega) (fun e he => HBD.out e ((msort_perm _).mem_iff.1 he)))
          rw [(fd_sorted p (lcatl ls)).1, (fd_sorted p (lcatl ls)).2] at C3
          go_wp2_with fail
          refine C3.out.mono ?_
          rintro e w5 ⟨AF, cF, rfl, hoF, hb5⟩
          have HB5 := Lib.hid (HB4.out.trans (hb5.mono HB4.out.size))
          have HX5 := Lib.hid (HX4.out.next hb5)
          have HOF := Lib.hid hoF
          have HS45 := Lib.hid HB4.out.size
          clear j0 hb5 hoF C3 HX4 HB4 HL4
          by_cases hf : fdC p (lcatl ls) = 0
          · rw [if_pos hf] at HR
            rw [hf]
            clear hf
            have HCV := Lib.hid (fun (W : World) (hb : Below w5.heap.size w5 W) => clone_v A1 c1 S.vals W ((HS.out.v.next HB5.out).next hb) HS.out.ok.lv)
            have HCR := Lib.hid (fun (W : World) (hb : Below w5.heap.size w5 W) => clone_r A2 c2 S.rest W ((HS.out.r.next HB5.out).next hb) HS.out.ok.lr)
            have HF := Lib.hid (show ∀ W : World, Below w5.heap.size w5 W → W.cell? ⟨w.heap.size + 1 + 1, 0, none⟩ = some (.int .i64 P) ∧ W.cell? ⟨w.heap.size + 1 + 1, 1, none⟩ = some (.int .i64 S.step) ∧ W.cell? ⟨w.heap.size + 1 + 1, 2, none⟩ = some (.slice A1 S.vals.length c1) ∧ W.cell? ⟨w.heap.size + 1 + 1, 3, none⟩ = some (.slice A2 S.rest.length c2) by
              intro W hb
              have h := HX5.out.next hb
              exact ⟨h.p0, h.s0, h.s1, h.s2⟩)
            have HZ := Lib.hid (fun (W : World) (hb : Below w5.heap.size w5 W) => H4.out W (HB5.out.trans (hb.mono HB5.out.size)))
            have HQ4 := Lib.hid (show ∀ (W : World) (u0 u1 u2 u3 u4 : Value), (W.cell? ⟨w.heap.size + 1 + 1, 0, none⟩ = some (.int .i64 P) ∧ W.cell? ⟨w.heap.size + 1 + 1, 1, none⟩ = some (.int .i64 S.step) ∧ W.cell? ⟨w.heap.size + 1 + 1, 2, none⟩ = some (.slice A1 S.vals.length c1) ∧ W.cell? ⟨w.heap.size + 1 + 1, 3, none⟩ = some (.slice A2 S.rest.length c2)) → ((((((W.setCell ⟨w.heap.size + 1 + 1 + 1, 0, none⟩ u0).setCell ⟨w.heap.size + 1 + 1 + 1, 1, none⟩ u1).setCell ⟨w.heap.size + 1 + 1 + 1, 2, none⟩ u2).setCell ⟨w.heap.size + 1 + 1 + 1, 3, none⟩ u3).setCell ⟨w.heap.size + 1 + 1 + 1, 4, none⟩ u4).cell? ⟨w.heap.size + 1 + 1, 0, none⟩ = some (.int .i64 P) ∧ (((((W.setCell ⟨w.heap.size + 1 + 1 + 1, 0, none⟩ u0).setCell ⟨w.heap.size + 1 + 1 + 1, 1, none⟩ u1).setCell ⟨w.heap.size + 1 + 1 + 1, 2, none⟩ u2).setCell ⟨w.heap.size + 1 + 1 + 1, 3, none⟩ u3).setCell ⟨w.heap.size + 1 + 1 + 1, 4, none⟩ u4).cell? ⟨w.heap.size + 1 + 1, 1, none⟩ = some (.int .i64 S.step) ∧ (((((W.setCell ⟨w.heap.size + 1 + 1 + 1, 0, none⟩ u0).setCell ⟨w.heap.size + 1 + 1 + 1, 1, none⟩ u1).setCell ⟨w.heap.size + 1 + 1 + 1, 2, none⟩ u2).setCell ⟨w.heap.size + 1 + 1 + 1, 3, none⟩ u3).setCell ⟨w.heap.size + 1 + 1 + 1, 4, none⟩ u4).cell? ⟨w.heap.size + 1 + 1, 2, none⟩ = some (.slice A1 S.vals.length c1) ∧ (((((W.setCell ⟨w.heap.size + 1 + 1 + 1, 0, none⟩ u0).setCell ⟨w.heap.size + 1 + 1 + 1, 1, none⟩ u1).setCell ⟨w.heap.size + 1 + 1 + 1, 2, none⟩ u2).setCell ⟨w.heap.size + 1 + 1 + 1, 3, none⟩ u3).setCell ⟨w.heap.size + 1 + 1 + 1, 4, none⟩ u4).cell? ⟨w.heap.size + 1 + 1, 3, none⟩ = some (.slice A2 S.rest.length c2)) by
              intro W u0 u1 u2 u3 u4 h
              have k : ∀ o, (((((W.setCell ⟨w.heap.size + 1 + 1 + 1, 0, none⟩ u0).setCell ⟨w.heap.size + 1 + 1 + 1, 1, none⟩ u1).setCell ⟨w.heap.size + 1 + 1 + 1, 2, none⟩ u2).setCell ⟨w.heap.size + 1 + 1 + 1, 3, none⟩ u3).setCell ⟨w.heap.size + 1 + 1 + 1, 4, none⟩ u4).cell? ⟨w.heap.size + 1 + 1, o, none⟩ = W.cell? ⟨w.heap.size + 1 + 1, o, none⟩ := fun o => by
                refine World.cell?_of_block (w := W) ?_
                rw [Below.heap_setCell _ _ _ _ (fun e => by have e : w.heap.size + 1 + 1 = w.heap.size + 1 + 1 + 1 := e; omega), Below.heap_setCell _ _ _ _ (fun e => by have e : w.heap.size + 1 + 1 = w.heap.size + 1 + 1 + 1 := e; omega), Below.heap_setCell _ _ _ _ (fun e => by have e : w.heap.size + 1 + 1 = w.heap.size + 1 + 1 + 1 := e; omega), Below.heap_setCell _ _ _ _ (fun e => by have e : w.heap.size + 1 + 1 = w.heap.size + 1 + 1 + 1 := e; omega), Below.heap_setCell _ _ _ _ (fun e => by have e : w.heap.size + 1 + 1 = w.heap.size + 1 + 1 + 1 := e; omega)]
              exact ⟨(k 0).trans h.1, (k 1).trans h.2.1, (k 2).trans h.2.2.1, (k 3).trans h.2.2.2⟩)
            have q0 := HF.out w5.drew (Below.refl _ _).drew
            have B0 := Lib.hid (show Below w5.heap.size w5 w5.drew from (Below.refl _ _).drew)
            generalize hFR : fdR p (lcatl ls) = FR at *
            have HFRR := Lib.hid hFR
            clear hFR
            go_wp2_with fail
            go_region_held3 (fun w' => w'.cell? ⟨w.heap.size + 1 + 1, 0, none⟩ = some (.int .i64 P) ∧ w'.cell? ⟨w.heap.size + 1 + 1, 1, none⟩ = some (.int .i64 S.step) ∧ w'.cell? ⟨w.heap.size + 1 + 1, 2, none⟩ = some (.slice A1 S.vals.length c1) ∧ w'.cell? ⟨w.heap.size + 1 + 1, 3, none⟩ = some (.slice A2 S.rest.length c2))
              (first | with_reducible exact q2 | with_reducible exact q1 | with_reducible exact q0 | with_reducible exact HQ4.out _ _ _ _ _ _ q2)
              (first | ((go_at_call 46); (with_reducible refine (HCV.out _ B0.out).mono ?_); rintro e w6 ⟨A5, c5, rfl, ho5, hb5⟩; have B1 := Lib.hid (B0.out.trans (hb5.mono B0.out.size)); have q1 := HF.out w6 B1.out; have HO5 := Lib.hid ho5; clear ho5 hb5 q0) | ((go_at_call 47); (with_reducible refine (HCR.out _ B1.out).mono ?_); rintro e w7 ⟨A6, c6, rfl, ho6, hb6⟩; have B2 := Lib.hid (B1.out.trans (hb6.mono B1.out.size)); have q2 := HF.out w7 B2.out; have HO6 := Lib.hid ho6; have HB6 := Lib.hid hb6; have z6 := HZ.out w7 B2.out; have r0 := cell_of_row w7 _ 0 _ 64 (0, 0) z6; have f0 := unfrozen z6 0; have r1 := cell_of_row w7 _ 1 _ 64 (0, 0) z6; have f1 := unfrozen z6 1; have r2 := cell_of_row w7 _ 2 _ 64 (0, 0) z6; have f2 := unfrozen z6 2; have r3 := cell_of_row w7 _ 3 _ 64 (0, 0) z6; have f3 := unfrozen z6 3; have r4 := cell_of_row w7 _ 4 _ 64 (0, 0) z6; have f4 := unfrozen z6 4; clear z6 ho6 hb6 q1))
            all_goals
              have hlt4 : w.heap.size + 1 + 1 + 1 < w4.heap.size := lt_of_block (H4.out w4 (Below.refl _ _))
              go_wp2_with fail
              refine bodyPost_ret (v := .tuple #[.agg #[.int .i64 P, .int .i64 S.step, .slice A5 S.vals.length c5, .slice A6 S.rest.length c6, .slice AF FR.length cF], .int .i64 0]) (by simp [results, Tryz.results22, go_sem, r0, r1, r2, r3, r4]) rfl ?_
              rw [HR.out]
              have hv7 := own_next HO5.out HB6.out
              have hf7 := own_next HOF.out B2.out
              have e1 := (Fr.own hv7).low HB5.out.size
              have e2 := (Fr.own HO6.out).low (Nat.le_trans HB5.out.size B1.out.size)
              have e3 := (Fr.own hf7).low HS45.out
              refine ⟨((((((HX5.out.next B2.out).x.bl.setCell (by simp <;> omega) _).setCell (by simp <;> omega) _).setCell (by simp <;> omega) _).setCell (by simp <;> omega) _).setCell (by simp <;> omega) _), P, takeS p S (lcatl ls), A5, c5, A6, c6, AF, cF, by unfold takeS; dsimp only; rw [HFRR.out], rfl, ?_, e1.low HBS.out.x.bl.size, e2.low HBS.out.x.bl.size, e3.low HBS.out.x.bl.size⟩
              refine StL.five (S := takeS p S (lcatl ls)) (b' := w4.heap.size) ⟨Lies.of_own hv7, Lies.of_own HO6.out, ?_, own_cap hv7, own_cap HO6.out, ?_, takeS_ok HS.out.ok HBD.out hL⟩ e1 e2 e3 hlt4 _ _ _ _ _
              · unfold takeS; dsimp only; rw [HFRR.out]; exact Lies.of_own hf7
              · unfold takeS; dsimp only; rw [HFRR.out]; exact own_cap hf7
          · rw [if_neg hf] at HR
            have he1 : (fdC p (lcatl ls) != 0) = true := by simpa using hf
            clear hf
            generalize fdC p (lcatl ls) = te at *
            have z2 := H4.out w5 HB5.out
            have r0 := cell_of_row w5 _ 0 _ 64 (0, 0) z2
            have f0 := unfrozen z2 0
            have r1 := cell_of_row w5 _ 1 _ 64 (0, 0) z2
            have f1 := unfrozen z2 1
            have r2 := cell_of_row w5 _ 2 _ 64 (0, 0) z2
            have f2 := unfrozen z2 2
            have r3 := cell_of_row w5 _ 3 _ 64 (0, 0) z2
            have f3 := unfrozen z2 3
            have r4 := cell_of_row w5 _ 4 _ 64 (0, 0) z2
            have f4 := unfrozen z2 4
            clear z2
            go_wp2_with fail
            refine bodyPost_ret (v := .tuple #[.agg #[.int .i64 0, .int .i64 0, .slice none 0 0, .slice none 0 0, .slice none 0 0], .int .i64 te]) (by simp [results, Tryz.results22, go_sem, r0, r1, r2, r3, r4]) rfl ?_
            exact tk_no HR.out (((((HX5.out.x.bl.setCell (by simp <;> omega) _).setCell (by simp <;> omega) _).setCell (by simp <;> omega) _).setCell (by simp <;> omega) _).setCell (by simp <;> omega) _)
      · have HR := Lib.hid (takeR_no (L := lcatl ls) HJ.out (.inr (.inl (show ¬ (mkP P S).inn.length = 0 from hi))))
        have hi0 : decide (0 < S.inn.length) = true := decide_eq_true (by omega)
        clear hi g0 g1 j0 j1 j2 j3 p0 s0 s1 s2
        have z2 := H4.out w3 HB3.out
        have r0 := cell_of_row w3 _ 0 _ 64 (0, 0) z2
        have f0 := unfrozen z2 0
        have r1 := cell_of_row w3 _ 1 _ 64 (0, 0) z2
        have f1 := unfrozen z2 1
        have r2 := cell_of_row w3 _ 2 _ 64 (0, 0) z2
        have f2 := unfrozen z2 2
        have r3 := cell_of_row w3 _ 3 _ 64 (0, 0) z2
        have f3 := unfrozen z2 3
        have r4 := cell_of_row w3 _ 4 _ 64 (0, 0) z2
        have f4 := unfrozen z2 4
        clear z2
        go_wp2_with fail
        refine bodyPost_ret (v := .tuple #[.agg #[.int .i64 0, .int .i64 0, .slice none 0 0, .slice none 0 0, .slice none 0 0], .int .i64 1]) (by simp [results, Tryz.results22, go_sem, r0, r1, r2, r3, r4]) rfl ?_
        exact tk_no HR.out (((((HX3.out.x.bl.setCell (by simp <;> omega) _).setCell (by simp <;> omega) _).setCell (by simp <;> omega) _).setCell (by simp <;> omega) _).setCell (by simp <;> omega) _)
  · have HR := Lib.hid (takeR_j (x := mkP P S) (L := lcatl ls) hj)
    have he1 : (jchk N es p s l q != 0) = true := by simpa using hj
    clear hj
    generalize jchk N es p s l q = te at *
    have z2 := H4.out w1 HB1.out
    have r0 := cell_of_row w1 _ 0 _ 64 (0, 0) z2
    have f0 := unfrozen z2 0
    have r1 := cell_of_row w1 _ 1 _ 64 (0, 0) z2
    have f1 := unfrozen z2 1
    have r2 := cell_of_row w1 _ 2 _ 64 (0, 0) z2
    have f2 := unfrozen z2 2
    have r3 := cell_of_row w1 _ 3 _ 64 (0, 0) z2
    have f3 := unfrozen z2 3
    have r4 := cell_of_row w1 _ 4 _ 64 (0, 0) z2
    have f4 := unfrozen z2 4
    clear z2
    go_wp2_with fail
    refine bodyPost_ret (v := .tuple #[.agg #[.int .i64 0, .int .i64 0, .slice none 0 0, .slice none 0 0, .slice none 0 0], .int .i64 te]) (by simp [results, Tryz.results22, go_sem, r0, r1, r2, r3, r4]) rfl ?_
    exact tk_no HR.out (((((HX1.out.x.bl.setCell (by simp <;> omega) _).setCell (by simp <;> omega) _).setCell (by simp <;> omega) _).setCell (by simp <;> omega) _).setCell (by simp <;> omega) _)
end Go.Proofs.YtpgdddjjjfkneaaGreatDoor


