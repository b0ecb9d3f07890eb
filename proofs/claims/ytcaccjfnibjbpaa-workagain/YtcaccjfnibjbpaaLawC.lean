/-
  The walk of WorkAgain: what a partition took hangs on no order of what came. No condition.
-/
import Derived.Test.YtcaccjfnibjbpaaWf
import Derived.Test.YtcaccjfnibjbpaaDoorL
import Derived.Test.YtcaccjfnibjbpaaLawB
import Derived.BigQuiet
import Derived.BigRegion
import Derived.Deep.RegionHeld3
namespace Go.Proofs.Ytcaccjfnibjbpaa
open Go.ChangeShapes Go.WideShapes Go.ChangeAt Go.RowKit
set_option linter.unusedVariables false

theorem takeR_perm {N : Int} {es : List Ed} {p s l q : Int} {x : Pt} {L L' : List Ms} (h : L.Perm L') : takeR N es p s l q x L = takeR N es p s l q x L' := by
  have e1 : inHome N q x.P L = inHome N q x.P L' := by
    unfold inHome
    rw [Bool.eq_iff_iff, List.all_eq_true, List.all_eq_true]
    exact ⟨fun g m hm => g m (h.mem_iff.2 hm), fun g m hm => g m (h.mem_iff.1 hm)⟩
  have e2 := msort_of h
  unfold takeR fdC fdR
  rw [e1, e2]
theorem cat_rev (ls : List Le) : (lcatl ls.reverse).Perm (lcatl ls) := by
  unfold lcatl
  exact (List.reverse_perm ls).flatMap_right _
theorem takeR_good {N : Int} {es : List Ed} {p s l q P : Int} {S : St} {L : List Ms} (hok : Ok S) (hb : ∀ e ∈ L, bd e.2) (h : (takeR N es p s l q (mkP P S) L).2 = 0) : jchk N es p s l q = 0 ∧ rightP N es p s l q (takeR N es p s l q (mkP P S) L).1 = true := by
  by_cases hj : jchk N es p s l q = 0
  · refine ⟨hj, ?_⟩
    have hp : 1 ≤ p ∧ p ≤ 5 := (badJ_not (jchk_zero hj).2).1
    by_cases h1 : rightP N es p s l q (mkP P S) = true
    · by_cases h2 : S.inn.length = 0
      · cases h3 : inHome N q P L with
        | true =>
          rw [takeR_yes hj h1 h2 h3] at h ⊢
          by_cases h4 : fdC p L = 0
          · rw [if_pos h4]
            obtain ⟨_, hP, hs, hv, hr, _⟩ := rightP_of h1
            obtain ⟨y, hy⟩ := (fdC_zero hp _).1 h4
            obtain ⟨y1, y2, y3⟩ := fold_some hb hy
            have hto : ∀ e ∈ y, e.1 < N ∧ toHome q.toNat P.toNat e = true := fun e he => by
              obtain ⟨m, hm1, hm2⟩ := fold_mem hb hy e he
              unfold inHome at h3
              have := List.all_eq_true.1 h3 m hm1
              simp only [Bool.and_eq_true, decide_eq_true_eq] at this
              exact ⟨by rw [← hm2]; exact this.1, by rw [← toHome_key hm2]; exact this.2⟩
            unfold rightP mkP takeS
            simp only [Bool.and_eq_true, decide_eq_true_eq]
            rw [fdR_some hp hy]
            refine ⟨hj, hP, hs, hv, hr, ris_risB N y (-1) y1 fun m hm => ⟨?_, (hto m hm).1⟩, List.all_eq_true.2 fun m hm => (hto m hm).2⟩
            have := (hto m hm).2
            unfold toHome at this
            simp at this; omega
          · rw [if_neg h4] at h; exact absurd h h4
        | false => rw [takeR_no (x := mkP P S) hj (.inr (.inr h3))] at h; exact absurd h (by decide)
      · rw [takeR_no (x := mkP P S) (L := L) hj (.inr (.inl h2))] at h; exact absurd h (by decide)
    · rw [takeR_no (x := mkP P S) (L := L) hj (.inl (by simpa using h1))] at h; exact absurd h (by decide)
  · rw [takeR_j hj] at h; exact absurd h hj
def AgRel (ls : List Le) (w4 : World) (b i : Value) (W : World) : Prop := ∃ (k : Nat) (B : Option Addr) (cB : Nat), i = .int .i64 ((ls.length : Int) - 1 - k) ∧ k ≤ ls.length ∧ b = .slice B k cB ∧ Hid (W.ownsRow w4.heap.size 29 1 (.slice B k cB) k (lcl (ls.reverse.take k))) ∧ Hid (Below w4.heap.size w4 W)
set_option maxRecDepth 20000 in
set_option maxHeartbeats 4000000 in
theorem again_walk (N : Int) (A : Option Addr) (n c : Nat) (es : List Ed) (p s l q : Int) (P : Int) (S : St) (A1 : Option Addr) (c1 : Nat) (A2 : Option Addr) (c2 : Nat) (A3 : Option Addr) (c3 : Nat) (D : Option Addr) (d : Nat) (ls : List Le) (w : World) (hA : Lies w w.heap.size 3 A n (ec es)) (hnc : n ≤ c) (hn : n ≤ maxLen) (hS : StI w S A1 c1 A2 c2 A3 c3) (hL : LmI w D d ls) :
    Calls Try.prog 7 #[.agg #[.int .i64 N, .slice A n c], .agg #[.int .i64 p, .int .i64 s, .int .i64 l, .int .i64 q], .agg #[.int .i64 P, .int .i64 S.step, .slice A1 S.vals.length c1, .slice A2 S.rest.length c2, .slice A3 S.inn.length c3], .slice D ls.length d] w fun e w' => e = .returned (.bool true) ∧ Below w.heap.size w w' := by
  have mixed : Try.prog.follows .mixedOrders = true := by kernel_rfl
  obtain ⟨w3, hw3⟩ : ∃ w3, w3 = ((w.alloc (.cells #[.int .i64 N, .slice A n c] 24)).alloc (.cells #[.int .i64 p, .int .i64 s, .int .i64 l, .int .i64 q] 26)).alloc (.cells #[.int .i64 P, .int .i64 S.step, .slice A1 S.vals.length c1, .slice A2 S.rest.length c2, .slice A3 S.inn.length c3] 31) := ⟨_, rfl⟩
  have HBS := Lib.hid (show Bp w N A n c p s l q P S A1 c1 A2 c2 A3 c3 w3 by rw [hw3]; exact Bp.init w N A n c p s l q P S A1 c1 A2 c2 A3 c3)
  have HA := Lib.hid (hA.next HBS.out.x.bl)
  have HSI := Lib.hid hS
  have HD := Lib.hid (hL.l.next HBS.out.x.bl)
  have HLB := Lib.hid hL.b
  have hln := hL.n
  clear hL
  clear hA hS
  go_enter Try.func7, Try.ntmps7
  go_wp2_with fail
  rw [← hw3]
  clear hw3
  by_cases hg : 200 < n
  · refine (great_any N A n c _ true (by simpa using hg)).mono ?_
    rintro e w1 ⟨rfl, hb1⟩
    have HB1 := Lib.hid (HBS.out.next hb1).x.bl
    clear hb1
    go_wp2_with fail
    refine (knows_any _).mono ?_
    rintro e wk ⟨rfl, hbk⟩
    have BK := Lib.hid (HB1.out.trans (hbk.mono HB1.out.size))
    clear hbk
    go_wp2_with fail
    go_ret
    exact ⟨rfl, BK.out⟩
  · refine (great_any N A n c _ false (by simpa using hg)).mono ?_
    rintro e w1 ⟨rfl, hb1⟩
    have HB0 := Lib.hid hb1
    have hx1 := HBS.out.next hb1
    have p0 := hx1.p0
    have s0 := hx1.s0
    have s1 := hx1.s1
    have s2 := hx1.s2
    have s3 := hx1.s3
    clear hb1 hx1
    go_wp2_with fail
    refine (broad_any P S A1 c1 A2 c2 A3 c3 _).mono ?_
    rintro e w2 ⟨rfl, hb2⟩
    have HB2 := Lib.hid (HB0.out.trans (hb2.mono HB0.out.size))
    have HBW := Lib.hid (HBS.out.next HB2.out).x.bl
    clear hb2 s0 s1 s2 s3 p0
    cases hw : wideB S with
    | true =>
      clear hw
      go_wp2_with fail
      refine (knows_any _).mono ?_
      rintro e wk ⟨rfl, hbk⟩
      have BK := Lib.hid (HBW.out.trans (hbk.mono HBW.out.size))
      clear hbk
      go_wp2_with fail
      go_ret
      exact ⟨rfl, BK.out⟩
    | false =>
      have HSL := Lib.hid ((HSI.out.ok hw).next HBS.out.x.bl)
      have HWN := Lib.hid (wide_no hw)
      clear hw
      have HX2 := Lib.hid (HBS.out.next HB2.out)
      have HA2 := Lib.hid (HA.out.next HB2.out)
      have HS2 := Lib.hid (HSL.out.next HB2.out)
      obtain ⟨⟨z1, g0, g1, j0, j1, j2, j3, bl1⟩, z2, p0, s0, s1, s2, s3⟩ := id HX2.out
      clear z1 bl1 z2
      go_wp2_with fail
      refine (many_any D d ls _ (HD.out.next HB2.out) hln).mono ?_
      rintro e w4 ⟨rfl, hb4⟩
      have HB4 := Lib.hid (HB2.out.trans (hb4.mono HB2.out.size))
      have HX4 := Lib.hid (HX2.out.next hb4)
      have HBX := Lib.hid (HX2.out.next hb4).x.bl
      clear hb4 g0 g1 j0 j1 j2 j3 p0 s0 s1 s2 s3 HX2 HA2 HS2 HBW
      cases hm : manyB ls with
      | true =>
        clear hm
        go_wp2_with fail
        refine (knows_any _).mono ?_
        rintro e wk ⟨rfl, hbk⟩
        have BK := Lib.hid (HBX.out.trans (hbk.mono HBX.out.size))
        clear hbk
        go_wp2_with fail
        go_ret
        exact ⟨rfl, BK.out⟩
      | false =>
        obtain ⟨hl20, hl100⟩ := many_no hm
        have HCL := Lib.hid (cat_len hl20 hl100)
        have HA4 := Lib.hid (HA.out.next HB4.out)
        have HS4 := Lib.hid (HSL.out.next HB4.out)
        have HD4 := Lib.hid (HD.out.next HB4.out)
        clear hm hl100 HBX
        have HBD := Lib.hid (show ∀ e ∈ lcatl ls, bd e.2 from fun e he => by
          unfold lcatl at he
          obtain ⟨x, hx, hm⟩ := List.mem_flatMap.1 he
          exact HLB.out x hx e hm)
        obtain ⟨i0, hi0, hz0, hzs, hzb⟩ := info_parts (show (Try.prog.info? 29).map (fun i => (i.zero, i.size, i.bytes)) = some (some (.slice none 0 0), 1, 24) by kernel_rfl)
        have HI0 := Lib.hid hi0
        have HZ0 := Lib.hid hz0
        have HZS := Lib.hid hzs
        have HZB := Lib.hid hzb
        clear hi0 hz0 hzs hzb hln
        go_wp2_with fail
        go_loopw [9, 10] (fun b i W => AgRel ls w4 b i W) (fun b i W => (intOf i + 1).toNat)
        case atStart => exact ⟨0, none, 0, by go_num, Nat.zero_le _, rfl, Lib.hid (World.ownsRow_nil _ _ _ _), Lib.hid (Below.refl _ _)⟩
        case round =>
          obtain ⟨k, B, cB, rfl, hk, rfl, HO, HB⟩ := hrel
          by_cases hlt : k < ls.length
          · obtain ⟨i, hi⟩ : ∃ i, i + k + 1 = ls.length := ⟨ls.length - k - 1, by omega⟩
            have hil : i < ls.length := by omega
            have hidx : (ls.length : Int) - 1 - k = (i : Int) := by omega
            rw [hidx]
            have hiL : (i : Int) < (ls.length : Int) := by omega
            obtain ⟨ad, hD', hadb, e0⟩ := (HD4.out.next HB.out).L.2 i _ (lcl_at ls i hil)
            subst hD'
            have HT := Lib.hid (show lcl (ls.reverse.take k) ++ lcl [ls[i]] = lcl (ls.reverse.take (k + 1)) by
              unfold lcl
              rw [← List.map_append]
              congr 1
              rw [List.take_succ_eq_append_getElem (by simpa using hlt)]
              congr 2
              rw [List.getElem_reverse]
              congr 1; omega)
            have HL8 := Lib.hid (lies_cells wr (lcl [ls[i]]) 29 1 1 rfl)
            have ho8 : (wr.alloc (.cells #[.slice ls[i].A ls[i].ms.length ls[i].c] 29)).ownsRow w4.heap.size 29 1 (.slice B k cB) k (lcl (ls.reverse.take k)) := own_next HO.out (below_alloc _ _)
            have HO8 := Lib.hid ho8
            have HB8 := Lib.hid (HB.out.trans ((below_alloc wr (.cells #[.slice ls[i].A ls[i].ms.length ls[i].c] 29)).mono HB.out.size))
            clear ho8 hidx hadb
            generalize hx1 : ls[i].A = XA at *
            generalize hx2 : ls[i].c = Xc at *
            generalize hx3 : ls[i].ms = Xm at *
            have HE1 := Lib.hid (show lcl [ls[i]] = [.slice XA Xm.length Xc] by unfold lcl; rw [List.map_cons, hx1, hx2, hx3]; rfl)
            rw [HE1.out] at HT HL8
            clear hx1 hx2 hx3
            have hi20 : i < 20 := by omega
            have hk20 : k < 20 := by omega
            have HIK := Lib.hid hi
            clear hi
            go_wp2_with (at_builtin; go_must (refine wpList_app2 _ rfl (.tmp 33) (.tmp 38) 35 rfl w4.heap.size 29 i0 _ 1 24 Try.underlying35 HI0.out HZ0.out HZS.out HZB.out rfl (by decide) B k cB (lcl (ls.reverse.take k)) rfl HO8.out (wr.heap.size + 1) (some ⟨wr.heap.size, 0, none⟩) 1 1 [.slice XA Xm.length Xc] rfl HL8.out (fun u hu => by rw [List.mem_singleton.1 hu]; rfl) (k + 1) (lcl (ls.reverse.take (k + 1))) rfl HT.out (by unfold maxLen; omega) (by omega) HB8.out.size ?_))
            intro A5 c5 w5 ho5 hb5 hg5
            have HO5 := Lib.hid ho5
            have HB5 := Lib.hid (HB8.out.trans hb5)
            clear ho5 hb5 hg5 e0
            go_wp2_with fail
            go_roundw
            case rel => exact ⟨k + 1, A5, c5, by have := HIK.out; go_num, by omega, rfl, HO5, HB5⟩
            case measure => simp [intOf] <;> omega
          · have hk' : k = ls.length := by omega
            subst hk'
            have hidx : (ls.length : Int) - 1 - (ls.length : Int) = -1 := by omega
            rw [hidx]
            have HRV := Lib.hid (show ls.reverse.take ls.length = ls.reverse from List.take_of_length_le (by simp))
            rw [HRV.out] at HO
            have HLR := Lib.hid (show Lls wr wr.heap.size B cB ls.reverse from ⟨by rw [List.length_reverse]; exact Lies.of_own HO.out, by rw [List.length_reverse]; exact own_cap HO.out, fun e he => (HD4.out.next HB.out).el e (List.mem_reverse.1 he)⟩)
            have HX5 := Lib.hid (HX4.out.next HB.out)
            have HA5 := Lib.hid (HA4.out.next HB.out)
            have HS5 := Lib.hid (HS4.out.next HB.out)
            have HD5 := Lib.hid (HD4.out.next HB.out)
            obtain ⟨⟨z1, g0, g1, j0, j1, j2, j3, bl1⟩, z2, p0, s0, s1, s2, s3⟩ := id HX5.out
            clear z1 bl1 z2 hidx HO HRV HX4 HA4 HS4 HD4
            go_wp2_with fail
            refine (take_any N A n c es p s l q P S A1 c1 A2 c2 A3 c3 D d ls _ HA5.out hnc hn HS5.out HD5.out (by omega) (by have := HCL.out; omega) HBD.out).mono ?_
            rintro e w6 ⟨hb6, Q, T, Y1, y1, Y2, y2, Y3, y3, rfl, hx, hT, -, -, -⟩
            have hb7 := hb6.trans ((below_alloc w6 (.cells #[.int .i64 Q, .int .i64 T.step, .slice Y1 T.vals.length y1, .slice Y2 T.rest.length y2, .slice Y3 T.inn.length y3] 31)).mono hb6.size)
            have HX7 := Lib.hid (HX5.out.next hb7)
            have HA7 := Lib.hid (HA5.out.next hb7)
            have HS7 := Lib.hid (HS5.out.next hb7)
            have HR7 := Lib.hid (HLR.out.next hb7)
            have HT7 := Lib.hid (hT.next (below_alloc w6 (.cells #[.int .i64 Q, .int .i64 T.step, .slice Y1 T.vals.length y1, .slice Y2 T.rest.length y2, .slice Y3 T.inn.length y3] 31)))
            have HN7 := Lib.hid (show At5 w6.heap.size #[.int .i64 Q, .int .i64 T.step, .slice Y1 T.vals.length y1, .slice Y2 T.rest.length y2, .slice Y3 T.inn.length y3] (w6.alloc (.cells #[.int .i64 Q, .int .i64 T.step, .slice Y1 T.vals.length y1, .slice Y2 T.rest.length y2, .slice Y3 T.inn.length y3] 31)) from heap_alloc_new _ _)
            have HXX := Lib.hid hx
            clear hb6 hb7 hT hx g0 g1 j0 j1 j2 j3 p0 s0 s1 s2 s3 HX5 HA5 HS5 HD5 HLR
            go_upto_region 9 with fail
            obtain ⟨ba, hba⟩ : ∃ b, b = w6.heap.size := ⟨_, rfl⟩
            rw [← hba] at HN7 ⊢
            generalize w6.alloc (.cells #[.int .i64 Q, .int .i64 T.step, .slice Y1 T.vals.length y1, .slice Y2 T.rest.length y2, .slice Y3 T.inn.length y3] 31) = w7 at *
            clear hba
            obtain ⟨⟨z1, g0, g1, j0, j1, j2, j3, bl1⟩, z2, p0, s0, s1, s2, s3⟩ := id HX7.out
            clear z1 bl1 z2
            have C2 := Lib.hid (take_any N A n c es p s l q P S A1 c1 A2 c2 A3 c3 B cB ls.reverse w7 HA7.out hnc hn HS7.out HR7.out (by rw [List.length_reverse]; omega) (by rw [(cat_rev ls).length_eq]; have := HCL.out; omega) (fun e he => HBD.out e ((cat_rev ls).mem_iff.1 he)))
            rw [takeR_perm (cat_rev ls), List.length_reverse] at C2
            go_wp2_with fail
            refine C2.out.mono ?_
            rintro e w8 ⟨hb8, Q', T', Z1, z1, Z2, z2, Z3, z3, rfl, hx, hT, -, -, -⟩
            obtain ⟨rfl, rfl⟩ := mkP_inj (hx.trans HXX.out.symm)
            have hb9 := hb8.trans ((below_alloc w8 (.cells #[.int .i64 Q', .int .i64 T'.step, .slice Z1 T'.vals.length z1, .slice Z2 T'.rest.length z2, .slice Z3 T'.inn.length z3] 31)).mono hb8.size)
            have HX9 := Lib.hid (HX7.out.next hb9)
            have HA9 := Lib.hid (HA7.out.next hb9)
            have HT9 := Lib.hid (HT7.out.next hb9)
            have HN9 := Lib.hid (HN7.out.next hb9)
            have HZ9 := Lib.hid (hT.next (below_alloc w8 (.cells #[.int .i64 Q', .int .i64 T'.step, .slice Z1 T'.vals.length z1, .slice Z2 T'.rest.length z2, .slice Z3 T'.inn.length z3] 31)))
            have HM9 := Lib.hid (show At5 w8.heap.size #[.int .i64 Q', .int .i64 T'.step, .slice Z1 T'.vals.length z1, .slice Z2 T'.rest.length z2, .slice Z3 T'.inn.length z3] (w8.alloc (.cells #[.int .i64 Q', .int .i64 T'.step, .slice Z1 T'.vals.length z1, .slice Z2 T'.rest.length z2, .slice Z3 T'.inn.length z3] 31)) from heap_alloc_new _ _)
            clear hb8 hb9 hT hx g0 g1 j0 j1 j2 j3 p0 s0 s1 s2 s3 C2 HX7 HA7 HS7 HR7 HT7 HN7
            go_upto_region 10 with fail
            obtain ⟨bz, hbz⟩ : ∃ b, b = w8.heap.size := ⟨_, rfl⟩
            rw [← hbz] at HM9 ⊢
            generalize w8.alloc (.cells #[.int .i64 Q', .int .i64 T'.step, .slice Z1 T'.vals.length z1, .slice Z2 T'.rest.length z2, .slice Z3 T'.inn.length z3] 31) = w9 at *
            clear hbz
            have HBX := Lib.hid HX9.out.x.bl
            have HGO := Lib.hid (fun h => takeR_good (N := N) (es := es) (p := p) (s := s) (l := l) (q := q) (P := P) (S := S) (L := lcatl ls) HSL.out.ok HBD.out h)
            rw [← HXX.out] at HGO
            generalize (takeR N es p s l q (mkP P S) (lcatl ls)).2 = te at *
            have a0 := cell_of_row w9 ba 0 _ 31 (0, 0) HN9.out
            have b0 := cell_of_row w9 bz 0 _ 31 (0, 0) HM9.out
            have a1 := cell_of_row w9 ba 1 _ 31 (0, 0) HN9.out
            have b1 := cell_of_row w9 bz 1 _ 31 (0, 0) HM9.out
            have a2 := cell_of_row w9 ba 2 _ 31 (0, 0) HN9.out
            have b2 := cell_of_row w9 bz 2 _ 31 (0, 0) HM9.out
            have a3 := cell_of_row w9 ba 3 _ 31 (0, 0) HN9.out
            have b3 := cell_of_row w9 bz 3 _ 31 (0, 0) HM9.out
            have a4 := cell_of_row w9 ba 4 _ 31 (0, 0) HN9.out
            have b4 := cell_of_row w9 bz 4 _ 31 (0, 0) HM9.out
            go_wp2_with fail
            refine (psame_yes Q' T' Y1 y1 Y2 y2 Y3 y3 Z1 z1 Z2 z2 Z3 z3 _ HT9.out HZ9.out).mono ?_
            rintro e v1 ⟨rfl, hb1⟩
            have HB1 := Lib.hid (HBX.out.trans (hb1.mono HBX.out.size))
            have HX1 := Lib.hid (HX9.out.next hb1)
            have HA1 := Lib.hid (HA9.out.next hb1)
            have HT1 := Lib.hid (HT9.out.next hb1)
            have HN1 := Lib.hid (HN9.out.next hb1)
            clear hb1 a0 a1 a2 a3 a4 b0 b1 b2 b3 b4
            by_cases he : te = 0
            · subst he
              obtain ⟨hj, hr⟩ := HGO.out rfl
              obtain ⟨⟨z1', g0, g1, j0, j1, j2, j3, bl1⟩, z2', p0, s0, s1, s2, s3⟩ := id HX1.out
              have C3 := Lib.hid (rpright_any N A n c es p s l q Q' T' Y1 y1 Y2 y2 Y3 y3 v1 HA1.out hnc hn HT1.out)
              rw [hr] at C3
              have HJ := Lib.hid hj
              clear z1' bl1 z2' hr hj
              have a0 := cell_of_row v1 ba 0 _ 31 (0, 0) HN1.out
              have a1 := cell_of_row v1 ba 1 _ 31 (0, 0) HN1.out
              have a2 := cell_of_row v1 ba 2 _ 31 (0, 0) HN1.out
              have a3 := cell_of_row v1 ba 3 _ 31 (0, 0) HN1.out
              have a4 := cell_of_row v1 ba 4 _ 31 (0, 0) HN1.out
              go_wp2_with fail
              refine C3.out.mono ?_
              rintro e v2 ⟨rfl, hb2⟩
              have hx2 := HX1.out.next hb2
              have HA2 := Lib.hid (HA1.out.next hb2)
              have HB2' := Lib.hid (HB1.out.trans (hb2.mono HB1.out.size))
              clear a0 a1 a2 a3 a4 hb2 C3 g0 g1 j0 j1 j2 j3 p0 s0 s1 s2 s3
              have g0 := hx2.x.g0
              have g1 := hx2.x.g1
              have j0 := hx2.x.j0
              have j1 := hx2.x.j1
              have j2 := hx2.x.j2
              have j3 := hx2.x.j3
              have C4 := Lib.hid (rjcheck_any N A n c es p s l q v2 HA2.out hnc hn)
              rw [HJ.out] at C4
              clear hx2
              go_wp2_with fail
              refine C4.out.mono ?_
              rintro e v3 ⟨rfl, hb3⟩
              have HB3 := Lib.hid (HB2'.out.trans (hb3.mono HB2'.out.size))
              clear hb3 g0 g1 j0 j1 j2 j3
              go_wp2_with fail
              refine (knows_any _).mono ?_
              rintro e wk ⟨rfl, hbk⟩
              have BK := Lib.hid (HB3.out.trans (hbk.mono HB3.out.size))
              clear hbk
              go_wp2_with fail
              go_ret
              exact ⟨rfl, BK.out⟩
            · have he1 : (te != 0) = true := by simpa using he
              clear he
              go_wp2_with fail
              refine (knows_any _).mono ?_
              rintro e wk ⟨rfl, hbk⟩
              have BK := Lib.hid (HB1.out.trans (hbk.mono HB1.out.size))
              clear hbk
              go_wp2_with fail
              go_ret
              exact ⟨rfl, BK.out⟩
end Go.Proofs.Ytcaccjfnibjbpaa
