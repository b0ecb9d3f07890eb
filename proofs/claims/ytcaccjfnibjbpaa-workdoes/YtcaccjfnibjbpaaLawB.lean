/-
  The walk of WorkHomes: what Do tells under a number goes to vertices of that home, rising. No condition.
-/
import Derived.Test.YtcaccjfnibjbpaaWf
import Derived.Test.YtcaccjfnibjbpaaDoor
import Derived.BigQuiet
import Derived.BigRegion
import Derived.Deep.RegionHeld3
namespace Go.Proofs.Ytcaccjfnibjbpaa
open Go.ChangeShapes Go.WideShapes Go.ChangeAt Go.RowKit
set_option linter.unusedVariables false

theorem doR_bad {N : Int} {es : List Ed} {p s l q : Int} {x : Pt} (h : ¬ (doR N es p s l q x).2.2 = 0) : doR N es p s l q x = (noPt, [], (doR N es p s l q x).2.2) := by
  unfold doR at h ⊢
  by_cases h1 : jchk N es p s l q = 0
  · rw [if_pos h1] at h ⊢
    by_cases h2 : rightP N es p s l q x = true
    · rw [if_pos h2] at h ⊢
      by_cases h3 : x.step = 40
      · rw [if_pos h3]
      · rw [if_neg h3] at h ⊢
        by_cases h4 : errL (tP N es p s l q x) x.vals.length = 0
        · rw [if_pos h4] at h ⊢
          by_cases h5 : doC N es p s l q x = 0
          · rw [if_pos h5] at h; exact absurd rfl h
          · rw [if_neg h5]
        · rw [if_neg h4]
    · rw [if_neg h2]
  · rw [if_neg h1]
theorem doR_good {N : Int} {es : List Ed} {p s l q P : Int} {S : St} (h : (doR N es p s l q (mkP P S)).2.2 = 0) : rightP N es p s l q (mkP P S) = true ∧ ¬ S.step = 40 ∧ doC N es p s l q (mkP P S) = 0 ∧ doR N es p s l q (mkP P S) = (mkP P (nextS N es p s l q P S), (List.range q.toNat).map (foR p q.toNat (doS N es p s l q (mkP P S))), 0) := by
  unfold doR at h ⊢
  by_cases h1 : jchk N es p s l q = 0
  · rw [if_pos h1] at h ⊢
    by_cases h2 : rightP N es p s l q (mkP P S) = true
    · rw [if_pos h2] at h ⊢
      by_cases h3 : (mkP P S).step = 40
      · rw [if_pos h3] at h; exact absurd h (by decide)
      · rw [if_neg h3] at h ⊢
        by_cases h4 : errL (tP N es p s l q (mkP P S)) (mkP P S).vals.length = 0
        · rw [if_pos h4] at h ⊢
          by_cases h5 : doC N es p s l q (mkP P S) = 0
          · rw [if_pos h5]; exact ⟨h2, h3, h5, rfl⟩
          · rw [if_neg h5] at h; exact absurd h h5
        · rw [if_neg h4] at h; exact absurd h h4
    · rw [if_neg h2] at h; exact absurd h (by decide)
  · rw [if_neg h1] at h; exact absurd h h1
theorem next_right {N : Int} {es : List Ed} {p s l q P : Int} {S : St} (h : rightP N es p s l q (mkP P S) = true) (h40 : ¬ S.step = 40) : rightP N es p s l q (mkP P (nextS N es p s l q P S)) = true := by
  obtain ⟨hj, hP, hs, hv, hr, _⟩ := rightP_of h
  unfold rightP mkP nextS
  simp only [Bool.and_eq_true, decide_eq_true_eq, valsL_len, restL_len]
  exact ⟨hj, hP, ⟨by omega, by omega⟩, hv, hv, rfl, rfl⟩
/-- What was folded of home k: rising, to its own vertices. -/
theorem outs_of {N : Int} {es : List Ed} {p s l q P : Int} {S : St} (hr : rightP N es p s l q (mkP P S) = true) (hok : Ok S) (hc : doC N es p s l q (mkP P S) = 0) {k : Nat} (hk : k < q.toNat) :
    (∀ m ∈ foR p q.toNat (doS N es p s l q (mkP P S)) k, (0 ≤ m.1 ∧ m.1 < N) ∧ m.1.toNat % q.toNat = k) ∧ Ris (foR p q.toNat (doS N es p s l q (mkP P S)) k) ∧ (foR p q.toNat (doS N es p s l q (mkP P S)) k).length ≤ 2000 := by
  have hj := (rightP_of hr).1
  have hp : 1 ≤ p ∧ p ≤ 5 := (badJ_not (jchk_zero hj).2).1
  have h0 : fdC p (toK q.toNat k (doS N es p s l q (mkP P S))) = 0 := firstE_zero hc k hk
  obtain ⟨y, hy⟩ := (fdC_zero hp _).1 h0
  have hb : ∀ e ∈ toK q.toNat k (doS N es p s l q (mkP P S)), bd e.2 := fun e he => sentP_bd hok _ e (toK_mem.1 he).1
  have hlen : (foR p q.toNat (doS N es p s l q (mkP P S)) k).length ≤ 2000 := by
    have h1 := fdR_len p (toK q.toNat k (doS N es p s l q (mkP P S)))
    have h2 : (toK q.toNat k (doS N es p s l q (mkP P S))).length ≤ (doS N es p s l q (mkP P S)).length := List.length_filter_le _ _
    have h3 := sentL_len (tP N es p s l q (mkP P S)) (tP_len _) S.vals.length
    have h4 := rightP_small hr
    have h5 : (doS N es p s l q (mkP P S)).length ≤ 80 * S.vals.length := h3
    show (fdR p _).length ≤ 2000
    omega
  refine ⟨fun m hm => ?_, ?_, hlen⟩
  · have hm : m ∈ fdR p (toK q.toNat k (doS N es p s l q (mkP P S))) := hm
    rw [fdR_some hp hy] at hm
    obtain ⟨m', hm1, hm2⟩ := fold_mem hb hy m hm
    obtain ⟨h1, h2⟩ := toK_mem.1 hm1
    have h3 := sentP_to (N := N) (es := es) (p := p) (s := s) (l := l) (q := q) (mkP P S) _ m' h1
    unfold toHome at h2
    simp at h2
    rw [← hm2]
    exact ⟨h3, h2.2⟩
  · show Ris (fdR p _)
    rw [fdR_some hp hy]
    exact (fold_some hb hy).1
def HoRel (n : Nat) (w6 : World) (i : Value) (W : World) : Prop := ∃ k : Nat, i = .int .i64 k ∧ k ≤ n ∧ W = w6
set_option maxRecDepth 20000 in
set_option maxHeartbeats 4000000 in
theorem homes_walk (N : Int) (A : Option Addr) (n c : Nat) (es : List Ed) (p s l q : Int) (P : Int) (S : St) (A1 : Option Addr) (c1 : Nat) (A2 : Option Addr) (c2 : Nat) (A3 : Option Addr) (c3 : Nat) (w : World) (hA : Lies w w.heap.size 3 A n (ec es)) (hnc : n ≤ c) (hn : n ≤ maxLen) (hS : StI w S A1 c1 A2 c2 A3 c3) :
    Calls Try.prog 6 #[.agg #[.int .i64 N, .slice A n c], .agg #[.int .i64 p, .int .i64 s, .int .i64 l, .int .i64 q], .agg #[.int .i64 P, .int .i64 S.step, .slice A1 S.vals.length c1, .slice A2 S.rest.length c2, .slice A3 S.inn.length c3]] w fun e w' => e = .returned (.bool true) ∧ Below w.heap.size w w' := by
  have mixed : Try.prog.follows .mixedOrders = true := by kernel_rfl
  obtain ⟨w3, hw3⟩ : ∃ w3, w3 = ((w.alloc (.cells #[.int .i64 N, .slice A n c] 24)).alloc (.cells #[.int .i64 p, .int .i64 s, .int .i64 l, .int .i64 q] 26)).alloc (.cells #[.int .i64 P, .int .i64 S.step, .slice A1 S.vals.length c1, .slice A2 S.rest.length c2, .slice A3 S.inn.length c3] 31) := ⟨_, rfl⟩
  have HBS := Lib.hid (show Bp w N A n c p s l q P S A1 c1 A2 c2 A3 c3 w3 by rw [hw3]; exact Bp.init w N A n c p s l q P S A1 c1 A2 c2 A3 c3)
  have HA := Lib.hid (hA.next HBS.out.x.bl)
  have HSI := Lib.hid hS
  clear hA hS
  go_enter Try.func6, Try.ntmps6
  go_wp2_with fail
  rw [← hw3]
  clear hw3
  by_cases hg : 200 < n
  · refine (great_any N A n c _ true (by simpa using hg)).mono ?_
    rintro e w1 ⟨rfl, hb1⟩
    have HB1 := Lib.hid (HBS.out.next hb1).x.bl
    clear hb1
    go_wp2_with fail
    refine (knows_any _).mono ?_
    rintro e wk ⟨rfl, hbk⟩
    have BK := Lib.hid (HB1.out.trans (hbk.mono HB1.out.size))
    clear hbk
    go_wp2_with fail
    go_ret
    exact ⟨rfl, BK.out⟩
  · refine (great_any N A n c _ false (by simpa using hg)).mono ?_
    rintro e w1 ⟨rfl, hb1⟩
    have HB0 := Lib.hid hb1
    have hx1 := HBS.out.next hb1
    have p0 := hx1.p0
    have s0 := hx1.s0
    have s1 := hx1.s1
    have s2 := hx1.s2
    have s3 := hx1.s3
    clear hb1 hx1
    go_wp2_with fail
    refine (broad_any P S A1 c1 A2 c2 A3 c3 _).mono ?_
    rintro e w2 ⟨rfl, hb2⟩
    have HB2 := Lib.hid (HB0.out.trans (hb2.mono HB0.out.size))
    have HBW := Lib.hid (HBS.out.next HB2.out).x.bl
    clear hb2 s0 s1 s2 s3 p0
    cases hw : wideB S with
    | true =>
      clear hw
      go_wp2_with fail
      refine (knows_any _).mono ?_
      rintro e wk ⟨rfl, hbk⟩
      have BK := Lib.hid (HBW.out.trans (hbk.mono HBW.out.size))
      clear hbk
      go_wp2_with fail
      go_ret
      exact ⟨rfl, BK.out⟩
    | false =>
      have HSL := Lib.hid ((HSI.out.ok hw).next HBS.out.x.bl)
      have HWN := Lib.hid (wide_no hw)
      clear hw
      have HX2 := Lib.hid (HBS.out.next HB2.out)
      have HA2 := Lib.hid (HA.out.next HB2.out)
      have HS2 := Lib.hid (HSL.out.next HB2.out)
      obtain ⟨⟨z1, g0, g1, j0, j1, j2, j3, bl1⟩, z2, p0, s0, s1, s2, s3⟩ := id HX2.out
      clear z1 bl1 z2
      go_wp2_with fail
      refine (do_any N A n c es p s l q P S A1 c1 A2 c2 A3 c3 _ HA2.out hnc hn HS2.out).mono ?_
      rintro e w5 ⟨hb5, Q, T, B1, d1, B2, d2, B3, d3, D, os, rfl, hx, hm, hT, hD, -, -, -, -, -⟩
      have hb6 := hb5.trans ((below_alloc w5 (.cells #[.int .i64 Q, .int .i64 T.step, .slice B1 T.vals.length d1, .slice B2 T.rest.length d2, .slice B3 T.inn.length d3] 31)).mono hb5.size)
      have HX6 := Lib.hid (HX2.out.next hb6)
      have HA6 := Lib.hid (HA2.out.next hb6)
      have HT6 := Lib.hid (hT.next (below_alloc w5 (.cells #[.int .i64 Q, .int .i64 T.step, .slice B1 T.vals.length d1, .slice B2 T.rest.length d2, .slice B3 T.inn.length d3] 31)))
      have HD6 := Lib.hid (hD.next (below_alloc w5 (.cells #[.int .i64 Q, .int .i64 T.step, .slice B1 T.vals.length d1, .slice B2 T.rest.length d2, .slice B3 T.inn.length d3] 31)))
      have HN6 := Lib.hid (show At5 w5.heap.size #[.int .i64 Q, .int .i64 T.step, .slice B1 T.vals.length d1, .slice B2 T.rest.length d2, .slice B3 T.inn.length d3] (w5.alloc (.cells #[.int .i64 Q, .int .i64 T.step, .slice B1 T.vals.length d1, .slice B2 T.rest.length d2, .slice B3 T.inn.length d3] 31)) from heap_alloc_new _ _)
      have HXX := Lib.hid hx
      have HMM := Lib.hid hm
      clear hb5 hb6 hT hD hx hm g0 g1 j0 j1 j2 j3 p0 s0 s1 s2 s3 HX2 HA2 HS2 HBW
      go_upto_region 4 with fail
      obtain ⟨bn, hbn⟩ : ∃ b, b = w5.heap.size := ⟨_, rfl⟩
      rw [← hbn] at HN6 ⊢
      generalize w5.alloc (.cells #[.int .i64 Q, .int .i64 T.step, .slice B1 T.vals.length d1, .slice B2 T.rest.length d2, .slice B3 T.inn.length d3] 31) = w6 at *
      clear hbn
      have y0 := cell_of_row w6 bn 0 _ 31 (0, 0) HN6.out
      have y1 := cell_of_row w6 bn 1 _ 31 (0, 0) HN6.out
      have y2 := cell_of_row w6 bn 2 _ 31 (0, 0) HN6.out
      have y3 := cell_of_row w6 bn 3 _ 31 (0, 0) HN6.out
      have y4 := cell_of_row w6 bn 4 _ 31 (0, 0) HN6.out
      by_cases he : (doR N es p s l q (mkP P S)).2.2 = 0
      · obtain ⟨hr, h40, hc, hR⟩ := doR_good he
        rw [hR] at HXX HMM
        rw [he]
        obtain ⟨rfl, rfl⟩ := mkP_inj HXX.out
        have HRR := Lib.hid hr
        have HNR := Lib.hid (next_right hr h40)
        have HOU := Lib.hid (fun (k : Nat) (hk : k < q.toNat) => outs_of (N := N) (es := es) (p := p) (s := s) (l := l) (q := q) (P := Q) (S := S) hr HSL.out.ok hc hk)
        have HOL := Lib.hid (show os.length = q.toNat by have := congrArg List.length HMM.out; simpa using this)
        have HOM := Lib.hid (show ∀ k (h : k < os.length), os[k].ms = foR p q.toNat (doS N es p s l q (mkP Q S)) k from fun k h => by
          have h2 := congrArg (fun l => l[k]?) HMM.out
          have hk : k < q.toNat := by rw [← HOL.out]; exact h
          simpa [List.getElem?_map, List.getElem?_eq_getElem h, List.getElem?_range hk] using h2)
        have hst : (nextS N es p s l q Q S).step = S.step + 1 := rfl
        have hil : (nextS N es p s l q Q S).inn.length = 0 := rfl
        have HQS := Lib.hid (rightP_small hr)
        have HRO := Lib.hid (rightP_of hr)
        have hlq : (os.length : Int) = q := by have := HOL.out; have := HQS.out; omega
        have C1 := Lib.hid (rpright_any N A n c es p s l q Q (nextS N es p s l q Q S) B1 d1 B2 d2 B3 d3 w6 HA6.out hnc hn HT6.out)
        rw [HNR.out] at C1
        have hwr : IntKind.i64.wrap (S.step + 1) = S.step + 1 := by have := HRO.out; rw [IntKind.wrap_i64]; omega
        rw [hst, hil] at C1 y1 y4
        obtain ⟨⟨z1, g0, g1, j0, j1, j2, j3, bl1⟩, z2, p0, s0, s1, s2, s3⟩ := id HX6.out
        have HXB := Lib.hid bl1
        clear z1 bl1 z2 he hr h40 hc hR hst hil
        generalize (nextS N es p s l q Q S).vals.length = nv at *
        generalize (nextS N es p s l q Q S).rest.length = nr at *
        generalize (nextS N es p s l q Q S).inn.length = ni at *
        have hlq2 : ((os.length : Int) != q) = false := by simpa using hlq
        clear hlq
        go_wp2_with fail
        refine C1.out.mono ?_
        rintro e w7 ⟨rfl, hb7⟩
        have HX7 := Lib.hid (HX6.out.next hb7)
        have HD7 := Lib.hid (HD6.out.next hb7)
        have HBX := Lib.hid (HX6.out.next hb7).x.bl
        have y0 := (hb7.cell (p := ⟨bn, 0, none⟩) (lt_of_block HN6.out)).trans y0
        have y1 := (hb7.cell (p := ⟨bn, 1, none⟩) (lt_of_block HN6.out)).trans y1
        have y4 := (hb7.cell (p := ⟨bn, 4, none⟩) (lt_of_block HN6.out)).trans y4
        clear g0 g1 j0 j1 j2 j3 p0 s0 s1 s2 s3
        obtain ⟨⟨z1, g0, g1, j0, j1, j2, j3, bl1⟩, z2, p0, s0, s1, s2, s3⟩ := id HX7.out
        clear z1 bl1 z2 hb7 y2 y3 g1 j0 j1 j2 s1 s2 s3 C1 HX6 HD6 HN6
        have hq6 : 1 ≤ q ∧ q ≤ 6 := by have := HQS.out; omega
        have ho6 : os.length ≤ 6 := by have := HOL.out; omega
        go_wp2_with fail
        go_loopw [10] (fun i W => HoRel os.length w7 i W) (fun i W => os.length - (intOf i).toNat)
        case atStart => exact ⟨0, rfl, Nat.zero_le _, rfl⟩
        case round =>
          obtain ⟨k, rfl, hk, rfl⟩ := hrel
          by_cases hlt : k < os.length
          · have hkl : (k : Int) < (os.length : Int) := by omega
            obtain ⟨ad, hD', hadb, e0⟩ := HD7.out.L.2 k _ (lcl_at os k hlt)
            subst hD'
            have HLM := Lib.hid (HD7.out.el _ (List.getElem_mem hlt))
            have HME := Lib.hid (HOM.out k hlt)
            have HOK := Lib.hid (HOU.out k (by rw [← HOL.out]; exact hlt))
            rw [← HME.out] at HOK
            generalize os[k].A = X at *
            generalize os[k].c = xc at *
            generalize os[k].ms = ms at *
            have hm2 : ms.length ≤ 2000 := HOK.out.2.2
            clear hadb HME
            go_wp2_with fail
            go_loopw [11] (fun i W => HoRel ms.length wr i W) (fun i W => ms.length - (intOf i).toNat)
            case atStart => exact ⟨0, rfl, Nat.zero_le _, rfl⟩
            case round =>
              obtain ⟨j, rfl, hj, rfl⟩ := hrel
              by_cases hjt : j < ms.length
              · have hjl : (j : Int) < (ms.length : Int) := by omega
                obtain ⟨ad2, hX', hadb2, f0, f1⟩ := HLM.out.ms j hjt
                subst hX'
                have HMR := Lib.hid (HOK.out.1 (mAt ms j) (by rw [mAt_get ms j hjt]; exact List.getElem_mem hjt))
                by_cases hj0 : j = 0
                · subst hj0
                  have f0 : wr.cell? ad2 = some (.int .i64 (mAt ms 0).1) := by rw [← add_zero ad2]; exact f0
                  generalize mAt ms 0 = m at *
                  obtain ⟨m1, m2⟩ := m
                  obtain ⟨⟨hm0, hm1⟩, hmk⟩ := id HMR.out
                  have hm3 : ¬ m1 < 0 := by have : 0 ≤ m1 := hm0; omega
                  have hm4 : ¬ m1 ≥ N := by have : m1 < N := hm1; omega
                  have hq0 : q ≠ 0 := by omega
                  have hmod : m1 % q = (k : Int) := by
                    have h1 := (mod_iff hq6.1 (Int.natCast_nonneg k) m1.toNat).2 (by rw [Int.toNat_natCast]; exact hmk)
                    have h2 : 0 ≤ m1 := hm0
                    rw [show ((m1.toNat : Nat) : Int) = m1 by omega] at h1
                    exact h1
                  clear hm0 hm1 hmk f1
                  go_wp2_with fail
                  go_roundw
                  case rel => exact ⟨1, by go_num, by omega, rfl⟩
                  case measure => simp [intOf]; omega
                · obtain ⟨i, rfl⟩ : ∃ i, j = i + 1 := ⟨j - 1, by omega⟩
                  obtain ⟨ad3, hX', _, e1, _⟩ := HLM.out.ms i (by omega)
                  injection hX' with hX'
                  subst hX'
                  have hris : (mAt ms i).1 < (mAt ms (i + 1)).1 := by
                    rw [mAt_get ms i (by omega), mAt_get ms (i + 1) hjt]
                    exact List.pairwise_iff_getElem.1 HOK.out.2.1 i (i + 1) (by omega) hjt (by omega)
                  generalize mAt ms (i + 1) = m at *
                  generalize mAt ms i = m' at *
                  obtain ⟨m1, m2⟩ := m
                  obtain ⟨n1, n2⟩ := m'
                  obtain ⟨⟨hm0, hm1⟩, hmk⟩ := id HMR.out
                  have hm3 : ¬ m1 < 0 := by have : 0 ≤ m1 := hm0; omega
                  have hm4 : ¬ m1 ≥ N := by have : m1 < N := hm1; omega
                  have hq0 : q ≠ 0 := by omega
                  have hge : ¬ n1 ≥ m1 := by have : n1 < m1 := hris; omega
                  have hmod : m1 % q = (k : Int) := by
                    have h1 := (mod_iff hq6.1 (Int.natCast_nonneg k) m1.toNat).2 (by rw [Int.toNat_natCast]; exact hmk)
                    have h2 : 0 ≤ m1 := hm0
                    rw [show ((m1.toNat : Nat) : Int) = m1 by omega] at h1
                    exact h1
                  have hi2 : (i : Int) < (ms.length : Int) := by omega
                  clear hm0 hm1 hmk f1 hris hj0
                  go_wp2_with fail
                  go_roundw
                  case rel => exact ⟨i + 2, by go_num, by omega, rfl⟩
                  case measure => simp [intOf]; omega
              · have hj' : j = ms.length := by omega
                subst hj'
                go_wp2_with fail
                go_roundw
                case rel => exact ⟨k + 1, by go_num, by omega, rfl⟩
                case measure => simp [intOf]; omega
          · have hk' : k = os.length := by omega
            subst hk'
            go_wp2_with fail
            refine (knows_any _).mono ?_
            rintro e wk ⟨rfl, hbk⟩
            have BK := Lib.hid (HBX.out.trans (hbk.mono HBX.out.size))
            clear hbk
            go_wp2_with fail
            go_ret
            exact ⟨rfl, BK.out⟩
      · have hR := doR_bad he
        have he1 : ((doR N es p s l q (mkP P S)).2.2 != 0) = true := by simpa using he
        rw [hR] at HXX HMM
        obtain ⟨rfl, rfl⟩ := mkP_inj (show mkP Q T = mkP 0 noSt from HXX.out)
        obtain rfl : os = [] := by have := HMM.out; simpa using this
        have HBX := Lib.hid HX6.out.x.bl
        have C1 := Lib.hid (show Calls Try.prog 13 #[.agg #[.int .i64 0, .int .i64 0, .slice B1 0 d1, .slice B2 0 d2, .slice B3 0 d3], .agg #[.int .i64 0, .int .i64 0, .slice none 0 0, .slice none 0 0, .slice none 0 0]] w6 fun e w' => e = .returned (.bool true) ∧ Below w6.heap.size w6 w' from psame_yes 0 noSt B1 d1 B2 d2 B3 d3 none 0 none 0 none 0 w6 HT6.out (StL.no _ _))
        have y1 : w6.cell? ⟨bn, 1, none⟩ = some (.int .i64 0) := y1
        have y2 : w6.cell? ⟨bn, 2, none⟩ = some (.slice B1 0 d1) := y2
        have y3 : w6.cell? ⟨bn, 3, none⟩ = some (.slice B2 0 d2) := y3
        have y4 : w6.cell? ⟨bn, 4, none⟩ = some (.slice B3 0 d3) := y4
        clear he hR
        generalize (doR N es p s l q (mkP P S)).2.2 = te at *
        go_wp2_with fail
        refine C1.out.mono ?_
        rintro e w7 ⟨rfl, hb7⟩
        have HB7 := Lib.hid (HBX.out.trans (hb7.mono HBX.out.size))
        clear hb7 y0 y1 y2 y3 y4
        go_wp2_with fail
        refine (knows_any _).mono ?_
        rintro e wk ⟨rfl, hbk⟩
        have BK := Lib.hid (HB7.out.trans (hbk.mono HB7.out.size))
        clear hbk
        go_wp2_with fail
        go_ret
        exact ⟨rfl, BK.out⟩
end Go.Proofs.Ytcaccjfnibjbpaa
