import Derived.Test.YtabbpccfdpphjaaPlG
/-
  The contracts of the document's own Once. No condition but that the lists have at most a million numbers.
-/
namespace Go.Proofs.Ytabbpccfdpphjaa
open Go.ChangeShapes Go.WideShapes Go.ChangeAt Go.RowKit
set_option linter.unusedVariables false

/-- What a call answers that tells numbers, its own or not, and an error. -/
def LsPost (l : List Int) (E : Int) (w : World) (r : Ending) (w' : World) : Prop :=
  ∃ D d, r = .returned (.tuple #[.slice D l.length d, .int .i64 E]) ∧ Lies w' w'.heap.size 1 D l.length (vc l) ∧ Below w.heap.size w w'
theorem ldE_set {os ms cost slow : List Int} (h0 : ldE os ms cost slow = 0) {q w : Nat} (hw : w < ms.length) : ldE (os.set q (iAt ms w)) ms cost slow = 0 := by
  obtain ⟨⟨hro, hrm, hc, hs, hcb, hsb⟩, hin⟩ := ldE_zero h0
  refine ldE_of ⟨?_, hrm, by rw [List.length_set]; exact hc, hs, hcb, hsb⟩ ?_
  · unfold rightO at hro ⊢
    rw [Bool.and_eq_true] at hro ⊢
    refine ⟨by rw [List.length_set]; exact hro.1, List.all_eq_true.2 fun x hx => ?_⟩
    rcases List.mem_or_eq_of_mem_set hx with hx | rfl
    · exact List.all_eq_true.1 hro.2 x hx
    · exact decide_eq_true (rgt_mem hrm (iAt_mem ms w hw))
  · intro x hx
    rcases List.mem_or_eq_of_mem_set hx with hx | rfl
    · exact hin x hx
    · exact iAt_mem ms w hw
theorem amax_small (l : List Int) (k : Nat) : amax l k ≤ k - 1 := by rw [← fst_max]; exact fstN_lt _ l k
theorem amin_small (l : List Int) (k : Nat) : amin l k ≤ k - 1 := by rw [← fst_min]; exact fstN_lt _ l k
theorem amax_yes {l : List Int} {k : Nat} (h : iAt l (amax l k) < iAt l k) : amax l (k + 1) = k := by rw [amax, if_pos h]
theorem amax_no {l : List Int} {k : Nat} (h : ¬ iAt l (amax l k) < iAt l k) : amax l (k + 1) = amax l k := by rw [amax, if_neg h]
theorem amin_yes {l : List Int} {k : Nat} (h : iAt l k < iAt l (amin l k)) : amin l (k + 1) = k := by rw [amin, if_pos h]
theorem amin_no {l : List Int} {k : Nat} (h : ¬ iAt l k < iAt l (amin l k)) : amin l (k + 1) = amin l k := by rw [amin, if_neg h]
theorem bst_same (os ms cost slow : List Int) (h : Nat) : ∀ n : Nat, bst os ms cost slow h h n = (-1, iAt (ldL os ms cost slow) h) := by
  intro n
  induction n with
  | zero => rfl
  | succ n ih => rw [bst, if_neg (fun hc => hc.2.1 rfl), ih]
theorem try_at {os ms cost slow : List Int} {h w q : Nat} (hh : h < ms.length) (hw : w < ms.length) : tryI os ms cost slow h w q = max (iAt (ldL (os.set q (iAt ms w)) ms cost slow) h) (iAt (ldL (os.set q (iAt ms w)) ms cost slow) w) := by
  unfold tryI
  rw [ldL_at hh, ldL_at hw, List.length_set]
theorem bst_put {os ms cost slow : List Int} {h w q : Nat} {m : Int} (he : iAt os q = iAt ms h) (hne : ¬ h = w) (ht : tryI os ms cost slow h w q = m) (hm : m < (bst os ms cost slow h w q).2) : bst os ms cost slow h w (q + 1) = ((q : Int), m) := by
  rw [bst, if_pos ⟨he, hne, by rw [ht]; exact hm⟩, ht]
theorem bst_keep {os ms cost slow : List Int} {h w q : Nat} {m : Int} (ht : tryI os ms cost slow h w q = m) (hm : ¬ m < (bst os ms cost slow h w q).2) : bst os ms cost slow h w (q + 1) = bst os ms cost slow h w q := by
  rw [bst, if_neg (fun hc => hm (by rw [← ht]; exact hc.2.2))]
def O1Rel (L : List Int) (n : Nat) (w : World) (h l i : Value) (W : World) : Prop := ∃ k : Nat, i = .int .i64 k ∧ h = .int .i64 (amax L k : Nat) ∧ l = .int .i64 (amin L k : Nat) ∧ k ≤ n ∧ Hid (Below w.heap.size w W)
def O2Rel (os ms cost slow : List Int) (h l : Nat) (w : World) (p m i : Value) (W : World) : Prop := ∃ q : Nat, i = .int .i64 q ∧ p = .int .i64 (bst os ms cost slow h l q).1 ∧ m = .int .i64 (bst os ms cost slow h l q).2 ∧ q ≤ os.length ∧ Hid (Below w.heap.size w W)
set_option maxRecDepth 20000 in
set_option maxHeartbeats 6000000 in
theorem once_any (A1 : Option Addr) (c1 : Nat) (os : List Int) (A2 : Option Addr) (c2 : Nat) (ms : List Int) (A3 : Option Addr) (c3 : Nat) (cost : List Int) (A4 : Option Addr) (c4 : Nat) (slow : List Int) (w : World)
    (h1 : Lies w w.heap.size 1 A1 os.length (vc os)) (h2 : Lies w w.heap.size 1 A2 ms.length (vc ms)) (h3 : Lies w w.heap.size 1 A3 cost.length (vc cost)) (h4 : Lies w w.heap.size 1 A4 slow.length (vc slow)) (h0 : ldE os ms cost slow = 0) :
    Calls Try.prog 36 #[.slice A1 os.length c1, .slice A2 ms.length c2, .slice A3 cost.length c3, .slice A4 slow.length c4] w (LsPost (onceI os ms cost slow) 0 w) := by
  have H1 := Lib.hid h1
  have H2 := Lib.hid h2
  have H3 := Lib.hid h3
  have H4 := Lib.hid h4
  have HE0 := Lib.hid h0
  have HP := Lib.hid (ldE_zero h0).1
  have HO6 := Lib.hid (rightO_len HP.out.1)
  have HM5 := Lib.hid (rgt_len HP.out.2.1)
  have ho6 : os.length ≤ 6 := HO6.out.2
  have hm5 : ms.length ≤ 5 := HM5.out.2
  have hm1 : 1 ≤ ms.length := HM5.out.1
  have n3 : cost.length ≤ 1000000 := by have := HP.out.2.2.1; omega
  have n4 : slow.length ≤ 1000000 := by have := HP.out.2.2.2.1; omega
  have HLL := Lib.hid (ldL_len os ms cost slow)
  have hhl : heI os ms cost slow < ms.length := amax_lt _ _ hm1
  have hll : liI os ms cost slow < ms.length := amin_lt _ _ hm1
  clear h0 h1 h2 h3 h4
  go_enter Try.func36, Try.ntmps36
  go_wp2_with fail
  refine (rloads_any A1 c1 os A2 c2 ms A3 c3 cost A4 c4 slow _ H1.out H2.out H3.out H4.out (by omega) (by omega) n3 n4).mono ?_
  intro e w1 h
  obtain ⟨D, d, rfl, hl, hb⟩ := ol_yes HE0.out h
  have HB1 := Lib.hid hb
  have HL1 := Lib.hid hl
  clear h hb hl
  have HHE := Lib.hid (show heI os ms cost slow = amax (ldL os ms cost slow) ms.length from rfl)
  have HLI := Lib.hid (show liI os ms cost slow = amin (ldL os ms cost slow) ms.length from rfl)
  have HFIN := Lib.hid (show btI os ms cost slow = (bst os ms cost slow (heI os ms cost slow) (liI os ms cost slow) os.length).1 from rfl)
  go_wp2_with fail
  go_loopw [12, 13, 14] (fun h l i W => O1Rel (ldL os ms cost slow) ms.length w1 h l i W) (fun h l i W => ms.length - (intOf i).toNat)
  case atStart => exact ⟨0, rfl, rfl, rfl, Nat.zero_le _, Lib.hid (Below.refl _ _)⟩
  case round =>
    obtain ⟨k, rfl, rfl, rfl, hk, HW⟩ := hrel
    by_cases hlt : k < ms.length
    · have hkl : (k : Int) < (ms.length : Int) := by omega
      have hx1 := amax_small (ldL os ms cost slow) k
      have hx2 := amin_small (ldL os ms cost slow) k
      obtain ⟨ad, rfl, _, e0⟩ := (HL1.out.below HW.out).vs k (by rw [HLL.out]; exact hlt)
      obtain ⟨a', ea, _, e1⟩ := (HL1.out.below HW.out).vs (amax (ldL os ms cost slow) k) (by rw [HLL.out]; omega)
      injection ea with ea
      subst ea
      obtain ⟨a', ea, _, e2⟩ := (HL1.out.below HW.out).vs (amin (ldL os ms cost slow) k) (by rw [HLL.out]; omega)
      injection ea with ea
      subst ea
      have hb1 : ((amax (ldL os ms cost slow) k : Nat) : Int) < (ms.length : Int) := by omega
      have hb2 : ((amin (ldL os ms cost slow) k : Nat) : Int) < (ms.length : Int) := by omega
      have Y1 := Lib.hid (amax_yes (l := ldL os ms cost slow) (k := k))
      have N1 := Lib.hid (amax_no (l := ldL os ms cost slow) (k := k))
      have Y2 := Lib.hid (amin_yes (l := ldL os ms cost slow) (k := k))
      have N2 := Lib.hid (amin_no (l := ldL os ms cost slow) (k := k))
      clear HHE HLI HFIN hhl hll
      generalize iAt (ldL os ms cost slow) (amax (ldL os ms cost slow) k) = yh at *
      generalize iAt (ldL os ms cost slow) (amin (ldL os ms cost slow) k) = yl at *
      generalize iAt (ldL os ms cost slow) k = y at *
      generalize hM : amax (ldL os ms cost slow) k = M at *
      generalize hm : amin (ldL os ms cost slow) k = m at *
      by_cases g1 : yh < y
      · have T1 := Lib.hid (Y1.out g1)
        go_upto_region 8 with fail
        go_quiet (fail)
        by_cases g2 : y < yl
        · have T2 := Lib.hid (Y2.out g2)
          go_upto_region 10 with fail
          go_quiet (fail)
          go_wp2_with fail
          go_roundw
          case rel => exact ⟨k + 1, by go_num, by rw [T1.out], by rw [T2.out], by omega, Lib.hid (below_to_drewN HW.out _)⟩
          case measure => simp [intOf]; omega
        · have T2 := Lib.hid (N2.out g2)
          go_upto_region 10 with fail
          go_quiet (fail)
          go_wp2_with fail
          go_roundw
          case rel => exact ⟨k + 1, by go_num, by rw [T1.out], by rw [T2.out], by omega, Lib.hid (below_to_drewN HW.out _)⟩
          case measure => simp [intOf]; omega
      · have T1 := Lib.hid (N1.out g1)
        go_upto_region 8 with fail
        go_quiet (fail)
        by_cases g2 : y < yl
        · have T2 := Lib.hid (Y2.out g2)
          go_upto_region 10 with fail
          go_quiet (fail)
          go_wp2_with fail
          go_roundw
          case rel => exact ⟨k + 1, by go_num, by rw [T1.out], by rw [T2.out], by omega, Lib.hid (below_to_drewN HW.out _)⟩
          case measure => simp [intOf]; omega
        · have T2 := Lib.hid (N2.out g2)
          go_upto_region 10 with fail
          go_quiet (fail)
          go_wp2_with fail
          go_roundw
          case rel => exact ⟨k + 1, by go_num, by rw [T1.out], by rw [T2.out], by omega, Lib.hid (below_to_drewN HW.out _)⟩
          case measure => simp [intOf]; omega
    · have hk' : k = ms.length := by omega
      subst hk'
      rw [← HHE.out, ← HLI.out]
      have HBT := Lib.hid (fun p => once_yes (os := os) (ms := ms) (cost := cost) (slow := slow) (p := p))
      have HBN := Lib.hid (once_no (os := os) (ms := ms) (cost := cost) (slow := slow))
      have HSPEC := Lib.hid (bt_spec os ms cost slow)
      generalize btI os ms cost slow = bt at *
      generalize heI os ms cost slow = h at *
      generalize liI os ms cost slow = l at *
      obtain ⟨a1, rfl, _, e1⟩ := (HL1.out.below HW.out).vs h (by rw [HLL.out]; exact hhl)
      have hhi : (h : Int) < (ms.length : Int) := by omega
      have hli : (l : Int) < (ms.length : Int) := by omega
      obtain ⟨wo, hwo⟩ : ∃ x, x = wr := ⟨_, rfl⟩
      subst hwo
      have HB2 := Lib.hid (HB1.out.trans (HW.out.mono HB1.out.size))
      clear HW HHE HLI
      go_wp2_with fail
      clear e1
      go_loopw [15, 16, 17] (fun p m i W => O2Rel os ms cost slow h l wo p m i W) (fun p m i W => os.length - (intOf i).toNat)
      case atStart => exact ⟨0, rfl, rfl, rfl, Nat.zero_le _, Lib.hid (Below.refl _ _)⟩
      case round =>
        obtain ⟨q, rfl, rfl, rfl, hq, HW⟩ := hrel
        have HBW := Lib.hid (HB2.out.trans (HW.out.mono HB2.out.size))
        by_cases hne : h = l
        · have hb := bst_same os ms cost slow h q
          have hbn := bst_same os ms cost slow h os.length
          have HN := Lib.hid (HBN.out (by rw [HFIN.out, ← hne, hbn]; show (-1 : Int) < 0; decide))
          have hnl : ((h : Int) != (l : Int)) = false := by simp; omega
          have HA := Lib.hid (H1.out.next HBW.out)
          rw [← hne, hb]
          rw [← hne] at hnl hli
          clear hb hbn hne
          by_cases hlt : q < os.length
          · have hql : (q : Int) < (os.length : Int) := by omega
            go_wp2_with fail
            go_ret2
            rw [HN.out]
            exact ⟨_, _, rfl, HA.out, HBW.out⟩
          · have hql : ¬ (q : Int) < (os.length : Int) := by omega
            go_wp2_with fail
            go_ret2
            rw [HN.out]
            exact ⟨_, _, rfl, HA.out, HBW.out⟩
        · have hnl : ((h : Int) != (l : Int)) = true := by simp; omega
          by_cases hlt : q < os.length
          · have hql : (q : Int) < (os.length : Int) := by omega
            obtain ⟨ad, rfl, _, e0⟩ := (H1.out.below HBW.out).vs q hlt
            obtain ⟨a2, rfl, _, e2⟩ := (H2.out.below HBW.out).vs h hhl
            by_cases he : iAt os q = iAt ms h
            · obtain ⟨a2', ea, _, e3⟩ := (H2.out.below HBW.out).vs l hll
              injection ea with ea
              subst ea
              have he' : (iAt os q != iAt ms h) = false := by simpa using he
              have HT := Lib.hid (try_at (os := os) (cost := cost) (slow := slow) (q := q) hhl hll)
              have HPUT := Lib.hid (fun m => bst_put (cost := cost) (slow := slow) (m := m) he hne)
              have HKEEP := Lib.hid (fun m => bst_keep (os := os) (ms := ms) (cost := cost) (slow := slow) (h := h) (w := l) (q := q) (m := m))
              have HES := Lib.hid (ldE_set (q := q) HE0.out hll)
              have HSL := Lib.hid (ldL_len (os.set q (iAt ms l)) ms cost slow)
              go_upto_region 17 with fail
              go_quiet (fail)
              obtain ⟨wq, hwq⟩ : ∃ wq, wq = wr.drewN nq := ⟨_, rfl⟩
              have HWQ := Lib.hid (show Below wo.heap.size wo wq by rw [hwq]; exact below_to_drewN HW.out nq)
              have HBQ := Lib.hid (show Below w.heap.size w wq by rw [hwq]; exact below_to_drewN HBW.out nq)
              have e3' : wq.cell? (a2.add l) = some (.int .i64 (iAt ms l)) := by rw [hwq]; exact e3
              rw [← hwq]
              clear hwq e0 e2 e3 he he'
              have HAQ := Lib.hid (H1.out.next HBQ.out)
              go_wp2_with fail
              refine (given_any (some ad) c1 os q (iAt ms l) _ HAQ.out (by omega) hlt).mono ?_
              rintro e w5 ⟨g, d5, rfl, ho5, hb5⟩
              have HB5 := Lib.hid (HBQ.out.trans (hb5.mono HBQ.out.size))
              have HW5 := Lib.hid (HWQ.out.trans (hb5.mono HWQ.out.size))
              have HO5 := Lib.hid (show Lies w5 w5.heap.size 1 (some ⟨g, 0, none⟩) os.length (vc (os.set q (iAt ms l))) from Lies.of_own ho5)
              have H2W := Lib.hid (H2.out.next HB5.out)
              have H3W := Lib.hid (H3.out.next HB5.out)
              have H4W := Lib.hid (H4.out.next HB5.out)
              clear ho5 hb5 e3'
              generalize iAt ms l = tz at *
              have CL := Lib.hid (show Calls Try.prog 21 #[.slice (some ⟨g, 0, none⟩) os.length d5, .slice (some a2) ms.length c2, .slice A3 cost.length c3, .slice A4 slow.length c4] w5 (OlPost (loR (os.set q tz) ms cost slow) (ldE (os.set q tz) ms cost slow) w5) by
                have hx := rloads_any (some ⟨g, 0, none⟩) d5 (os.set q tz) (some a2) c2 ms A3 c3 cost A4 c4 slow w5 (by rw [List.length_set]; exact HO5.out) H2W.out H3W.out H4W.out (by rw [List.length_set]; omega) (by omega) n3 n4
                rw [List.length_set] at hx
                exact hx)
              go_wp2_with fail
              refine CL.out.mono ?_
              intro e w6 hx
              obtain ⟨D6, d6, rfl, hl6, hb6⟩ := ol_yes HES.out hx
              have HW6 := Lib.hid (HW5.out.trans (hb6.mono HW5.out.size))
              obtain ⟨a6, rfl, _, y0⟩ := hl6.vs h (by rw [HSL.out]; exact hhl)
              obtain ⟨a6', ea, _, y1⟩ := hl6.vs l (by rw [HSL.out]; exact hll)
              injection ea with ea
              subst ea
              clear hx hl6 hb6 CL H2W H3W H4W HO5
              generalize iAt (ldL (os.set q tz) ms cost slow) h = yh at *
              generalize iAt (ldL (os.set q tz) ms cost slow) l = yl at *
              by_cases g1 : yh < yl
              · have HTM := Lib.hid (show tryI os ms cost slow h l q = yl by rw [HT.out]; omega)
                by_cases g2 : yl < (bst os ms cost slow h l q).2
                · have HS := Lib.hid (HPUT.out _ HTM.out g2)
                  generalize bst os ms cost slow h l q = b at *
                  go_wp2_with fail
                  go_roundw
                  case rel => exact ⟨q + 1, by go_num, by rw [HS.out], by rw [HS.out], by omega, HW6⟩
                  case measure => simp [intOf]; omega
                · have HS := Lib.hid (HKEEP.out _ HTM.out (by omega))
                  generalize bst os ms cost slow h l q = b at *
                  go_wp2_with fail
                  go_roundw
                  case rel => exact ⟨q + 1, by go_num, by rw [HS.out], by rw [HS.out], by omega, HW6⟩
                  case measure => simp [intOf]; omega
              · have HTM := Lib.hid (show tryI os ms cost slow h l q = yh by rw [HT.out]; omega)
                by_cases g2 : yh < (bst os ms cost slow h l q).2
                · have HS := Lib.hid (HPUT.out _ HTM.out g2)
                  generalize bst os ms cost slow h l q = b at *
                  go_wp2_with fail
                  go_roundw
                  case rel => exact ⟨q + 1, by go_num, by rw [HS.out], by rw [HS.out], by omega, HW6⟩
                  case measure => simp [intOf]; omega
                · have HS := Lib.hid (HKEEP.out _ HTM.out (by omega))
                  generalize bst os ms cost slow h l q = b at *
                  go_wp2_with fail
                  go_roundw
                  case rel => exact ⟨q + 1, by go_num, by rw [HS.out], by rw [HS.out], by omega, HW6⟩
                  case measure => simp [intOf]; omega
            · have HS := Lib.hid (bst_skip (cost := cost) (slow := slow) (w := l) he)
              have he' : (iAt os q != iAt ms h) = true := by simpa using he
              clear he
              go_upto_region 17 with fail
              go_quiet (fail)
              generalize bst os ms cost slow h l q = b at *
              go_wp2_with fail
              go_roundw
              case rel => exact ⟨q + 1, by go_num, by rw [HS.out], by rw [HS.out], by omega, Lib.hid (below_to_drewN HW.out _)⟩
              case measure => simp [intOf]; omega
          · have hk' : q = os.length := by omega
            subst hk'
            have hql : ¬ (os.length : Int) < (os.length : Int) := by omega
            rw [← HFIN.out]
            clear hlt
            rcases HSPEC.out with hb | ⟨p, hb, hpl⟩
            · have HN := Lib.hid (HBN.out hb)
              have HA := Lib.hid (H1.out.next HBW.out)
              go_wp2_with fail
              go_ret2
              rw [HN.out]
              exact ⟨_, _, rfl, HA.out, HBW.out⟩
            · have HN := Lib.hid (HBT.out p hb)
              have HA := Lib.hid (H1.out.next HBW.out)
              obtain ⟨a2, rfl, _, e3⟩ := (H2.out.below HBW.out).vs l hll
              rw [hb]
              clear hb
              go_wp2_with fail
              refine (given_any A1 c1 os p (iAt ms l) _ HA.out (by omega) hpl).mono ?_
              rintro e w5 ⟨g, d5, rfl, ho5, hb5⟩
              have HB5 := Lib.hid (HBW.out.trans (hb5.mono HBW.out.size))
              have HO5 := Lib.hid (show Lies w5 w5.heap.size 1 (some ⟨g, 0, none⟩) os.length (vc (os.set p (iAt ms l))) from Lies.of_own ho5)
              clear ho5 hb5
              go_wp2_with fail
              go_ret2
              rw [HN.out]
              exact ⟨some ⟨g, 0, none⟩, d5, by rw [List.length_set]; rfl, by rw [List.length_set]; exact HO5.out, HB5.out⟩
end Go.Proofs.Ytabbpccfdpphjaa
