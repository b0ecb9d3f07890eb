import Derived.Test.YtabbpccfdpphjaaPlF
/-
  The contract of plan.Even. No condition but that the lists have at most a million numbers.
-/
namespace Go.Proofs.Ytabbpccfdpphjaa
open Go.ChangeShapes Go.WideShapes Go.ChangeAt Go.RowKit
set_option linter.unusedVariables false

theorem ev_step (ms cost slow os : List Int) (n : Nat) : evN ms cost slow (n + 1) os = evN ms cost slow n (onceI os ms cost slow) := by
  rw [evN]
  by_cases h : onceI os ms cost slow = os
  · rw [if_pos h, h, even_stays h]
  · rw [if_neg h]
def evR (os ms cost slow : List Int) : List Int := if ldE os ms cost slow = 0 then evN ms cost slow os.length os else []
theorem lo_yes {os ms cost slow : List Int} (h : ldE os ms cost slow = 0) : loR os ms cost slow = ldL os ms cost slow := by unfold loR; rw [if_pos h]
theorem lo_no {os ms cost slow : List Int} (h : ¬ ldE os ms cost slow = 0) : loR os ms cost slow = [] := by unfold loR; rw [if_neg h]
theorem ev_yes {os ms cost slow : List Int} (h : ldE os ms cost slow = 0) : evR os ms cost slow = evN ms cost slow os.length os := by unfold evR; rw [if_pos h]
theorem ev_no {os ms cost slow : List Int} (h : ¬ ldE os ms cost slow = 0) : evR os ms cost slow = [] := by unfold evR; rw [if_neg h]
/-- What loads are when there is no error: a list of as many numbers as there are members. -/
theorem ol_yes {os ms cost slow : List Int} {w : World} {r : Ending} {w' : World} (h : ldE os ms cost slow = 0) (h2 : OlPost (loR os ms cost slow) (ldE os ms cost slow) w r w') :
    ∃ D d, r = .returned (.tuple #[.slice D ms.length d, .int .i64 0]) ∧ Lies w' w'.heap.size 1 D ms.length (vc (ldL os ms cost slow)) ∧ Below w.heap.size w w' := by
  obtain ⟨D, d, rfl, ho, hb⟩ := h2
  rw [lo_yes h, ldL_len] at ho
  rw [lo_yes h, ldL_len, h]
  exact ⟨D, d, rfl, Lies.of_own ho, hb⟩
def EvRel (os ms cost slow : List Int) (w : World) (b g cV : Nat) (lo i : Value) (W : World) : Prop := ∃ (k : Nat) (cur : List Int) (D : Option Addr) (d : Nat), i = .int .i64 k ∧ k ≤ os.length ∧ lo = .slice D ms.length d ∧
  Hid (evN ms cost slow os.length os = evN ms cost slow (os.length - k) cur) ∧ Hid (ldE cur ms cost slow = 0) ∧ Hid (cur.length = os.length) ∧ Hid (Below w.heap.size w W) ∧ Hid (W.ownsRow b 3 1 (.slice (some ⟨g, 0, none⟩) os.length cV) os.length (vc cur)) ∧ Hid (Lies W W.heap.size 1 D ms.length (vc (ldL cur ms cost slow)))
theorem er_ok {os ms cost slow : List Int} {cur : List Int} {n : Nat} {w w' : World} {D : Option Addr} {d : Nat} (h0 : ldE os ms cost slow = 0) (h : evN ms cost slow os.length os = cur) (hn : cur.length = n) (ho : w'.ownsRow w.heap.size 3 1 (.slice D n d) n (vc cur)) (hb : Below w.heap.size w w') :
    OlPost (evR os ms cost slow) (ldE os ms cost slow) w (.returned (.tuple #[.slice D n d, .int .i64 0])) w' := by
  rw [ev_yes h0, h, h0]
  subst hn
  exact ⟨D, d, rfl, ho, hb⟩
set_option maxRecDepth 20000 in
set_option maxHeartbeats 4000000 in
theorem even_any (A1 : Option Addr) (c1 : Nat) (os : List Int) (A2 : Option Addr) (c2 : Nat) (ms : List Int) (A3 : Option Addr) (c3 : Nat) (cost : List Int) (A4 : Option Addr) (c4 : Nat) (slow : List Int) (w : World)
    (h1 : Lies w w.heap.size 1 A1 os.length (vc os)) (h2 : Lies w w.heap.size 1 A2 ms.length (vc ms)) (h3 : Lies w w.heap.size 1 A3 cost.length (vc cost)) (h4 : Lies w w.heap.size 1 A4 slow.length (vc slow))
    (n1 : os.length ≤ 1000000) (n2 : ms.length ≤ 1000000) (n3 : cost.length ≤ 1000000) (n4 : slow.length ≤ 1000000) :
    Calls Try.prog 22 #[.slice A1 os.length c1, .slice A2 ms.length c2, .slice A3 cost.length c3, .slice A4 slow.length c4] w (OlPost (evR os ms cost slow) (ldE os ms cost slow) w) := by
  have H1 := Lib.hid h1
  have H2 := Lib.hid h2
  have H3 := Lib.hid h3
  have H4 := Lib.hid h4
  clear h1 h2 h3 h4
  by_cases h0 : ldE os ms cost slow = 0
  · have HE0 := Lib.hid h0
    have HP := Lib.hid (ldE_zero h0).1
    have HO6 := Lib.hid (rightO_len HP.out.1)
    have HM5 := Lib.hid (rgt_len HP.out.2.1)
    have ho6 : os.length ≤ 6 := HO6.out.2
    have hm5 : ms.length ≤ 5 := HM5.out.2
    clear h0
    go_enter Try.func22, Try.ntmps22
    go_wp2_with fail
    refine (loads_any A1 c1 os A2 c2 ms A3 c3 cost A4 c4 slow _ H1.out H2.out H3.out H4.out n1 n2 n3 n4).mono ?_
    intro e w1 h
    obtain ⟨D, d, rfl, hl, hb⟩ := ol_yes HE0.out h
    have HB1 := Lib.hid hb
    have HL1 := Lib.hid hl
    have H11 := Lib.hid (H1.out.next hb)
    clear h hb hl
    go_wp2_with fail
    refine (clone_v A1 c1 os _ H11.out n1).mono ?_
    rintro e w2 ⟨V, cV, rfl, ho2, hb2⟩
    obtain ⟨g, rfl, hbg, hgz⟩ := own_some ho2 (by have := HO6.out; omega)
    have HO2 := Lib.hid ho2
    have HB2 := Lib.hid (HB1.out.trans (hb2.mono HB1.out.size))
    have HL2 := Lib.hid (HL1.out.next hb2)
    have HG := Lib.hid (show w.heap.size ≤ g by have := HB1.out.size; omega)
    clear ho2 hb2 hgz
    go_wp2_with fail
    go_loopw [10, 30] (fun lo i W => EvRel os ms cost slow w w1.heap.size g cV lo i W) (fun lo i W => os.length - (intOf i).toNat)
    case atStart => exact ⟨0, os, D, d, rfl, Nat.zero_le _, rfl, Lib.hid rfl, HE0, Lib.hid rfl, HB2, HO2, HL2⟩
    case round =>
      obtain ⟨k, cur, D, d, rfl, hk, rfl, HEV, HE, HC, HW, HO, HL⟩ := hrel
      by_cases hlt : k < os.length
      · have hkl : (k : Int) < (os.length : Int) := by omega
        have HST := Lib.hid (show evN ms cost slow os.length os = evN ms cost slow (os.length - (k + 1)) (onceI cur ms cost slow) by
          rw [HEV.out, show os.length - k = (os.length - (k + 1)) + 1 by omega, ev_step])
        have HSP := Lib.hid (once_spec HE.out)
        have HLC := Lib.hid (show Lies wr wr.heap.size 1 (some ⟨g, 0, none⟩) os.length (vc cur) from Lies.of_own HO.out)
        have H2W := Lib.hid (H2.out.next HW.out)
        have H3W := Lib.hid (H3.out.next HW.out)
        have H4W := Lib.hid (H4.out.next HW.out)
        have CL := Lib.hid (show Calls Try.prog 35 #[.slice (some ⟨g, 0, none⟩) os.length cV, .slice A2 ms.length c2, .slice A3 cost.length c3, .slice A4 slow.length c4, .slice D ms.length d] wr (LiPost cur ms cost slow wr) by
          have hx := lighten_any (some ⟨g, 0, none⟩) cV cur A2 c2 ms A3 c3 cost A4 c4 slow D d wr (by rw [HC.out]; exact HLC.out) H2W.out H3W.out H4W.out HL.out HE.out
          rw [HC.out] at hx
          exact hx)
        go_wp2_with fail
        refine CL.out.mono ?_
        rintro e w5 ⟨hcase, hb5⟩
        have HW5 := Lib.hid (HW.out.trans (hb5.mono HW.out.size))
        have HO5 := Lib.hid (own_next HO.out hb5)
        clear hb5
        rcases hcase with ⟨hbt, rfl⟩ | ⟨p, hbt, hpl, rfl⟩
        · have HEQ := Lib.hid (show evN ms cost slow os.length os = cur by rw [HEV.out, even_stays (once_no hbt)])
          have HBA := Lib.hid (HW5.out.trans ((below_alloc w5 (.cells #[.int .i64 0, .int .i64 0, .int .i64 0] 35)).mono HW5.out.size))
          have HOA := Lib.hid (own_next HO5.out (below_alloc w5 (.cells #[.int .i64 0, .int .i64 0, .int .i64 0] 35)))
          clear hbt
          go_wp2_with fail
          go_ret2
          exact er_ok HE0.out HEQ.out HC.out (own_lower HOA.out HB1.out.size) HBA.out
        · have HON := Lib.hid (once_yes hbt)
          have hpo : p < os.length := by rw [← HC.out]; exact hpl
          have hpi : (p : Int) < (os.length : Int) := by omega
          clear hbt
          generalize iAt ms (heI cur ms cost slow) = from' at *
          generalize hto : iAt ms (liI cur ms cost slow) = tz at *
          have HBA := Lib.hid (HW5.out.trans ((below_alloc w5 (.cells #[.int .i64 p, .int .i64 from', .int .i64 tz] 35)).mono HW5.out.size))
          have HOA := Lib.hid (own_next HO5.out (below_alloc w5 (.cells #[.int .i64 p, .int .i64 from', .int .i64 tz] 35)))
          have d0 : (w5.alloc (.cells #[.int .i64 p, .int .i64 from', .int .i64 tz] 35)).cell? ⟨w5.heap.size, 0, none⟩ = some (.int .i64 p) := by simp [go_sem]
          have d2 : (w5.alloc (.cells #[.int .i64 p, .int .i64 from', .int .i64 tz] 35)).cell? ⟨w5.heap.size, 2, none⟩ = some (.int .i64 tz) := by simp [go_sem]
          go_upto_region 8 with fail
          generalize w5.alloc (.cells #[.int .i64 p, .int .i64 from', .int .i64 tz] 35) = w6 at HBA HOA d0 d2 ⊢
          obtain ⟨x0, hx0⟩ : ∃ x0, w6.cell? ⟨g, p, none⟩ = some x0 := ⟨_, (HOA.out.cellAt p (by omega)).trans (vc_at _ p hpl)⟩
          have fz := HOA.out.frozenAt p
          have HO7 := Lib.hid ((HOA.out.stored p (.int .i64 tz)).1)
          have HW7 := Lib.hid (HBA.out.setCell (p := ⟨g, p, none⟩) (by show w.heap.size ≤ g; exact HG.out) (.int .i64 tz))
          have HC7 := Lib.hid (show (onceI cur ms cost slow).length = os.length by rw [HSP.out.2.1, HC.out])
          have HE7 := Lib.hid HSP.out.1
          rw [vc_set, ← HON.out] at HO7
          go_upto_region 10 with fail
          generalize w6.setCell ⟨g, p, none⟩ (.int .i64 tz) = w7 at HO7 HW7 ⊢
          clear d0 d2 hx0 fz
          generalize onceI cur ms cost slow = nxt at *
          have HLC7 := Lib.hid (show Lies w7 w7.heap.size 1 (some ⟨g, 0, none⟩) os.length (vc nxt) from Lies.of_own HO7.out)
          have H2W := Lib.hid (H2.out.next HW7.out)
          have H3W := Lib.hid (H3.out.next HW7.out)
          have H4W := Lib.hid (H4.out.next HW7.out)
          have CL2 := Lib.hid (show Calls Try.prog 20 #[.slice (some ⟨g, 0, none⟩) os.length cV, .slice A2 ms.length c2, .slice A3 cost.length c3, .slice A4 slow.length c4] w7 (OlPost (loR nxt ms cost slow) (ldE nxt ms cost slow) w7) by
            have hx := loads_any (some ⟨g, 0, none⟩) cV nxt A2 c2 ms A3 c3 cost A4 c4 slow w7 (by rw [HC7.out]; exact HLC7.out) H2W.out H3W.out H4W.out (by rw [HC7.out]; exact n1) n2 n3 n4
            rw [HC7.out] at hx
            exact hx)
          go_wp2_with fail
          refine CL2.out.mono ?_
          intro e w8 hx
          obtain ⟨D8, d8, rfl, hl8, hb8⟩ := ol_yes HE7.out hx
          have HW8 := Lib.hid (HW7.out.trans (hb8.mono HW7.out.size))
          have HO8 := Lib.hid (own_next HO7.out hb8)
          have HL8 := Lib.hid hl8
          clear hx hl8 hb8
          go_wp2_with fail
          go_roundw
          case rel => exact ⟨k + 1, nxt, D8, d8, by go_num, by omega, rfl, HST, HE7, HC7, HW8, HO8, HL8⟩
          case measure => simp [intOf]; omega
      · have hk' : k = os.length := by omega
        subst hk'
        have HEQ := Lib.hid (show evN ms cost slow os.length os = cur by rw [HEV.out, Nat.sub_self]; rfl)
        go_wp2_with fail
        go_ret2
        exact er_ok HE0.out HEQ.out HC.out (own_lower HO.out HB1.out.size) HW.out
  · have HN := Lib.hid (lo_no h0)
    have HV := Lib.hid (ev_no h0)
    have h0' : (ldE os ms cost slow != 0) = true := by simpa using h0
    clear h0
    go_enter Try.func22, Try.ntmps22
    go_wp2_with fail
    refine (loads_any A1 c1 os A2 c2 ms A3 c3 cost A4 c4 slow _ H1.out H2.out H3.out H4.out n1 n2 n3 n4).mono ?_
    rw [HN.out]
    rintro e w1 ⟨D, d, rfl, ho, hb⟩
    have HB1 := Lib.hid hb
    clear ho hb
    generalize ldE os ms cost slow = E at *
    go_wp2_with fail
    go_ret2
    rw [HV.out]
    exact ⟨none, 0, rfl, World.ownsRow_nil _ _ _ _, HB1.out⟩
end Go.Proofs.Ytabbpccfdpphjaa
