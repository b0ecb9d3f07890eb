import Derived.Test.YtabbpccfdpphjaaPlK
/-
  The walks of PlanBetter and PlanSteady. No condition but that the lists are slices of Go.
-/
namespace Go.Proofs.Ytabbpccfdpphjaa
open Go.ChangeShapes Go.WideShapes Go.ChangeAt Go.RowKit
set_option linter.unusedVariables false

set_option maxRecDepth 20000 in
set_option maxHeartbeats 4000000 in
theorem better_walk (A1 : Option Addr) (c1 : Nat) (os : List Int) (A2 : Option Addr) (c2 : Nat) (ms : List Int) (A3 : Option Addr) (c3 : Nat) (cost : List Int) (A4 : Option Addr) (c4 : Nat) (slow : List Int) (w : World)
    (h1 : Lies w w.heap.size 1 A1 os.length (vc os)) (h2 : Lies w w.heap.size 1 A2 ms.length (vc ms)) (h3 : Lies w w.heap.size 1 A3 cost.length (vc cost)) (h4 : Lies w w.heap.size 1 A4 slow.length (vc slow))
    (n1 : os.length ≤ maxLen) (n2 : ms.length ≤ maxLen) (n3 : cost.length ≤ maxLen) (n4 : slow.length ≤ maxLen) :
    Calls Try.prog 8 #[.slice A1 os.length c1, .slice A2 ms.length c2, .slice A3 cost.length c3, .slice A4 slow.length c4] w fun e w' => e = .returned (.bool true) ∧ Below w.heap.size w w' := by
  have H1 := Lib.hid h1
  have H2 := Lib.hid h2
  have H3 := Lib.hid h3
  have H4 := Lib.hid h4
  clear h1 h2 h3 h4
  go_enter Try.func8, Try.ntmps8
  go_wp2_with fail
  refine (great_any A1 c1 os.length _ n1).mono ?_
  rintro e w1 ⟨rfl, rfl⟩
  by_cases g0 : 50 < os.length
  · rw [decide_eq_true g0]
    unfold maxLen at *
    go_wp2_with fail
    refine (knows_any _).mono ?_
    rintro e w8 ⟨rfl, hb8⟩
    have HB8 := Lib.hid (hb8)
    clear hb8
    go_wp2_with fail
    go_ret
    exact ⟨rfl, HB8.out⟩
  · rw [decide_eq_false g0]
    have l0 : os.length ≤ 50 := by omega
    clear g0 n1
    go_wp2_with fail
    refine (great_any A2 c2 ms.length _ n2).mono ?_
    rintro e w1 ⟨rfl, rfl⟩
    by_cases g1 : 50 < ms.length
    · rw [decide_eq_true g1]
      unfold maxLen at *
      go_wp2_with fail
      refine (knows_any _).mono ?_
      rintro e w8 ⟨rfl, hb8⟩
      have HB8 := Lib.hid (hb8)
      clear hb8
      go_wp2_with fail
      go_ret
      exact ⟨rfl, HB8.out⟩
    · rw [decide_eq_false g1]
      have l1 : ms.length ≤ 50 := by omega
      clear g1 n2
      go_wp2_with fail
      refine (great_any A3 c3 cost.length _ n3).mono ?_
      rintro e w1 ⟨rfl, rfl⟩
      by_cases g2 : 50 < cost.length
      · rw [decide_eq_true g2]
        unfold maxLen at *
        go_wp2_with fail
        refine (knows_any _).mono ?_
        rintro e w8 ⟨rfl, hb8⟩
        have HB8 := Lib.hid (hb8)
        clear hb8
        go_wp2_with fail
        go_ret
        exact ⟨rfl, HB8.out⟩
      · rw [decide_eq_false g2]
        have l2 : cost.length ≤ 50 := by omega
        clear g2 n3
        go_wp2_with fail
        refine (great_any A4 c4 slow.length _ n4).mono ?_
        rintro e w1 ⟨rfl, rfl⟩
        by_cases g3 : 50 < slow.length
        · rw [decide_eq_true g3]
          unfold maxLen at *
          go_wp2_with fail
          refine (knows_any _).mono ?_
          rintro e w8 ⟨rfl, hb8⟩
          have HB8 := Lib.hid (hb8)
          clear hb8
          go_wp2_with fail
          go_ret
          exact ⟨rfl, HB8.out⟩
        · rw [decide_eq_false g3]
          have l3 : slow.length ≤ 50 := by omega
          clear g3 n4
          go_wp2_with fail
          refine (loads_any A1 c1 os A2 c2 ms A3 c3 cost A4 c4 slow _ H1.out H2.out H3.out H4.out (by omega) (by omega) (by omega) (by omega)).mono ?_
          rintro e w1 ⟨D1, d1, rfl, ho1, hb1⟩
          have HB1 := Lib.hid hb1
          have HL1 := Lib.hid (Lies.of_own ho1)
          have H1' := Lib.hid (H1.out.next hb1)
          have H2' := Lib.hid (H2.out.next hb1)
          have H3' := Lib.hid (H3.out.next hb1)
          have H4' := Lib.hid (H4.out.next hb1)
          clear ho1 hb1
          go_wp2_with fail
          refine (even_any A1 c1 os A2 c2 ms A3 c3 cost A4 c4 slow _ H1'.out H2'.out H3'.out H4'.out (by omega) (by omega) (by omega) (by omega)).mono ?_
          rintro e w2 ⟨D2, d2, rfl, ho2, hb2⟩
          have HB2 := Lib.hid (HB1.out.trans (hb2.mono HB1.out.size))
          have HL2 := Lib.hid (Lies.of_own ho2)
          have HL1' := Lib.hid (HL1.out.next hb2)
          have H2W := Lib.hid (H2'.out.next hb2)
          have H3W := Lib.hid (H3'.out.next hb2)
          have H4W := Lib.hid (H4'.out.next hb2)
          clear ho2 hb2
          by_cases h0 : ldE os ms cost slow = 0
          · have HE0 := Lib.hid h0
            have HV := Lib.hid (ev_yes h0)
            have HBT := Lib.hid (even_better os.length os h0)
            rw [← HV.out] at HBT
            rw [lo_yes h0, ldL_len] at HL1'
            have HLE := Lib.hid (ev_len h0)
            rw [HLE.out] at HL2 ⊢
            rw [lo_yes h0, ldL_len, h0]
            clear h0 HL1
            generalize evR os ms cost slow = ev at *
            have hpi : (os.length : Int) = (os.length : Int) := rfl
            have CL := Lib.hid (show Calls Try.prog 20 #[.slice D2 os.length d2, .slice A2 ms.length c2, .slice A3 cost.length c3, .slice A4 slow.length c4] w2 (OlPost (loR ev ms cost slow) (ldE ev ms cost slow) w2) by
              have hx := loads_any D2 d2 ev A2 c2 ms A3 c3 cost A4 c4 slow w2 (by rw [HLE.out]; exact HL2.out) H2W.out H3W.out H4W.out (by rw [HLE.out]; omega) (by omega) (by omega) (by omega)
              rw [HLE.out] at hx
              exact hx)
            go_wp2_with fail
            refine CL.out.mono ?_
            intro e w3 hx
            obtain ⟨D3, d3, rfl, hl3, hb3⟩ := ol_yes HBT.out.1 hx
            have HB3 := Lib.hid (HB2.out.trans (hb3.mono HB2.out.size))
            have HL3 := Lib.hid hl3
            have HL13 := Lib.hid (HL1'.out.next hb3)
            clear hx hl3 hb3
            have HLL := Lib.hid (ldL_len os ms cost slow)
            have HLM := Lib.hid (ldL_len ev ms cost slow)
            have CA := Lib.hid (show ∀ W : World, Lies W W.heap.size 1 D3 ms.length (vc (ldL ev ms cost slow)) → Calls Try.prog 24 #[.slice D3 ms.length d3] W (fun e w' => e = .returned (.int .i64 (mostI (ldL ev ms cost slow))) ∧ W = w') from fun W h => by
              have hx := mostc_any D3 d3 (ldL ev ms cost slow) W (by rw [HLM.out]; exact h) (by rw [HLM.out]; omega)
              rw [HLM.out] at hx
              exact hx)
            have CB := Lib.hid (show ∀ W : World, Lies W W.heap.size 1 D1 ms.length (vc (ldL os ms cost slow)) → Calls Try.prog 24 #[.slice D1 ms.length d1] W (fun e w' => e = .returned (.int .i64 (mostI (ldL os ms cost slow))) ∧ W = w') from fun W h => by
              have hx := mostc_any D1 d1 (ldL os ms cost slow) W (by rw [HLL.out]; exact h) (by rw [HLL.out]; omega)
              rw [HLL.out] at hx
              exact hx)
            have hle := HBT.out.2.2
            generalize mostI (ldL ev ms cost slow) = x at *
            generalize mostI (ldL os ms cost slow) = y at *
            go_wp2_with fail
            refine (CA.out _ HL3.out).mono ?_
            rintro e w4 ⟨rfl, rfl⟩
            go_wp2_with fail
            refine (CB.out _ HL13.out).mono ?_
            rintro e w4 ⟨rfl, rfl⟩
            go_wp2_with fail
            refine (knows_any _).mono ?_
            rintro e w8 ⟨rfl, hb8⟩
            have HB8 := Lib.hid (HB3.out.trans (hb8.mono HB3.out.size))
            clear hb8
            go_wp2_with fail
            go_ret
            exact ⟨rfl, HB8.out⟩
          · have h0' : (ldE os ms cost slow != 0) = true := by simpa using h0
            have he' : (ldE os ms cost slow == ldE os ms cost slow) = true := by simp
            rw [ev_no h0, lo_no h0]
            clear h0 HL1 HL2 HL1'
            generalize ldE os ms cost slow = E at *
            go_wp2_with fail
            refine (knows_any _).mono ?_
            rintro e w8 ⟨rfl, hb8⟩
            have HB8 := Lib.hid (HB2.out.trans (hb8.mono HB2.out.size))
            clear hb8
            go_wp2_with fail
            go_ret
            exact ⟨rfl, HB8.out⟩

theorem ev_again {os ms cost slow : List Int} (h : ldE os ms cost slow = 0) : ldE (evR os ms cost slow) ms cost slow = 0 := by rw [ev_yes h]; exact (even_better _ _ h).1
theorem ev_fix {os ms cost slow : List Int} (h : ldE os ms cost slow = 0) (h2 : stN ms cost slow os.length os < os.length) : evR (evR os ms cost slow) ms cost slow = evR os ms cost slow := by
  rw [ev_yes (ev_again h)]
  exact even_stays (by rw [ev_yes h]; exact even_fix _ _ h2) _

set_option maxRecDepth 20000 in
set_option maxHeartbeats 4000000 in
theorem steady_walk (A1 : Option Addr) (c1 : Nat) (os : List Int) (A2 : Option Addr) (c2 : Nat) (ms : List Int) (A3 : Option Addr) (c3 : Nat) (cost : List Int) (A4 : Option Addr) (c4 : Nat) (slow : List Int) (w : World)
    (h1 : Lies w w.heap.size 1 A1 os.length (vc os)) (h2 : Lies w w.heap.size 1 A2 ms.length (vc ms)) (h3 : Lies w w.heap.size 1 A3 cost.length (vc cost)) (h4 : Lies w w.heap.size 1 A4 slow.length (vc slow))
    (n1 : os.length ≤ maxLen) (n2 : ms.length ≤ maxLen) (n3 : cost.length ≤ maxLen) (n4 : slow.length ≤ maxLen) :
    Calls Try.prog 9 #[.slice A1 os.length c1, .slice A2 ms.length c2, .slice A3 cost.length c3, .slice A4 slow.length c4] w fun e w' => e = .returned (.bool true) ∧ Below w.heap.size w w' := by
  have H1 := Lib.hid h1
  have H2 := Lib.hid h2
  have H3 := Lib.hid h3
  have H4 := Lib.hid h4
  clear h1 h2 h3 h4
  go_enter Try.func9, Try.ntmps9
  go_wp2_with fail
  refine (great_any A1 c1 os.length _ n1).mono ?_
  rintro e w1 ⟨rfl, rfl⟩
  by_cases g0 : 50 < os.length
  · rw [decide_eq_true g0]
    unfold maxLen at *
    go_wp2_with fail
    refine (knows_any _).mono ?_
    rintro e w8 ⟨rfl, hb8⟩
    have HB8 := Lib.hid (hb8)
    clear hb8
    go_wp2_with fail
    go_ret
    exact ⟨rfl, HB8.out⟩
  · rw [decide_eq_false g0]
    have l0 : os.length ≤ 50 := by omega
    clear g0 n1
    go_wp2_with fail
    refine (great_any A2 c2 ms.length _ n2).mono ?_
    rintro e w1 ⟨rfl, rfl⟩
    by_cases g1 : 50 < ms.length
    · rw [decide_eq_true g1]
      unfold maxLen at *
      go_wp2_with fail
      refine (knows_any _).mono ?_
      rintro e w8 ⟨rfl, hb8⟩
      have HB8 := Lib.hid (hb8)
      clear hb8
      go_wp2_with fail
      go_ret
      exact ⟨rfl, HB8.out⟩
    · rw [decide_eq_false g1]
      have l1 : ms.length ≤ 50 := by omega
      clear g1 n2
      go_wp2_with fail
      refine (great_any A3 c3 cost.length _ n3).mono ?_
      rintro e w1 ⟨rfl, rfl⟩
      by_cases g2 : 50 < cost.length
      · rw [decide_eq_true g2]
        unfold maxLen at *
        go_wp2_with fail
        refine (knows_any _).mono ?_
        rintro e w8 ⟨rfl, hb8⟩
        have HB8 := Lib.hid (hb8)
        clear hb8
        go_wp2_with fail
        go_ret
        exact ⟨rfl, HB8.out⟩
      · rw [decide_eq_false g2]
        have l2 : cost.length ≤ 50 := by omega
        clear g2 n3
        go_wp2_with fail
        refine (great_any A4 c4 slow.length _ n4).mono ?_
        rintro e w1 ⟨rfl, rfl⟩
        by_cases g3 : 50 < slow.length
        · rw [decide_eq_true g3]
          unfold maxLen at *
          go_wp2_with fail
          refine (knows_any _).mono ?_
          rintro e w8 ⟨rfl, hb8⟩
          have HB8 := Lib.hid (hb8)
          clear hb8
          go_wp2_with fail
          go_ret
          exact ⟨rfl, HB8.out⟩
        · rw [decide_eq_false g3]
          have l3 : slow.length ≤ 50 := by omega
          clear g3 n4
          go_wp2_with fail
          refine (even_any A1 c1 os A2 c2 ms A3 c3 cost A4 c4 slow _ H1.out H2.out H3.out H4.out (by omega) (by omega) (by omega) (by omega)).mono ?_
          rintro e w1 ⟨D1, d1, rfl, ho1, hb1⟩
          have HB1 := Lib.hid hb1
          have HL1 := Lib.hid (Lies.of_own ho1)
          have H1' := Lib.hid (H1.out.next hb1)
          have H2' := Lib.hid (H2.out.next hb1)
          have H3' := Lib.hid (H3.out.next hb1)
          have H4' := Lib.hid (H4.out.next hb1)
          clear ho1 hb1
          by_cases h0 : ldE os ms cost slow = 0
          · have HE0 := Lib.hid h0
            have HE1 := Lib.hid (ev_again h0)
            have HE2 := Lib.hid (ev_again HE1.out)
            have HN1 := Lib.hid (ev_len h0)
            have HN2 := Lib.hid ((ev_len HE1.out).trans HN1.out)
            have HN3 := Lib.hid ((ev_len HE2.out).trans HN2.out)
            have HFX := Lib.hid (fun h2 => ev_fix h0 h2)
            rw [HN1.out] at HL1 ⊢
            rw [h0]
            clear h0
            generalize evR os ms cost slow = o1 at *
            have CE1 := Lib.hid (show Calls Try.prog 22 #[.slice D1 os.length d1, .slice A2 ms.length c2, .slice A3 cost.length c3, .slice A4 slow.length c4] w1 (OlPost (evR o1 ms cost slow) (ldE o1 ms cost slow) w1) by
              have hx := even_any D1 d1 o1 A2 c2 ms A3 c3 cost A4 c4 slow w1 (by rw [HN1.out]; exact HL1.out) H2'.out H3'.out H4'.out (by rw [HN1.out]; omega) (by omega) (by omega) (by omega)
              rw [HN1.out] at hx
              exact hx)
            go_wp2_with fail
            refine CE1.out.mono ?_
            rw [HE1.out]
            rintro e w2 ⟨D2, d2, rfl, ho2, hb2⟩
            have HB2 := Lib.hid (HB1.out.trans (hb2.mono HB1.out.size))
            have HL2 := Lib.hid (Lies.of_own ho2)
            have HL12 := Lib.hid (HL1.out.next hb2)
            have H1W := Lib.hid (H1'.out.next hb2)
            have H2W := Lib.hid (H2'.out.next hb2)
            have H3W := Lib.hid (H3'.out.next hb2)
            have H4W := Lib.hid (H4'.out.next hb2)
            clear ho2 hb2 CE1
            rw [HN2.out] at HL2 ⊢
            have HFX2 := Lib.hid (show evR o1 ms cost slow = o1 → evR (evR o1 ms cost slow) ms cost slow = o1 from fun h => by rw [h, h])
            generalize evR o1 ms cost slow = o2 at *
            have CE2 := Lib.hid (show Calls Try.prog 22 #[.slice D2 os.length d2, .slice A2 ms.length c2, .slice A3 cost.length c3, .slice A4 slow.length c4] w2 (OlPost (evR o2 ms cost slow) (ldE o2 ms cost slow) w2) by
              have hx := even_any D2 d2 o2 A2 c2 ms A3 c3 cost A4 c4 slow w2 (by rw [HN2.out]; exact HL2.out) H2W.out H3W.out H4W.out (by rw [HN2.out]; omega) (by omega) (by omega) (by omega)
              rw [HN2.out] at hx
              exact hx)
            go_wp2_with fail
            refine CE2.out.mono ?_
            rw [HE2.out]
            rintro e w3 ⟨D3, d3, rfl, ho3, hb3⟩
            have HB3 := Lib.hid (HB2.out.trans (hb3.mono HB2.out.size))
            have HL3 := Lib.hid (Lies.of_own ho3)
            have HL13 := Lib.hid (HL12.out.next hb3)
            have HL23 := Lib.hid (HL2.out.next hb3)
            have H1V := Lib.hid (H1W.out.next hb3)
            have H2V := Lib.hid (H2W.out.next hb3)
            have H3V := Lib.hid (H3W.out.next hb3)
            have H4V := Lib.hid (H4W.out.next hb3)
            clear ho3 hb3 CE2
            rw [HN3.out] at HL3 ⊢
            generalize evR o2 ms cost slow = o3 at *
            have hln : ((os.length : Int) != (os.length : Int)) = false := by simp
            go_wp2_with fail
            refine (steps_any A1 c1 os A2 c2 ms A3 c3 cost A4 c4 slow _ H1V.out H2V.out H3V.out H4V.out HE0.out).mono ?_
            rintro e w4 ⟨rfl, hb4⟩
            have HB4 := Lib.hid (HB3.out.trans (hb4.mono HB3.out.size))
            have HL14 := Lib.hid (HL13.out.next hb4)
            have HL24 := Lib.hid (HL23.out.next hb4)
            have HL34 := Lib.hid (HL3.out.next hb4)
            clear hb4
            by_cases hst : stN ms cost slow os.length os < os.length
            · have HQ2 := Lib.hid (HFX.out hst)
              have HQ3 := Lib.hid (HFX2.out HQ2.out)
              have hsi : ((stN ms cost slow os.length os : Nat) : Int) < (os.length : Int) := by omega
              clear hst
              rw [HQ2.out] at HL24
              rw [HQ3.out] at HL34
              generalize stN ms cost slow os.length os = st at *
              have CS := Lib.hid (show ∀ (W : World) (D : Option Addr) (d : Nat), Lies W W.heap.size 1 D1 os.length (vc o1) → Lies W W.heap.size 1 D os.length (vc o1) → Calls Try.prog 19 #[.slice D1 os.length d1, .slice D os.length d] W (fun e w' => e = .returned (.bool true) ∧ Below W.heap.size W w') from fun W D d ha hb => by
                have hx := same_any D1 d1 o1 D d o1 W (by rw [HN1.out]; exact ha) (by rw [HN1.out]; exact hb) (by rw [HN1.out]; omega) (by rw [HN1.out]; omega)
                rw [HN1.out, decide_eq_true rfl] at hx
                exact hx)
              go_wp2_with fail
              refine (CS.out _ D2 d2 HL14.out HL24.out).mono ?_
              rintro e w5 ⟨rfl, hb5⟩
              have HB5 := Lib.hid (HB4.out.trans (hb5.mono HB4.out.size))
              have HL15 := Lib.hid (HL14.out.next hb5)
              have HL35 := Lib.hid (HL34.out.next hb5)
              clear hb5
              go_wp2_with fail
              refine (CS.out _ D3 d3 HL15.out HL35.out).mono ?_
              rintro e w6 ⟨rfl, hb6⟩
              have HB6 := Lib.hid (HB5.out.trans (hb6.mono HB5.out.size))
              clear hb6
              go_wp2_with fail
              refine (knows_any _).mono ?_
              rintro e w8 ⟨rfl, hb8⟩
              have HB8 := Lib.hid (HB6.out.trans (hb8.mono HB6.out.size))
              clear hb8
              go_wp2_with fail
              go_ret
              exact ⟨rfl, HB8.out⟩
            · have hsi : ¬ ((stN ms cost slow os.length os : Nat) : Int) < (os.length : Int) := by omega
              clear hst
              generalize stN ms cost slow os.length os = st at *
              go_wp2_with fail
              refine (knows_any _).mono ?_
              rintro e w8 ⟨rfl, hb8⟩
              have HB8 := Lib.hid (HB4.out.trans (hb8.mono HB4.out.size))
              clear hb8
              go_wp2_with fail
              go_ret
              exact ⟨rfl, HB8.out⟩
          · have h0' : (ldE os ms cost slow != 0) = true := by simpa using h0
            rw [ev_no h0]
            clear h0 HL1
            generalize ldE os ms cost slow = E at *
            go_wp2_with fail
            refine (knows_any _).mono ?_
            rintro e w8 ⟨rfl, hb8⟩
            have HB8 := Lib.hid (HB1.out.trans (hb8.mono HB1.out.size))
            clear hb8
            go_wp2_with fail
            go_ret
            exact ⟨rfl, HB8.out⟩

end Go.Proofs.Ytabbpccfdpphjaa
