import Derived.Test.YtabbpccfdpphjaaPlJ
/-
  The walks of PlanMoves, PlanApplies, PlanLoads, PlanEvens, PlanBack, PlanBetter, PlanSteady. No condition but that the lists are slices of Go.
-/
namespace Go.Proofs.Ytabbpccfdpphjaa
open Go.ChangeShapes Go.WideShapes Go.ChangeAt Go.RowKit
set_option linter.unusedVariables false

theorem mov_len (old fresh : List Int) : (movR old fresh).length ≤ old.length := by
  unfold movR; split
  · exact mvN_len old fresh _
  · simp
theorem ev_len {os ms cost slow : List Int} (h : ldE os ms cost slow = 0) : (evR os ms cost slow).length = os.length := by rw [ev_yes h]; exact (even_better _ _ h).2.1
theorem ev_small (os ms cost slow : List Int) : (evR os ms cost slow).length ≤ os.length := by
  by_cases h : ldE os ms cost slow = 0
  · rw [ev_len h]; exact Nat.le_refl _
  · rw [ev_no h]; simp
theorem lo_small (os ms cost slow : List Int) : (loR os ms cost slow).length ≤ ms.length := by
  by_cases h : ldE os ms cost slow = 0
  · rw [lo_yes h, ldL_len]; exact Nat.le_refl _
  · rw [lo_no h]; simp
theorem apL_len (l : List Mv) : ∀ out : List Int, (apL out l).1.length ≤ out.length := by
  induction l with
  | nil => intro out; exact Nat.le_refl _
  | cons m r ih =>
    intro out
    rw [apL]; split
    · have := ih (out.set m.1.toNat m.2.2); rw [List.length_set] at this; exact this
    · simp
theorem ap_len (os : List Int) (l : List Mv) : (apR os l).length ≤ os.length := by
  unfold apR applyR; split
  · exact apL_len l os
  · simp

set_option maxRecDepth 20000 in
set_option maxHeartbeats 4000000 in
theorem moves_walk (A : Option Addr) (c : Nat) (old : List Int) (B : Option Addr) (d : Nat) (fresh : List Int) (w : World) (hA : Lies w w.heap.size 1 A old.length (vc old)) (hB : Lies w w.heap.size 1 B fresh.length (vc fresh)) (n1 : old.length ≤ maxLen) (n2 : fresh.length ≤ maxLen) :
    Calls Try.prog 3 #[.slice A old.length c, .slice B fresh.length d] w fun e w' => e = .returned (.bool true) ∧ Below w.heap.size w w' := by
  have HA := Lib.hid hA
  have HB := Lib.hid hB
  have HML := Lib.hid (mov_len old fresh)
  clear hA hB
  go_enter Try.func3, Try.ntmps3
  go_wp2_with fail
  refine (great_any A c old.length _ n1).mono ?_
  rintro e w1 ⟨rfl, rfl⟩
  by_cases g0 : 50 < old.length
  · rw [decide_eq_true g0]
    unfold maxLen at *
    go_wp2_with fail
    refine (knows_any _).mono ?_
    rintro e w8 ⟨rfl, hb8⟩
    have HB8 := Lib.hid (hb8)
    clear hb8
    go_wp2_with fail
    go_ret
    exact ⟨rfl, HB8.out⟩
  · rw [decide_eq_false g0]
    have l0 : old.length ≤ 50 := by omega
    clear g0 n1
    go_wp2_with fail
    refine (great_any B d fresh.length _ n2).mono ?_
    rintro e w1 ⟨rfl, rfl⟩
    by_cases g1 : 50 < fresh.length
    · rw [decide_eq_true g1]
      unfold maxLen at *
      go_wp2_with fail
      refine (knows_any _).mono ?_
      rintro e w8 ⟨rfl, hb8⟩
      have HB8 := Lib.hid (hb8)
      clear hb8
      go_wp2_with fail
      go_ret
      exact ⟨rfl, HB8.out⟩
    · rw [decide_eq_false g1]
      have l1 : fresh.length ≤ 50 := by omega
      clear g1 n2
      go_wp2_with fail
      refine (moves_any A c old B d fresh _ HA.out HB.out (by omega) (by omega)).mono ?_
      rintro e w1 ⟨D1, d1, rfl, ho1, hb1⟩
      have HB1 := Lib.hid hb1
      have HL1 := Lib.hid (Lies.of_own ho1)
      have HA1 := Lib.hid (HA.out.next hb1)
      have HF1 := Lib.hid (HB.out.next hb1)
      clear ho1 hb1
      go_wp2_with fail
      refine (rmoves_any A c old B d fresh _ HA1.out HF1.out (by omega) (by omega)).mono ?_
      rintro e w2 ⟨D2, d2, rfl, ho2, hb2⟩
      have HB2 := Lib.hid (HB1.out.trans (hb2.mono HB1.out.size))
      have HL2 := Lib.hid (Lies.of_own ho2)
      have HL1' := Lib.hid (HL1.out.next hb2)
      have HA2 := Lib.hid (HA1.out.next hb2)
      clear ho2 hb2
      have he' : (movE old fresh == movE old fresh) = true := by simp
      have hr' : (rightO old == rightO old) = true := by simp
      go_wp2_with fail
      refine (smv_any D1 d1 (movR old fresh) D2 d2 (movR old fresh) _ HL1'.out HL2.out (by have := HML.out; omega) (by have := HML.out; omega)).mono ?_
      rw [decide_eq_true (rfl : movR old fresh = movR old fresh)]
      rintro e w3 ⟨rfl, hb3⟩
      have HB3 := Lib.hid (HB2.out.trans (hb3.mono HB2.out.size))
      have HA3 := Lib.hid (HA2.out.next hb3)
      clear hb3
      go_wp2_with fail
      refine (pright_any A c old _ HA3.out (by omega)).mono ?_
      rintro e w4 ⟨rfl, rfl⟩
      go_wp2_with fail
      refine (rrighto_any A c old _ HA3.out (by omega)).mono ?_
      rintro e w4 ⟨rfl, rfl⟩
      go_wp2_with fail
      refine (knows_any _).mono ?_
      rintro e w8 ⟨rfl, hb8⟩
      have HB8 := Lib.hid (HB3.out.trans (hb8.mono HB3.out.size))
      clear hb8
      go_wp2_with fail
      go_ret
      exact ⟨rfl, HB8.out⟩

set_option maxRecDepth 20000 in
set_option maxHeartbeats 4000000 in
theorem loads_walk (A1 : Option Addr) (c1 : Nat) (os : List Int) (A2 : Option Addr) (c2 : Nat) (ms : List Int) (A3 : Option Addr) (c3 : Nat) (cost : List Int) (A4 : Option Addr) (c4 : Nat) (slow : List Int) (w : World)
    (h1 : Lies w w.heap.size 1 A1 os.length (vc os)) (h2 : Lies w w.heap.size 1 A2 ms.length (vc ms)) (h3 : Lies w w.heap.size 1 A3 cost.length (vc cost)) (h4 : Lies w w.heap.size 1 A4 slow.length (vc slow))
    (n1 : os.length ≤ maxLen) (n2 : ms.length ≤ maxLen) (n3 : cost.length ≤ maxLen) (n4 : slow.length ≤ maxLen) :
    Calls Try.prog 5 #[.slice A1 os.length c1, .slice A2 ms.length c2, .slice A3 cost.length c3, .slice A4 slow.length c4] w fun e w' => e = .returned (.bool true) ∧ Below w.heap.size w w' := by
  have H1 := Lib.hid h1
  have H2 := Lib.hid h2
  have H3 := Lib.hid h3
  have H4 := Lib.hid h4
  have HSM := Lib.hid (lo_small os ms cost slow)
  clear h1 h2 h3 h4
  go_enter Try.func5, Try.ntmps5
  go_wp2_with fail
  refine (great_any A1 c1 os.length _ n1).mono ?_
  rintro e w1 ⟨rfl, rfl⟩
  by_cases g0 : 50 < os.length
  · rw [decide_eq_true g0]
    unfold maxLen at *
    go_wp2_with fail
    refine (knows_any _).mono ?_
    rintro e w8 ⟨rfl, hb8⟩
    have HB8 := Lib.hid (hb8)
    clear hb8
    go_wp2_with fail
    go_ret
    exact ⟨rfl, HB8.out⟩
  · rw [decide_eq_false g0]
    have l0 : os.length ≤ 50 := by omega
    clear g0 n1
    go_wp2_with fail
    refine (great_any A2 c2 ms.length _ n2).mono ?_
    rintro e w1 ⟨rfl, rfl⟩
    by_cases g1 : 50 < ms.length
    · rw [decide_eq_true g1]
      unfold maxLen at *
      go_wp2_with fail
      refine (knows_any _).mono ?_
      rintro e w8 ⟨rfl, hb8⟩
      have HB8 := Lib.hid (hb8)
      clear hb8
      go_wp2_with fail
      go_ret
      exact ⟨rfl, HB8.out⟩
    · rw [decide_eq_false g1]
      have l1 : ms.length ≤ 50 := by omega
      clear g1 n2
      go_wp2_with fail
      refine (great_any A3 c3 cost.length _ n3).mono ?_
      rintro e w1 ⟨rfl, rfl⟩
      by_cases g2 : 50 < cost.length
      · rw [decide_eq_true g2]
        unfold maxLen at *
        go_wp2_with fail
        refine (knows_any _).mono ?_
        rintro e w8 ⟨rfl, hb8⟩
        have HB8 := Lib.hid (hb8)
        clear hb8
        go_wp2_with fail
        go_ret
        exact ⟨rfl, HB8.out⟩
      · rw [decide_eq_false g2]
        have l2 : cost.length ≤ 50 := by omega
        clear g2 n3
        go_wp2_with fail
        refine (great_any A4 c4 slow.length _ n4).mono ?_
        rintro e w1 ⟨rfl, rfl⟩
        by_cases g3 : 50 < slow.length
        · rw [decide_eq_true g3]
          unfold maxLen at *
          go_wp2_with fail
          refine (knows_any _).mono ?_
          rintro e w8 ⟨rfl, hb8⟩
          have HB8 := Lib.hid (hb8)
          clear hb8
          go_wp2_with fail
          go_ret
          exact ⟨rfl, HB8.out⟩
        · rw [decide_eq_false g3]
          have l3 : slow.length ≤ 50 := by omega
          clear g3 n4
          go_wp2_with fail
          refine (loads_any A1 c1 os A2 c2 ms A3 c3 cost A4 c4 slow _ H1.out H2.out H3.out H4.out (by omega) (by omega) (by omega) (by omega)).mono ?_
          rintro e w1 ⟨D1, d1, rfl, ho1, hb1⟩
          have HB1 := Lib.hid hb1
          have HL1 := Lib.hid (Lies.of_own ho1)
          have H1' := Lib.hid (H1.out.next hb1)
          have H2' := Lib.hid (H2.out.next hb1)
          have H3' := Lib.hid (H3.out.next hb1)
          have H4' := Lib.hid (H4.out.next hb1)
          clear ho1 hb1
          go_wp2_with fail
          refine (rloads_any A1 c1 os A2 c2 ms A3 c3 cost A4 c4 slow _ H1'.out H2'.out H3'.out H4'.out (by omega) (by omega) (by omega) (by omega)).mono ?_
          rintro e w2 ⟨D2, d2, rfl, ho2, hb2⟩
          have HL2 := Lib.hid (Lies.of_own ho2)
          have HB2 := Lib.hid (HB1.out.trans (hb2.mono HB1.out.size))
          have HL1' := Lib.hid (HL1.out.next hb2)
          clear ho2 hb2
          have hsm : (loR os ms cost slow).length ≤ 50 := by have := HSM.out; omega
          have he' : (ldE os ms cost slow == ldE os ms cost slow) = true := by simp
          generalize loR os ms cost slow = X at *
          generalize ldE os ms cost slow = E at *
          go_wp2_with fail
          refine (same_any D1 d1 X D2 d2 X _ HL1'.out HL2.out (by omega) (by omega)).mono ?_
          rw [decide_eq_true (rfl : X = X)]
          rintro e w3 ⟨rfl, hb3⟩
          have HB3 := Lib.hid (HB2.out.trans (hb3.mono HB2.out.size))
          clear hb3
          go_wp2_with fail
          refine (knows_any _).mono ?_
          rintro e w8 ⟨rfl, hb8⟩
          have HB8 := Lib.hid (HB3.out.trans (hb8.mono HB3.out.size))
          clear hb8
          go_wp2_with fail
          go_ret
          exact ⟨rfl, HB8.out⟩

set_option maxRecDepth 20000 in
set_option maxHeartbeats 4000000 in
theorem evens_walk (A1 : Option Addr) (c1 : Nat) (os : List Int) (A2 : Option Addr) (c2 : Nat) (ms : List Int) (A3 : Option Addr) (c3 : Nat) (cost : List Int) (A4 : Option Addr) (c4 : Nat) (slow : List Int) (w : World)
    (h1 : Lies w w.heap.size 1 A1 os.length (vc os)) (h2 : Lies w w.heap.size 1 A2 ms.length (vc ms)) (h3 : Lies w w.heap.size 1 A3 cost.length (vc cost)) (h4 : Lies w w.heap.size 1 A4 slow.length (vc slow))
    (n1 : os.length ≤ maxLen) (n2 : ms.length ≤ maxLen) (n3 : cost.length ≤ maxLen) (n4 : slow.length ≤ maxLen) :
    Calls Try.prog 6 #[.slice A1 os.length c1, .slice A2 ms.length c2, .slice A3 cost.length c3, .slice A4 slow.length c4] w fun e w' => e = .returned (.bool true) ∧ Below w.heap.size w w' := by
  have H1 := Lib.hid h1
  have H2 := Lib.hid h2
  have H3 := Lib.hid h3
  have H4 := Lib.hid h4
  have HSM := Lib.hid (ev_small os ms cost slow)
  clear h1 h2 h3 h4
  go_enter Try.func6, Try.ntmps6
  go_wp2_with fail
  refine (great_any A1 c1 os.length _ n1).mono ?_
  rintro e w1 ⟨rfl, rfl⟩
  by_cases g0 : 50 < os.length
  · rw [decide_eq_true g0]
    unfold maxLen at *
    go_wp2_with fail
    refine (knows_any _).mono ?_
    rintro e w8 ⟨rfl, hb8⟩
    have HB8 := Lib.hid (hb8)
    clear hb8
    go_wp2_with fail
    go_ret
    exact ⟨rfl, HB8.out⟩
  · rw [decide_eq_false g0]
    have l0 : os.length ≤ 50 := by omega
    clear g0 n1
    go_wp2_with fail
    refine (great_any A2 c2 ms.length _ n2).mono ?_
    rintro e w1 ⟨rfl, rfl⟩
    by_cases g1 : 50 < ms.length
    · rw [decide_eq_true g1]
      unfold maxLen at *
      go_wp2_with fail
      refine (knows_any _).mono ?_
      rintro e w8 ⟨rfl, hb8⟩
      have HB8 := Lib.hid (hb8)
      clear hb8
      go_wp2_with fail
      go_ret
      exact ⟨rfl, HB8.out⟩
    · rw [decide_eq_false g1]
      have l1 : ms.length ≤ 50 := by omega
      clear g1 n2
      go_wp2_with fail
      refine (great_any A3 c3 cost.length _ n3).mono ?_
      rintro e w1 ⟨rfl, rfl⟩
      by_cases g2 : 50 < cost.length
      · rw [decide_eq_true g2]
        unfold maxLen at *
        go_wp2_with fail
        refine (knows_any _).mono ?_
        rintro e w8 ⟨rfl, hb8⟩
        have HB8 := Lib.hid (hb8)
        clear hb8
        go_wp2_with fail
        go_ret
        exact ⟨rfl, HB8.out⟩
      · rw [decide_eq_false g2]
        have l2 : cost.length ≤ 50 := by omega
        clear g2 n3
        go_wp2_with fail
        refine (great_any A4 c4 slow.length _ n4).mono ?_
        rintro e w1 ⟨rfl, rfl⟩
        by_cases g3 : 50 < slow.length
        · rw [decide_eq_true g3]
          unfold maxLen at *
          go_wp2_with fail
          refine (knows_any _).mono ?_
          rintro e w8 ⟨rfl, hb8⟩
          have HB8 := Lib.hid (hb8)
          clear hb8
          go_wp2_with fail
          go_ret
          exact ⟨rfl, HB8.out⟩
        · rw [decide_eq_false g3]
          have l3 : slow.length ≤ 50 := by omega
          clear g3 n4
          go_wp2_with fail
          refine (even_any A1 c1 os A2 c2 ms A3 c3 cost A4 c4 slow _ H1.out H2.out H3.out H4.out (by omega) (by omega) (by omega) (by omega)).mono ?_
          rintro e w1 ⟨D1, d1, rfl, ho1, hb1⟩
          have HB1 := Lib.hid hb1
          have HL1 := Lib.hid (Lies.of_own ho1)
          have H1' := Lib.hid (H1.out.next hb1)
          have H2' := Lib.hid (H2.out.next hb1)
          have H3' := Lib.hid (H3.out.next hb1)
          have H4' := Lib.hid (H4.out.next hb1)
          clear ho1 hb1
          go_wp2_with fail
          refine (reven_any A1 c1 os A2 c2 ms A3 c3 cost A4 c4 slow _ H1'.out H2'.out H3'.out H4'.out (by omega) (by omega) (by omega) (by omega)).mono ?_
          rintro e w2 ⟨D2, d2, rfl, ho2, hb2⟩
          have HL2 := Lib.hid ho2
          have HB2 := Lib.hid (HB1.out.trans (hb2.mono HB1.out.size))
          have HL1' := Lib.hid (HL1.out.next hb2)
          clear ho2 hb2
          have hsm : (evR os ms cost slow).length ≤ 50 := by have := HSM.out; omega
          have he' : (ldE os ms cost slow == ldE os ms cost slow) = true := by simp
          generalize evR os ms cost slow = X at *
          generalize ldE os ms cost slow = E at *
          go_wp2_with fail
          refine (same_any D1 d1 X D2 d2 X _ HL1'.out HL2.out (by omega) (by omega)).mono ?_
          rw [decide_eq_true (rfl : X = X)]
          rintro e w3 ⟨rfl, hb3⟩
          have HB3 := Lib.hid (HB2.out.trans (hb3.mono HB2.out.size))
          clear hb3
          go_wp2_with fail
          refine (knows_any _).mono ?_
          rintro e w8 ⟨rfl, hb8⟩
          have HB8 := Lib.hid (HB3.out.trans (hb8.mono HB3.out.size))
          clear hb8
          go_wp2_with fail
          go_ret
          exact ⟨rfl, HB8.out⟩

end Go.Proofs.Ytabbpccfdpphjaa
