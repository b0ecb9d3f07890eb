/-
  The walks of ProgFolds, ProgGroups, ProgChecks and ProgStarts. No condition but that the numbers are of 64 bits.
-/
import Derived.Test.YtielmlcgdolgkaaLawA
namespace Go.Proofs.Ytielmlcgdolgkaa
open Go.ChangeShapes Go.WideShapes Go.ChangeAt Go.RowKit
set_option linter.unusedVariables false

set_option maxHeartbeats 1000000 in
theorem folds_walk (p a b : Int) (w : World) (ha : bd a) (hb : bd b) :
    Calls Try.prog 5 #[.int .i64 p, .int .i64 a, .int .i64 b] w fun e w' => e = .returned (.bool true) ∧ Below w.heap.size w w' := by
  go_enter Try.func5, Try.ntmps5
  go_wp2_with fail
  refine (fold_any p a b _ ha hb).mono ?_
  rintro e w1 ⟨rfl, hb1⟩
  have H1 := Lib.hid hb1
  clear hb1
  go_wp2_with fail
  refine (rfold_any p a b _ ha hb).mono ?_
  rintro e w2 ⟨rfl, rfl⟩
  go_wp2_with fail
  refine (knows_any _).mono ?_
  rintro e w3 ⟨rfl, hb3⟩
  have H3 := Lib.hid (H1.out.trans (hb3.mono H1.out.size))
  clear hb3
  go_wp2_with fail
  go_ret
  exact ⟨rfl, H3.out⟩

theorem lessI_sym (a b : Int) : lessI a b = lessI b a := by unfold lessI; split <;> split <;> omega
theorem greatI_sym (a b : Int) : greatI a b = greatI b a := by unfold greatI; split <;> split <;> omega
theorem lessI_assoc (a b c : Int) : lessI (lessI a b) c = lessI a (lessI b c) := by unfold lessI; repeat' split <;> omega
theorem greatI_assoc (a b c : Int) : greatI (greatI a b) c = greatI a (greatI b c) := by unfold greatI; repeat' split <;> omega
theorem foldX_sym (p a b : Int) : foldX p a b = foldX p b a := by unfold foldX; rw [Int.add_comm, lessI_sym, greatI_sym]
theorem foldB_sym (p a b : Int) : foldB p a b = foldB p b a := by unfold foldB; rw [Int.add_comm]
theorem fdX_sym (p a b : Int) : fdX p a b = fdX p b a := by unfold fdX; rw [foldX_sym, foldB_sym]
theorem fdE_sym (p a b : Int) : fdE p a b = fdE p b a := by unfold fdE; rw [foldB_sym]
theorem fdE_zero {p a b : Int} (h : fdE p a b = 0) : (1 ≤ p ∧ p ≤ 5) ∧ foldB p a b = true := by
  unfold fdE at h
  by_cases hp : 1 ≤ p ∧ p ≤ 5
  · rw [if_pos hp] at h
    by_cases hf : foldB p a b = true
    · exact ⟨hp, hf⟩
    · rw [if_neg hf] at h; cases h
  · rw [if_neg hp] at h; cases h
theorem fdX_of {p a b : Int} (h : fdE p a b = 0) : fdX p a b = foldX p a b := by
  obtain ⟨hp, hf⟩ := fdE_zero h
  unfold fdX
  rw [if_pos hp, if_pos hf]
theorem told_of {n : Int} (h : fits n = true) : told n = n := by unfold told; rw [if_pos h]
theorem fd_assoc {p a b c : Int} (h1 : fdE p a b = 0) (h2 : fdE p (fdX p a b) c = 0) (h3 : fdE p b c = 0) :
    fdX p (fdX p a b) c = fdX p a (fdX p b c) ∧ fdE p a (fdX p b c) = 0 := by
  obtain ⟨hp, f1⟩ := fdE_zero h1
  obtain ⟨_, f2⟩ := fdE_zero h2
  obtain ⟨_, f3⟩ := fdE_zero h3
  rw [fdX_of h1] at f2 h2 ⊢
  rw [fdX_of h2, fdX_of h3]
  by_cases h5 : p = 5
  · subst h5
    have e1 : foldX 5 a b = a + b := told_of f1
    have e3 : foldX 5 b c = b + c := told_of f3
    rw [e1] at f2 ⊢
    rw [e3]
    have f4 : foldB 5 a (b + c) = true := by
      show fits (a + (b + c)) = true
      rw [← Int.add_assoc]
      exact f2
    have h4 : fdE 5 a (b + c) = 0 := by unfold fdE; rw [if_pos hp, if_pos f4]
    refine ⟨?_, h4⟩
    rw [fdX_of h4]
    show told (a + b + c) = told (a + (b + c))
    rw [Int.add_assoc]
  · have f4 : ∀ x y, foldB p x y = true := fun x y => by unfold foldB; rw [if_neg h5]
    have h4 : ∀ x y, fdE p x y = 0 := fun x y => by unfold fdE; rw [if_pos hp, if_pos (f4 x y)]
    refine ⟨?_, h4 _ _⟩
    rw [fdX_of (h4 _ _)]
    unfold foldX
    rw [if_neg h5, if_neg h5, if_neg h5, if_neg h5]
    by_cases h4 : p = 4
    · rw [if_pos h4, if_pos h4, if_pos h4, if_pos h4]; exact greatI_assoc a b c
    · rw [if_neg h4, if_neg h4, if_neg h4, if_neg h4]; exact lessI_assoc a b c
theorem fdX_bd (p : Int) {a b : Int} (ha : bd a) (hb : bd b) : bd (fdX p a b) := by
  unfold fdX
  split
  · split
    · exact foldX_bd ha hb
    · exact ⟨by decide, by decide⟩
  · exact ⟨by decide, by decide⟩

set_option maxHeartbeats 1000000 in
theorem groups_walk (p a b c : Int) (w : World) (ha : bd a) (hb : bd b) (hc : bd c) :
    Calls Try.prog 6 #[.int .i64 p, .int .i64 a, .int .i64 b, .int .i64 c] w fun e w' => e = .returned (.bool true) ∧ Below w.heap.size w w' := by
  have HBX := Lib.hid (fdX_bd p ha hb)
  have HBZ := Lib.hid (fdX_bd p hb hc)
  have HSX := Lib.hid (fdX_sym p b a)
  have HSE := Lib.hid (fdE_sym p b a)
  by_cases h1 : fdE p a b = 0
  · by_cases h2 : fdE p (fdX p a b) c = 0
    · by_cases h3 : fdE p b c = 0
      · have HA := Lib.hid (fd_assoc h1 h2 h3)
        have H1 := Lib.hid h1
        have H2 := Lib.hid h2
        have H3 := Lib.hid h3
        clear h1 h2 h3
        go_enter Try.func6, Try.ntmps6
        go_wp2_with fail
        refine (fold_any p a b _ ha hb).mono ?_
        rintro e w1 ⟨rfl, hb1⟩
        have B1 := Lib.hid hb1
        rw [H1.out]
        clear hb1
        go_wp2_with fail
        refine (fold_any p b a _ hb ha).mono ?_
        rintro e w2 ⟨rfl, hb2⟩
        rw [HSX.out, HSE.out, H1.out]
        have B2 := Lib.hid (B1.out.trans (hb2.mono B1.out.size))
        clear hb2
        go_wp2_with fail
        refine (fold_any p (fdX p a b) c _ HBX.out hc).mono ?_
        rintro e w3 ⟨rfl, hb3⟩
        rw [HA.out.1, H2.out]
        have B3 := Lib.hid (B2.out.trans (hb3.mono B2.out.size))
        clear hb3
        go_wp2_with fail
        refine (fold_any p b c _ hb hc).mono ?_
        rintro e w4 ⟨rfl, hb4⟩
        rw [H3.out]
        have B4 := Lib.hid (B3.out.trans (hb4.mono B3.out.size))
        clear hb4
        go_wp2_with fail
        refine (fold_any p a (fdX p b c) _ ha HBZ.out).mono ?_
        rintro e w5 ⟨rfl, hb5⟩
        rw [HA.out.2]
        have B5 := Lib.hid (B4.out.trans (hb5.mono B4.out.size))
        clear hb5
        go_wp2_with fail
        refine (knows_any _).mono ?_
        rintro e w6 ⟨rfl, hb6⟩
        have B6 := Lib.hid (B5.out.trans (hb6.mono B5.out.size))
        clear hb6
        go_wp2_with fail
        go_ret
        exact ⟨rfl, B6.out⟩
      · have H1 := Lib.hid h1
        have H2 := Lib.hid h2
        have h3' : (fdE p b c != 0) = true := by simpa using h3
        clear h1 h2 h3
        go_enter Try.func6, Try.ntmps6
        go_wp2_with fail
        refine (fold_any p a b _ ha hb).mono ?_
        rintro e w1 ⟨rfl, hb1⟩
        have B1 := Lib.hid hb1
        rw [H1.out]
        clear hb1
        go_wp2_with fail
        refine (fold_any p b a _ hb ha).mono ?_
        rintro e w2 ⟨rfl, hb2⟩
        rw [HSX.out, HSE.out, H1.out]
        have B2 := Lib.hid (B1.out.trans (hb2.mono B1.out.size))
        clear hb2
        go_wp2_with fail
        refine (fold_any p (fdX p a b) c _ HBX.out hc).mono ?_
        rintro e w3 ⟨rfl, hb3⟩
        rw [H2.out]
        have B3 := Lib.hid (B2.out.trans (hb3.mono B2.out.size))
        clear hb3
        go_wp2_with fail
        refine (fold_any p b c _ hb hc).mono ?_
        rintro e w4 ⟨rfl, hb4⟩
        have B4 := Lib.hid (B3.out.trans (hb4.mono B3.out.size))
        clear hb4
        go_wp2_with fail
        refine (knows_any _).mono ?_
        rintro e w6 ⟨rfl, hb6⟩
        have B6 := Lib.hid (B4.out.trans (hb6.mono B4.out.size))
        clear hb6
        go_wp2_with fail
        go_ret
        exact ⟨rfl, B6.out⟩
    · have H1 := Lib.hid h1
      have h2' : (fdE p (fdX p a b) c != 0) = true := by simpa using h2
      clear h1 h2
      go_enter Try.func6, Try.ntmps6
      go_wp2_with fail
      refine (fold_any p a b _ ha hb).mono ?_
      rintro e w1 ⟨rfl, hb1⟩
      have B1 := Lib.hid hb1
      rw [H1.out]
      clear hb1
      go_wp2_with fail
      refine (fold_any p b a _ hb ha).mono ?_
      rintro e w2 ⟨rfl, hb2⟩
      rw [HSX.out, HSE.out, H1.out]
      have B2 := Lib.hid (B1.out.trans (hb2.mono B1.out.size))
      clear hb2
      go_wp2_with fail
      refine (fold_any p (fdX p a b) c _ HBX.out hc).mono ?_
      rintro e w3 ⟨rfl, hb3⟩
      have B3 := Lib.hid (B2.out.trans (hb3.mono B2.out.size))
      clear hb3
      go_wp2_with fail
      refine (fold_any p b c _ hb hc).mono ?_
      rintro e w4 ⟨rfl, hb4⟩
      have B4 := Lib.hid (B3.out.trans (hb4.mono B3.out.size))
      clear hb4
      go_wp2_with fail
      refine (knows_any _).mono ?_
      rintro e w6 ⟨rfl, hb6⟩
      have B6 := Lib.hid (B4.out.trans (hb6.mono B4.out.size))
      clear hb6
      go_wp2_with fail
      go_ret
      exact ⟨rfl, B6.out⟩
  · have h1' : (fdE p a b != 0) = true := by simpa using h1
    clear h1
    go_enter Try.func6, Try.ntmps6
    go_wp2_with fail
    refine (fold_any p a b _ ha hb).mono ?_
    rintro e w1 ⟨rfl, hb1⟩
    have B1 := Lib.hid hb1
    clear hb1
    go_wp2_with fail
    refine (fold_any p b a _ hb ha).mono ?_
    rintro e w2 ⟨rfl, hb2⟩
    rw [HSX.out, HSE.out]
    have B2 := Lib.hid (B1.out.trans (hb2.mono B1.out.size))
    clear hb2
    go_wp2_with fail
    refine (knows_any _).mono ?_
    rintro e w6 ⟨rfl, hb6⟩
    have B6 := Lib.hid (B2.out.trans (hb6.mono B2.out.size))
    clear hb6
    go_wp2_with fail
    go_ret
    exact ⟨rfl, B6.out⟩
end Go.Proofs.Ytielmlcgdolgkaa
