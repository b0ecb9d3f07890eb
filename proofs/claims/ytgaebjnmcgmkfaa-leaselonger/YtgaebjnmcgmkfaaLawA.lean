import Derived.Test.YtgaebjnmcgmkfaaLc
/-
  The walks of LeaseMoments, LeaseAsks and LeaseLonger. No condition but that numbers are numbers of 64 bits.
-/
namespace Go.Proofs.Ytgaebjnmcgmkfaa
open Go.ChangeShapes Go.WideShapes Go.ChangeAt Go.RowKit
set_option linter.unusedVariables false

set_option maxHeartbeats 2000000 in
theorem moments_walk (m n : Int) (w : World) (bm : -9223372036854775808 ≤ m ∧ m ≤ 9223372036854775807) (bn : -9223372036854775808 ≤ n ∧ n ≤ 9223372036854775807) :
    Calls Try.prog 3 #[.int .i64 m, .int .i64 n] w fun e w' => e = .returned (.bool true) ∧ Below w.heap.size w w' := by
  have CU := Lib.hid (fun W => until_any m n W bm.1 bm.2)
  have CF := Lib.hid (fun W => free_any m n W bm.1 bm.2)
  have CR := Lib.hid (fun W => runtil_any m n W)
  have CG := Lib.hid (fun W => rfree_any m n W)
  unfold TlPost at CU CF
  generalize tell m n (8 * n) = u at *
  generalize tell m n (cl n) = v at *
  obtain ⟨u1, u2⟩ := u
  obtain ⟨v1, v2⟩ := v
  clear bm bn
  go_enter Try.func3, Try.ntmps3
  go_wp2_with fail
  refine (CU.out _).mono ?_
  rintro e w1 ⟨rfl, hb1⟩
  have HB1 := Lib.hid hb1
  clear hb1
  go_wp2_with fail
  refine (CR.out _).mono ?_
  rintro e w2 ⟨rfl, rfl⟩
  go_wp2_with fail
  refine (CF.out _).mono ?_
  rintro e w2 ⟨rfl, hb2⟩
  have HB2 := Lib.hid (below_then HB1.out hb2)
  clear hb2
  go_wp2_with fail
  refine (CG.out _).mono ?_
  rintro e w3 ⟨rfl, rfl⟩
  go_wp2_with fail
  refine (knows_any _).mono ?_
  rintro e w3 ⟨rfl, hb3⟩
  have HB3 := Lib.hid (below_then HB2.out hb3)
  clear hb3
  go_wp2_with fail
  go_ret
  exact ⟨rfl, HB3.out⟩
set_option maxHeartbeats 2000000 in
theorem asks_walk (m n : Int) (w : World) :
    Calls Try.prog 4 #[.int .i64 m, .int .i64 n] w fun e w' => e = .returned (.bool true) ∧ Below w.heap.size w w' := by
  have CH := Lib.hid (fun W => holds_any m n W)
  have CG := Lib.hid (fun W => gone_any m n W)
  by_cases h : m < n
  · rw [decide_eq_true h, decide_eq_false (show ¬ n ≤ m by omega)] at *
    go_enter Try.func4, Try.ntmps4
    go_wp2_with fail
    refine (CH.out _).mono ?_
    rintro e w1 ⟨rfl, rfl⟩
    go_wp2_with fail
    refine (CG.out _).mono ?_
    rintro e w1 ⟨rfl, rfl⟩
    go_wp2_with fail
    refine (knows_any _).mono ?_
    rintro e w3 ⟨rfl, hb3⟩
    have HB3 := Lib.hid hb3
    clear hb3
    go_wp2_with fail
    go_ret
    exact ⟨ret_bool (show (!decide (n ≤ m)) = true by simp; omega), HB3.out⟩
  · rw [decide_eq_false h, decide_eq_true (show n ≤ m by omega)] at *
    go_enter Try.func4, Try.ntmps4
    go_wp2_with fail
    refine (CH.out _).mono ?_
    rintro e w1 ⟨rfl, rfl⟩
    go_wp2_with fail
    refine (CG.out _).mono ?_
    rintro e w1 ⟨rfl, rfl⟩
    go_wp2_with fail
    refine (knows_any _).mono ?_
    rintro e w3 ⟨rfl, hb3⟩
    have HB3 := Lib.hid hb3
    clear hb3
    go_wp2_with fail
    go_ret
    exact ⟨ret_bool (show (!decide (m < n)) = true by simp; omega), HB3.out⟩
theorem tell_yes {m n k : Int} (h : (tell m n k).2 = 0) : (tell m n k).1 = m + k ∧ 1 ≤ n ∧ n ≤ 1000 := by
  by_cases h1 : m < 0 ∨ 1099511627776 < m ∨ n < 1 ∨ 1000 < n
  · rw [tell_arg h1] at h; cases h
  · by_cases h2 : 1099511627776 < m + k
    · rw [tell_over h1 h2] at h; cases h
    · rw [tell_ok h1 h2]; exact ⟨rfl, by omega, by omega⟩
set_option maxHeartbeats 4000000 in
theorem longer_walk (m n k : Int) (w : World) (bm : -9223372036854775808 ≤ m ∧ m ≤ 9223372036854775807) :
    Calls Try.prog 7 #[.int .i64 m, .int .i64 n, .int .i64 k] w fun e w' => e = .returned (.bool true) ∧ Below w.heap.size w w' := by
  have CU := Lib.hid (fun W => until_any m n W bm.1 bm.2)
  have CV := Lib.hid (fun W => until_any m k W bm.1 bm.2)
  have CF := Lib.hid (fun W => free_any m n W bm.1 bm.2)
  have CG := Lib.hid (fun W => free_any m k W bm.1 bm.2)
  have HE := Lib.hid (show (tell m n (8 * n)).2 = 0 → (tell m k (8 * k)).2 = 0 → (tell m n (cl n)).2 = 0 → (tell m k (cl k)).2 = 0 → (n < k ↔ (tell m n (8 * n)).1 < (tell m k (8 * k)).1) ∧ (n < k ↔ (tell m n (cl n)).1 < (tell m k (cl k)).1) ∧ (tell m n (8 * n)).1 < (tell m n (cl n)).1 by
    intro h1 h2 h3 h4
    obtain ⟨e1, g1, _⟩ := tell_yes h1
    obtain ⟨e2, _, _⟩ := tell_yes h2
    obtain ⟨e3, _, _⟩ := tell_yes h3
    obtain ⟨e4, _, _⟩ := tell_yes h4
    rw [e1, e2, e3, e4]
    have := cl_mono (n := n) (m := k)
    have := (cl_pos g1).1
    refine ⟨by omega, by omega, by omega⟩)
  unfold TlPost at CU CV CF CG
  generalize tell m n (8 * n) = u at *
  generalize tell m k (8 * k) = v at *
  generalize tell m n (cl n) = x at *
  generalize tell m k (cl k) = y at *
  obtain ⟨u1, u2⟩ := u
  obtain ⟨v1, v2⟩ := v
  obtain ⟨x1, x2⟩ := x
  obtain ⟨y1, y2⟩ := y
  clear bm
  go_enter Try.func7, Try.ntmps7
  go_wp2_with fail
  refine (CU.out _).mono ?_
  rintro e w1 ⟨rfl, hb1⟩
  have HB1 := Lib.hid hb1
  clear hb1
  go_wp2_with fail
  refine (CV.out _).mono ?_
  rintro e w2 ⟨rfl, hb2⟩
  have HB2 := Lib.hid (below_then HB1.out hb2)
  clear hb2
  go_wp2_with fail
  refine (CF.out _).mono ?_
  rintro e w3 ⟨rfl, hb3⟩
  have HB3 := Lib.hid (below_then HB2.out hb3)
  clear hb3
  go_wp2_with fail
  refine (CG.out _).mono ?_
  rintro e w4 ⟨rfl, hb4⟩
  have HB4 := Lib.hid (below_then HB3.out hb4)
  clear hb4
  
  by_cases gu2 : u2 = 0
  rotate_left
  · have gu2' : (u2 != 0) = true := by simpa using gu2
    clear gu2
    go_wp2_with fail
    refine (knows_any _).mono ?_
    rintro e w9 ⟨rfl, hb9⟩
    have HB9 := Lib.hid (below_then HB4.out hb9)
    clear hb9
    go_wp2_with fail
    go_ret
    exact ⟨rfl, HB9.out⟩
  subst gu2
  by_cases gv2 : v2 = 0
  rotate_left
  · have gv2' : (v2 != 0) = true := by simpa using gv2
    clear gv2
    go_wp2_with fail
    refine (knows_any _).mono ?_
    rintro e w9 ⟨rfl, hb9⟩
    have HB9 := Lib.hid (below_then HB4.out hb9)
    clear hb9
    go_wp2_with fail
    go_ret
    exact ⟨rfl, HB9.out⟩
  subst gv2
  by_cases gx2 : x2 = 0
  rotate_left
  · have gx2' : (x2 != 0) = true := by simpa using gx2
    clear gx2
    go_wp2_with fail
    refine (knows_any _).mono ?_
    rintro e w9 ⟨rfl, hb9⟩
    have HB9 := Lib.hid (below_then HB4.out hb9)
    clear hb9
    go_wp2_with fail
    go_ret
    exact ⟨rfl, HB9.out⟩
  subst gx2
  by_cases gy2 : y2 = 0
  rotate_left
  · have gy2' : (y2 != 0) = true := by simpa using gy2
    clear gy2
    go_wp2_with fail
    refine (knows_any _).mono ?_
    rintro e w9 ⟨rfl, hb9⟩
    have HB9 := Lib.hid (below_then HB4.out hb9)
    clear hb9
    go_wp2_with fail
    go_ret
    exact ⟨rfl, HB9.out⟩
  subst gy2
  obtain ⟨q1, q2, q3⟩ := HE.out rfl rfl rfl rfl
  by_cases hn : n < k
  · have q4 := q1.1 hn
    have q5 := q2.1 hn
    clear q1 q2
    go_wp2_with fail
    refine (knows_any _).mono ?_
    rintro e w9 ⟨rfl, hb9⟩
    have HB9 := Lib.hid (below_then HB4.out hb9)
    clear hb9
    go_wp2_with fail
    go_ret
    exact ⟨rfl, HB9.out⟩
  · have q4 : ¬ u1 < v1 := fun h => hn (q1.2 h)
    have q5 : ¬ x1 < y1 := fun h => hn (q2.2 h)
    clear q1 q2
    go_wp2_with fail
    refine (knows_any _).mono ?_
    rintro e w9 ⟨rfl, hb9⟩
    have HB9 := Lib.hid (below_then HB4.out hb9)
    clear hb9
    go_wp2_with fail
    go_ret
    exact ⟨rfl, HB9.out⟩
end Go.Proofs.Ytgaebjnmcgmkfaa
