import Derived.Test.YtgaebjnmcgmkfaaLb
/-
  The contracts of the document's own Until and Free, and of the examples. No condition but that numbers are numbers of 64 bits.
-/
namespace Go.Proofs.Ytgaebjnmcgmkfaa
open Go.ChangeShapes Go.WideShapes Go.ChangeAt Go.RowKit
set_option linter.unusedVariables false

theorem tl_ofE {m n k a b : Int} {w w' : World} (h : tell m n k = (a, b)) (hw : w = w') : Ending.returned (.tuple #[.int .i64 a, .int .i64 b]) = .returned (.tuple #[.int .i64 (tell m n k).1, .int .i64 (tell m n k).2]) ∧ w = w' := by
  rw [h]; exact ⟨rfl, hw⟩
def UnRel (m n : Int) (w : World) (a i : Value) (W : World) : Prop := ∃ k : Nat, i = .int .i64 k ∧ (k : Int) ≤ n ∧ a = .int .i64 (m + 8 * k) ∧ W = w
set_option maxHeartbeats 2000000 in
theorem runtil_any (m n : Int) (w : World) : Calls Try.prog 10 #[.int .i64 m, .int .i64 n] w fun e w' => e = .returned (.tuple #[.int .i64 (tell m n (8 * n)).1, .int .i64 (tell m n (8 * n)).2]) ∧ w = w' := by
  by_cases h : m < 0 ∨ 1099511627776 < m ∨ n < 1 ∨ 1000 < n
  · have HT := Lib.hid (tell_arg (k := 8 * n) h)
    by_cases g1 : m < 0
    · clear h; go_enter Try.func10, Try.ntmps10
      go_wp2_with fail
      go_ret2
      exact tl_ofE HT.out rfl
    by_cases g2 : 1099511627776 < m
    · clear h; go_enter Try.func10, Try.ntmps10
      go_wp2_with fail
      go_ret2
      exact tl_ofE HT.out rfl
    by_cases g3 : n < 1
    · clear h; go_enter Try.func10, Try.ntmps10
      go_wp2_with fail
      go_ret2
      exact tl_ofE HT.out rfl
    have g4 : 1000 < n := by omega
    clear h; go_enter Try.func10, Try.ntmps10
    go_wp2_with fail
    go_ret2
    exact tl_ofE HT.out rfl
  · have H := Lib.hid h
    have g1 : ¬ m < 0 := by omega
    have g2 : ¬ 1099511627776 < m := by omega
    have g3 : ¬ n < 1 := by omega
    have g4 : ¬ 1000 < n := by omega
    clear h
    go_enter Try.func10, Try.ntmps10
    go_wp2_with fail
    go_loopw [0, 6] (fun a i W => UnRel m n w a i W) (fun a i W => (n - intOf i).toNat)
    case atStart => exact ⟨0, rfl, by have := H.out; omega, by simp, rfl⟩
    case round =>
      obtain ⟨k, rfl, hk, rfl, rfl⟩ := hrel
      by_cases hlt : (k : Int) < n
      · go_wp2_with fail
        go_roundw
        case rel => exact ⟨k + 1, by go_num, by omega, by go_num, rfl⟩
        case measure => simp [intOf]; omega
      · have hk' : (k : Int) = n := by omega
        by_cases hov : 1099511627776 < m + 8 * n
        · have HT := Lib.hid (tell_over H.out hov)
          have hov' : 1099511627776 < m + 8 * (k : Int) := by omega
          clear hov
          go_wp2_with fail
          go_ret2
          exact tl_ofE HT.out rfl
        · have HT := Lib.hid (tell_ok H.out hov)
          have hov' : ¬ 1099511627776 < m + 8 * (k : Int) := by omega
          clear hov
          go_wp2_with fail
          go_ret2
          exact tl_ofE HT.out rfl
set_option maxHeartbeats 2000000 in
theorem rfree_any (m n : Int) (w : World) : Calls Try.prog 12 #[.int .i64 m, .int .i64 n] w fun e w' => e = .returned (.tuple #[.int .i64 (tell m n (cl n)).1, .int .i64 (tell m n (cl n)).2]) ∧ w = w' := by
  by_cases h : m < 0 ∨ 1099511627776 < m ∨ n < 1 ∨ 1000 < n
  · have HT := Lib.hid (tell_arg (k := cl n) h)
    by_cases g1 : m < 0
    · clear h; go_enter Try.func12, Try.ntmps12
      go_wp2_with fail
      go_ret2
      exact tl_ofE HT.out rfl
    by_cases g2 : 1099511627776 < m
    · clear h; go_enter Try.func12, Try.ntmps12
      go_wp2_with fail
      go_ret2
      exact tl_ofE HT.out rfl
    by_cases g3 : n < 1
    · clear h; go_enter Try.func12, Try.ntmps12
      go_wp2_with fail
      go_ret2
      exact tl_ofE HT.out rfl
    have g4 : 1000 < n := by omega
    clear h; go_enter Try.func12, Try.ntmps12
    go_wp2_with fail
    go_ret2
    exact tl_ofE HT.out rfl
  · have H := Lib.hid h
    have g1 : ¬ m < 0 := by omega
    have g2 : ¬ 1099511627776 < m := by omega
    have g3 : ¬ n < 1 := by omega
    have g4 : ¬ 1000 < n := by omega
    have HC := Lib.hid (And.intro (cl_most (n := n) (by omega)) (cl_pos (n := n) (by omega)).1)
    clear h
    by_cases hd : 7 * (72 * n).tdiv 7 < 72 * n
    · have HD := Lib.hid (cl_down (n := n) (by omega) hd)
      have hd2 : 7 * (72 * n / 7) < 72 * n := by rw [Int.tdiv_eq_ediv_of_nonneg (by omega)] at hd; exact hd
      have E := Lib.hid (show ((72 * n).tdiv 7 + 1) = (72 * n / 7 + 1) by rw [Int.tdiv_eq_ediv_of_nonneg (by omega)])
      by_cases hov : 1099511627776 < m + (72 * n / 7 + 1)
      · have HT := Lib.hid (tell_over (k := cl n) H.out (by rw [← HD.out, E.out]; exact hov))
        have hov2 : 1099511627776 < m + ((72 * n).tdiv 7 + 1) := by rw [E.out]; exact hov
        clear HD
        go_enter Try.func12, Try.ntmps12
        go_wp2_with fail
        go_ret2
        exact tl_ofE HT.out rfl
      · have HT := Lib.hid (show tell m n (cl n) = (m + (72 * n / 7 + 1), 0) by rw [tell_ok H.out (by rw [← HD.out, E.out]; exact hov), ← HD.out, E.out])
        have hov2 : ¬ 1099511627776 < m + ((72 * n).tdiv 7 + 1) := by rw [E.out]; exact hov
        have HT2 := Lib.hid (show tell m n (cl n) = (m + ((72 * n).tdiv 7 + 1), 0) by rw [E.out]; exact HT.out)
        clear HD
        go_enter Try.func12, Try.ntmps12
        go_wp2_with fail
        go_ret2
        first | exact tl_ofE HT.out rfl | exact tl_ofE HT2.out rfl
    · have HD := Lib.hid (cl_even (n := n) (by omega) hd)
      have hd2 : ¬ 7 * (72 * n / 7) < 72 * n := by rw [Int.tdiv_eq_ediv_of_nonneg (by omega)] at hd; exact hd
      have E := Lib.hid (show (72 * n).tdiv 7 = 72 * n / 7 by rw [Int.tdiv_eq_ediv_of_nonneg (by omega)])
      by_cases hov : 1099511627776 < m + 72 * n / 7
      · have HT := Lib.hid (tell_over (k := cl n) H.out (by rw [← HD.out, E.out]; exact hov))
        have hov2 : 1099511627776 < m + (72 * n).tdiv 7 := by rw [E.out]; exact hov
        clear HD
        go_enter Try.func12, Try.ntmps12
        go_wp2_with fail
        go_ret2
        exact tl_ofE HT.out rfl
      · have HT := Lib.hid (show tell m n (cl n) = (m + 72 * n / 7, 0) by rw [tell_ok H.out (by rw [← HD.out, E.out]; exact hov), ← HD.out, E.out])
        have hov2 : ¬ 1099511627776 < m + (72 * n).tdiv 7 := by rw [E.out]; exact hov
        have HT2 := Lib.hid (show tell m n (cl n) = (m + (72 * n).tdiv 7, 0) by rw [E.out]; exact HT.out)
        clear HD
        go_enter Try.func12, Try.ntmps12
        go_wp2_with fail
        go_ret2
        first | exact tl_ofE HT.out rfl | exact tl_ofE HT2.out rfl
theorem below_then {w a b : World} (h : Below w.heap.size w a) (k : Below a.heap.size a b) : Below w.heap.size w b := h.trans (k.mono h.size)
theorem un_say {m n : Int} (h1 : 0 ≤ m) (h2 : m ≤ 1099500000000) (h3 : 1 ≤ n) (h4 : n ≤ 1000) : tell m n (8 * n) = (m + 8 * n, 0) := tell_ok (by omega) (by omega)
theorem fr_say {m n : Int} (h1 : 0 ≤ m) (h2 : m ≤ 1099500000000) (h3 : 1 ≤ n) (h4 : n ≤ 1000) : tell m n (cl n) = (m + cl n, 0) := by
  have := cl_most h4
  exact tell_ok (by omega) (by omega)
set_option maxHeartbeats 1000000 in
theorem knows_any (w : World) : Calls Try.prog 13 #[] w fun e w' => e = .returned (.bool true) ∧ Below w.heap.size w w' := by
  have U := Lib.hid (show tell 100 10 (8 * 10) = (180, 0) by decide)
  have F := Lib.hid (show tell 100 10 (cl 10) = (203, 0) by decide)
  go_enter Try.func13, Try.ntmps13
  go_wp2_with fail
  refine (until_any 100 10 _ (by omega) (by omega)).mono ?_
  rintro e w1 ⟨rfl, hb1⟩
  rw [U.out]
  have HB1 := Lib.hid hb1
  clear hb1
  go_wp2_with fail
  refine (free_any 100 10 _ (by omega) (by omega)).mono ?_
  rintro e w2 ⟨rfl, hb2⟩
  rw [F.out]
  have HB2 := Lib.hid (below_then HB1.out hb2)
  clear hb2
  go_wp2_with fail
  refine (holds_any 179 180 _).mono ?_
  rintro e w3 ⟨rfl, rfl⟩
  rw [show decide ((179 : Int) < 180) = true by decide]
  go_wp2_with fail
  refine (holds_any 180 180 _).mono ?_
  rintro e w3 ⟨rfl, rfl⟩
  rw [show decide ((180 : Int) < 180) = false by decide]
  go_wp2_with fail
  refine (gone_any 202 203 _).mono ?_
  rintro e w3 ⟨rfl, rfl⟩
  rw [show decide ((203 : Int) ≤ 202) = false by decide]
  go_wp2_with fail
  refine (gone_any 203 203 _).mono ?_
  rintro e w3 ⟨rfl, rfl⟩
  rw [show decide ((203 : Int) ≤ 203) = true by decide]
  go_wp2_with fail
  go_ret
  exact ⟨rfl, HB2.out⟩
end Go.Proofs.Ytgaebjnmcgmkfaa
