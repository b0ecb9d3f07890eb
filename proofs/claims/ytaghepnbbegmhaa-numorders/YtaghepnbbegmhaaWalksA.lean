/-
  Contracts of Add and Sub, of the program (functions 9 and 12) and of the document's answers (functions 10 and 13): the sum, the difference and true where it is a number of 64 bits, else 0 and false. No condition.
-/
import Derived.Test.YtaghepnbbegmhaaWalksB
namespace Go.Proofs.Ytaghepnbbegmhaa
open Go.ChangeShapes Go.WideShapes Go.ChangeAt Go.RowKit
set_option linter.unusedVariables false

set_option maxHeartbeats 400000 in
theorem add_yes (a b : Int) (w : World) (a1 : -9223372036854775808 ≤ a) (a2 : a ≤ 9223372036854775807) (b1 : -9223372036854775808 ≤ b) (b2 : b ≤ 9223372036854775807)
    (h1 : -9223372036854775808 ≤ a + b) (h2 : a + b ≤ 9223372036854775807) :
    Calls Try.prog 9 #[.int .i64 a, .int .i64 b] w fun e w' => e = .returned (.tuple #[.int .i64 (a + b), .bool true]) ∧ w = w' := by
  by_cases hb : 0 < b
  · go_enter Try.func9, Try.ntmps9
    go_wp2
    all_goals first
      | (go_ret2; exact ⟨rfl, rfl⟩)
      | (exfalso; simp_all; omega)
  · go_enter Try.func9, Try.ntmps9
    go_wp2
    all_goals first
      | (go_ret2; exact ⟨rfl, rfl⟩)
      | (exfalso; simp_all; omega)

set_option maxHeartbeats 400000 in
theorem add_no (a b : Int) (w : World) (a1 : -9223372036854775808 ≤ a) (a2 : a ≤ 9223372036854775807) (b1 : -9223372036854775808 ≤ b) (b2 : b ≤ 9223372036854775807)
    (h1 : a + b < -9223372036854775808 ∨ 9223372036854775807 < a + b) :
    Calls Try.prog 9 #[.int .i64 a, .int .i64 b] w fun e w' => e = .returned (.tuple #[.int .i64 0, .bool false]) ∧ w = w' := by
  rcases h1 with h1 | h1
  · have hb : ¬ 0 < b := by omega
    have hx : a < wrap64 (a + b) := by unfold wrap64; omega
    go_enter Try.func9, Try.ntmps9
    go_wp2
    all_goals (go_ret2; exact ⟨rfl, rfl⟩)
  · have hb : 0 < b := by omega
    have hx : ¬ a < wrap64 (a + b) := by unfold wrap64; omega
    go_enter Try.func9, Try.ntmps9
    go_wp2
    all_goals (go_ret2; exact ⟨rfl, rfl⟩)

set_option maxHeartbeats 400000 in
theorem radd_yes (a b : Int) (w : World) (a1 : -9223372036854775808 ≤ a) (a2 : a ≤ 9223372036854775807) (b1 : -9223372036854775808 ≤ b) (b2 : b ≤ 9223372036854775807)
    (h1 : -9223372036854775808 ≤ a + b) (h2 : a + b ≤ 9223372036854775807) :
    Calls Try.prog 10 #[.int .i64 a, .int .i64 b] w fun e w' => e = .returned (.tuple #[.int .i64 (a + b), .bool true]) ∧ w = w' := by
  by_cases hb : 0 < b
  · have hb' : ¬ b < 0 := by omega
    go_enter Try.func10, Try.ntmps10
    go_wp2
    all_goals (go_ret2; exact ⟨rfl, rfl⟩)
  · by_cases hb' : b < 0
    all_goals
      go_enter Try.func10, Try.ntmps10
      go_wp2
      all_goals (go_ret2; exact ⟨rfl, rfl⟩)

set_option maxHeartbeats 400000 in
theorem radd_no (a b : Int) (w : World) (a1 : -9223372036854775808 ≤ a) (a2 : a ≤ 9223372036854775807) (b1 : -9223372036854775808 ≤ b) (b2 : b ≤ 9223372036854775807)
    (h1 : a + b < -9223372036854775808 ∨ 9223372036854775807 < a + b) :
    Calls Try.prog 10 #[.int .i64 a, .int .i64 b] w fun e w' => e = .returned (.tuple #[.int .i64 0, .bool false]) ∧ w = w' := by
  rcases h1 with h1 | h1
  · have hb : ¬ 0 < b := by omega
    have hb' : b < 0 := by omega
    go_enter Try.func10, Try.ntmps10
    go_wp2
    all_goals (go_ret2; exact ⟨rfl, rfl⟩)
  · have hb : 0 < b := by omega
    have hb' : ¬ b < 0 := by omega
    go_enter Try.func10, Try.ntmps10
    go_wp2
    all_goals (go_ret2; exact ⟨rfl, rfl⟩)

theorem add_any (a b : Int) (w : World) (a1 : -9223372036854775808 ≤ a) (a2 : a ≤ 9223372036854775807) (b1 : -9223372036854775808 ≤ b) (b2 : b ≤ 9223372036854775807) :
    Calls Try.prog 9 #[.int .i64 a, .int .i64 b] w fun e w' => e = .returned (.tuple #[.int .i64 (told (a + b)), .bool (fits (a + b))]) ∧ w = w' := by
  by_cases h : -9223372036854775808 ≤ a + b ∧ a + b ≤ 9223372036854775807
  · rw [told_yes h.1 h.2, fits_yes h.1 h.2]; exact add_yes a b w a1 a2 b1 b2 h.1 h.2
  · rw [told_no (by omega), fits_no (by omega)]; exact add_no a b w a1 a2 b1 b2 (by omega)

theorem radd_any (a b : Int) (w : World) (a1 : -9223372036854775808 ≤ a) (a2 : a ≤ 9223372036854775807) (b1 : -9223372036854775808 ≤ b) (b2 : b ≤ 9223372036854775807) :
    Calls Try.prog 10 #[.int .i64 a, .int .i64 b] w fun e w' => e = .returned (.tuple #[.int .i64 (told (a + b)), .bool (fits (a + b))]) ∧ w = w' := by
  by_cases h : -9223372036854775808 ≤ a + b ∧ a + b ≤ 9223372036854775807
  · rw [told_yes h.1 h.2, fits_yes h.1 h.2]; exact radd_yes a b w a1 a2 b1 b2 h.1 h.2
  · rw [told_no (by omega), fits_no (by omega)]; exact radd_no a b w a1 a2 b1 b2 (by omega)

set_option maxHeartbeats 400000 in
theorem sub_yes (a b : Int) (w : World) (a1 : -9223372036854775808 ≤ a) (a2 : a ≤ 9223372036854775807) (b1 : -9223372036854775808 ≤ b) (b2 : b ≤ 9223372036854775807)
    (h1 : -9223372036854775808 ≤ a - b) (h2 : a - b ≤ 9223372036854775807) :
    Calls Try.prog 12 #[.int .i64 a, .int .i64 b] w fun e w' => e = .returned (.tuple #[.int .i64 (a - b), .bool true]) ∧ w = w' := by
  by_cases hb : 0 < b
  · have hx : a - b < a := by omega
    go_enter Try.func12, Try.ntmps12
    go_wp2
    all_goals first
      | (go_ret2; exact ⟨rfl, rfl⟩)
      | (exfalso; simp_all; omega)
  · have hx : ¬ a - b < a := by omega
    go_enter Try.func12, Try.ntmps12
    go_wp2
    all_goals first
      | (go_ret2; exact ⟨rfl, rfl⟩)
      | (exfalso; simp_all; omega)

set_option maxHeartbeats 400000 in
theorem sub_no (a b : Int) (w : World) (a1 : -9223372036854775808 ≤ a) (a2 : a ≤ 9223372036854775807) (b1 : -9223372036854775808 ≤ b) (b2 : b ≤ 9223372036854775807)
    (h1 : a - b < -9223372036854775808 ∨ 9223372036854775807 < a - b) :
    Calls Try.prog 12 #[.int .i64 a, .int .i64 b] w fun e w' => e = .returned (.tuple #[.int .i64 0, .bool false]) ∧ w = w' := by
  rcases h1 with h1 | h1
  · have hb : 0 < b := by omega
    have hx : ¬ wrap64 (a - b) < a := by unfold wrap64; omega
    go_enter Try.func12, Try.ntmps12
    go_wp2
    all_goals (go_ret2; exact ⟨rfl, rfl⟩)
  · have hb : ¬ 0 < b := by omega
    have hx : wrap64 (a - b) < a := by unfold wrap64; omega
    go_enter Try.func12, Try.ntmps12
    go_wp2
    all_goals (go_ret2; exact ⟨rfl, rfl⟩)

set_option maxHeartbeats 400000 in
theorem rsub_yes (a b : Int) (w : World) (a1 : -9223372036854775808 ≤ a) (a2 : a ≤ 9223372036854775807) (b1 : -9223372036854775808 ≤ b) (b2 : b ≤ 9223372036854775807)
    (h1 : -9223372036854775808 ≤ a - b) (h2 : a - b ≤ 9223372036854775807) :
    Calls Try.prog 13 #[.int .i64 a, .int .i64 b] w fun e w' => e = .returned (.tuple #[.int .i64 (a - b), .bool true]) ∧ w = w' := by
  by_cases hb : 0 < b
  · have hb' : ¬ b < 0 := by omega
    have hx : ¬ a < -9223372036854775808 + b := by omega
    go_enter Try.func13, Try.ntmps13
    go_wp2
    all_goals (go_ret2; exact ⟨rfl, rfl⟩)
  · by_cases hb' : b < 0
    · have hx : ¬ 9223372036854775807 + b < a := by omega
      go_enter Try.func13, Try.ntmps13
      go_wp2
      all_goals (go_ret2; exact ⟨rfl, rfl⟩)
    · go_enter Try.func13, Try.ntmps13
      go_wp2
      all_goals (go_ret2; exact ⟨rfl, rfl⟩)

set_option maxHeartbeats 400000 in
theorem rsub_no (a b : Int) (w : World) (a1 : -9223372036854775808 ≤ a) (a2 : a ≤ 9223372036854775807) (b1 : -9223372036854775808 ≤ b) (b2 : b ≤ 9223372036854775807)
    (h1 : a - b < -9223372036854775808 ∨ 9223372036854775807 < a - b) :
    Calls Try.prog 13 #[.int .i64 a, .int .i64 b] w fun e w' => e = .returned (.tuple #[.int .i64 0, .bool false]) ∧ w = w' := by
  rcases h1 with h1 | h1
  · have hb : 0 < b := by omega
    have hb' : ¬ b < 0 := by omega
    have hx : a < -9223372036854775808 + b := by omega
    go_enter Try.func13, Try.ntmps13
    go_wp2
    all_goals (go_ret2; exact ⟨rfl, rfl⟩)
  · have hb : ¬ 0 < b := by omega
    have hb' : b < 0 := by omega
    have hx : 9223372036854775807 + b < a := by omega
    go_enter Try.func13, Try.ntmps13
    go_wp2
    all_goals (go_ret2; exact ⟨rfl, rfl⟩)

theorem sub_any (a b : Int) (w : World) (a1 : -9223372036854775808 ≤ a) (a2 : a ≤ 9223372036854775807) (b1 : -9223372036854775808 ≤ b) (b2 : b ≤ 9223372036854775807) :
    Calls Try.prog 12 #[.int .i64 a, .int .i64 b] w fun e w' => e = .returned (.tuple #[.int .i64 (told (a - b)), .bool (fits (a - b))]) ∧ w = w' := by
  by_cases h : -9223372036854775808 ≤ a - b ∧ a - b ≤ 9223372036854775807
  · rw [told_yes h.1 h.2, fits_yes h.1 h.2]; exact sub_yes a b w a1 a2 b1 b2 h.1 h.2
  · rw [told_no (by omega), fits_no (by omega)]; exact sub_no a b w a1 a2 b1 b2 (by omega)

theorem rsub_any (a b : Int) (w : World) (a1 : -9223372036854775808 ≤ a) (a2 : a ≤ 9223372036854775807) (b1 : -9223372036854775808 ≤ b) (b2 : b ≤ 9223372036854775807) :
    Calls Try.prog 13 #[.int .i64 a, .int .i64 b] w fun e w' => e = .returned (.tuple #[.int .i64 (told (a - b)), .bool (fits (a - b))]) ∧ w = w' := by
  by_cases h : -9223372036854775808 ≤ a - b ∧ a - b ≤ 9223372036854775807
  · rw [told_yes h.1 h.2, fits_yes h.1 h.2]; exact rsub_yes a b w a1 a2 b1 b2 h.1 h.2
  · rw [told_no (by omega), fits_no (by omega)]; exact rsub_no a b w a1 a2 b1 b2 (by omega)

end Go.Proofs.Ytaghepnbbegmhaa
