/-
  Contracts of Add, of the program and of the document's answers: the sum and true where it is a number of 64 bits, else 0 and false. No condition.
-/
import Derived.Test.YtkmflofokgkekaaNumB
namespace Go.Proofs.Ytkmflofokgkekaa
open Go.ChangeShapes Go.WideShapes Go.ChangeAt Go.RowKit
set_option linter.unusedVariables false

set_option maxHeartbeats 400000 in
theorem add_yes (a b : Int) (w : World) (a1 : -9223372036854775808 ≤ a) (a2 : a ≤ 9223372036854775807) (b1 : -9223372036854775808 ≤ b) (b2 : b ≤ 9223372036854775807)
    (h1 : -9223372036854775808 ≤ a + b) (h2 : a + b ≤ 9223372036854775807) :
    Calls Try.prog 66 #[.int .i64 a, .int .i64 b] w fun e w' => e = .returned (.tuple #[.int .i64 (a + b), .bool true]) ∧ w = w' := by
  by_cases hb : 0 < b
  · go_enter Try.func66, Try.ntmps66
    go_wp2
    all_goals first
      | (go_ret2; exact ⟨rfl, rfl⟩)
      | (exfalso; simp_all; omega)
  · go_enter Try.func66, Try.ntmps66
    go_wp2
    all_goals first
      | (go_ret2; exact ⟨rfl, rfl⟩)
      | (exfalso; simp_all; omega)

set_option maxHeartbeats 400000 in
theorem add_no (a b : Int) (w : World) (a1 : -9223372036854775808 ≤ a) (a2 : a ≤ 9223372036854775807) (b1 : -9223372036854775808 ≤ b) (b2 : b ≤ 9223372036854775807)
    (h1 : a + b < -9223372036854775808 ∨ 9223372036854775807 < a + b) :
    Calls Try.prog 66 #[.int .i64 a, .int .i64 b] w fun e w' => e = .returned (.tuple #[.int .i64 0, .bool false]) ∧ w = w' := by
  rcases h1 with h1 | h1
  · have hb : ¬ 0 < b := by omega
    have hx : a < wrap64 (a + b) := by unfold wrap64; omega
    go_enter Try.func66, Try.ntmps66
    go_wp2
    all_goals (go_ret2; exact ⟨rfl, rfl⟩)
  · have hb : 0 < b := by omega
    have hx : ¬ a < wrap64 (a + b) := by unfold wrap64; omega
    go_enter Try.func66, Try.ntmps66
    go_wp2
    all_goals (go_ret2; exact ⟨rfl, rfl⟩)

set_option maxHeartbeats 400000 in
theorem radd_yes (a b : Int) (w : World) (a1 : -9223372036854775808 ≤ a) (a2 : a ≤ 9223372036854775807) (b1 : -9223372036854775808 ≤ b) (b2 : b ≤ 9223372036854775807)
    (h1 : -9223372036854775808 ≤ a + b) (h2 : a + b ≤ 9223372036854775807) :
    Calls Try.prog 85 #[.int .i64 a, .int .i64 b] w fun e w' => e = .returned (.tuple #[.int .i64 (a + b), .bool true]) ∧ w = w' := by
  by_cases hb : 0 < b
  · have hb' : ¬ b < 0 := by omega
    go_enter Try.func85, Try.ntmps85
    go_wp2
    all_goals (go_ret2; exact ⟨rfl, rfl⟩)
  · by_cases hb' : b < 0
    all_goals
      go_enter Try.func85, Try.ntmps85
      go_wp2
      all_goals (go_ret2; exact ⟨rfl, rfl⟩)

set_option maxHeartbeats 400000 in
theorem radd_no (a b : Int) (w : World) (a1 : -9223372036854775808 ≤ a) (a2 : a ≤ 9223372036854775807) (b1 : -9223372036854775808 ≤ b) (b2 : b ≤ 9223372036854775807)
    (h1 : a + b < -9223372036854775808 ∨ 9223372036854775807 < a + b) :
    Calls Try.prog 85 #[.int .i64 a, .int .i64 b] w fun e w' => e = .returned (.tuple #[.int .i64 0, .bool false]) ∧ w = w' := by
  rcases h1 with h1 | h1
  · have hb : ¬ 0 < b := by omega
    have hb' : b < 0 := by omega
    go_enter Try.func85, Try.ntmps85
    go_wp2
    all_goals (go_ret2; exact ⟨rfl, rfl⟩)
  · have hb : 0 < b := by omega
    have hb' : ¬ b < 0 := by omega
    go_enter Try.func85, Try.ntmps85
    go_wp2
    all_goals (go_ret2; exact ⟨rfl, rfl⟩)

theorem add_any (a b : Int) (w : World) (a1 : -9223372036854775808 ≤ a) (a2 : a ≤ 9223372036854775807) (b1 : -9223372036854775808 ≤ b) (b2 : b ≤ 9223372036854775807) :
    Calls Try.prog 66 #[.int .i64 a, .int .i64 b] w fun e w' => e = .returned (.tuple #[.int .i64 (told (a + b)), .bool (fits (a + b))]) ∧ w = w' := by
  by_cases h : -9223372036854775808 ≤ a + b ∧ a + b ≤ 9223372036854775807
  · rw [told_yes h.1 h.2, fits_yes h.1 h.2]; exact add_yes a b w a1 a2 b1 b2 h.1 h.2
  · rw [told_no (by omega), fits_no (by omega)]; exact add_no a b w a1 a2 b1 b2 (by omega)

theorem radd_any (a b : Int) (w : World) (a1 : -9223372036854775808 ≤ a) (a2 : a ≤ 9223372036854775807) (b1 : -9223372036854775808 ≤ b) (b2 : b ≤ 9223372036854775807) :
    Calls Try.prog 85 #[.int .i64 a, .int .i64 b] w fun e w' => e = .returned (.tuple #[.int .i64 (told (a + b)), .bool (fits (a + b))]) ∧ w = w' := by
  by_cases h : -9223372036854775808 ≤ a + b ∧ a + b ≤ 9223372036854775807
  · rw [told_yes h.1 h.2, fits_yes h.1 h.2]; exact radd_yes a b w a1 a2 b1 b2 h.1 h.2
  · rw [told_no (by omega), fits_no (by omega)]; exact radd_no a b w a1 a2 b1 b2 (by omega)

end Go.Proofs.Ytkmflofokgkekaa
