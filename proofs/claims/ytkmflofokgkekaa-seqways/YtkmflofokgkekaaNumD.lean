/-
  Contracts of Ratio, of the program and of the document's answers, for all numbers of 64 bits.
-/
import Derived.Test.YtkmflofokgkekaaNumA
import Derived.Test.YtkmflofokgkekaaNumC
namespace Go.Proofs.Ytkmflofokgkekaa
open Go.ChangeShapes Go.WideShapes Go.ChangeAt Go.RowKit
set_option linter.unusedVariables false

/-- A quotient that is told. -/
def quoV (a b d : Int) : Int := if 1 ≤ d ∧ fits (a * b) = true then wrap64 ((told (a * b)).tdiv d) else 0
def quoB (a b d : Int) : Bool := decide (1 ≤ d) && fits (a * b)

set_option maxHeartbeats 400000 in
theorem ratio_any (a b d : Int) (w : World) (a1 : -9223372036854775808 ≤ a) (a2 : a ≤ 9223372036854775807) (b1 : -9223372036854775808 ≤ b) (b2 : b ≤ 9223372036854775807) (d1 : -9223372036854775808 ≤ d) (d2 : d ≤ 9223372036854775807) :
    Calls Try.prog 83 #[.int .i64 a, .int .i64 b, .int .i64 d] w fun e w' => e = .returned (.tuple #[.int .i64 (quoV a b d), .bool (quoB a b d)]) ∧ Below w.heap.size w w' := by
  by_cases hd : d < 1
  · have e1 : quoV a b d = 0 := by unfold quoV; rw [if_neg (by omega)]
    have e2 : quoB a b d = false := by unfold quoB; simp; omega
    rw [e1, e2]
    clear e1 e2
    go_enter Try.func83, Try.ntmps83
    go_wp2
    go_ret2
    exact ⟨rfl, Below.refl _ _⟩
  · have hz : ¬ d = 0 := by omega
    by_cases hf : fits (a * b) = true
    · have e1 : quoV a b d = wrap64 ((told (a * b)).tdiv d) := by unfold quoV; rw [if_pos ⟨by omega, hf⟩]
      have e2 : quoB a b d = true := by unfold quoB; simp [hf]; omega
      rw [e1, e2]
      clear e1 e2
      go_enter Try.func83, Try.ntmps83
      go_wp2_with fail
      refine (mul_any a b _ a1 a2 b1 b2).mono ?_
      rintro e w1 ⟨rfl, G1⟩
      have GH := Lib.hid G1
      clear G1
      go_wp2
      go_ret2
      exact ⟨rfl, GH.out⟩
    · have hf' : fits (a * b) = false := by simpa using hf
      clear hf
      have e1 : quoV a b d = 0 := by unfold quoV; rw [if_neg (by simp [hf'])]
      have e2 : quoB a b d = false := by unfold quoB; simp [hf']
      rw [e1, e2]
      clear e1 e2
      go_enter Try.func83, Try.ntmps83
      go_wp2_with fail
      refine (mul_any a b _ a1 a2 b1 b2).mono ?_
      rintro e w1 ⟨rfl, G1⟩
      have GH := Lib.hid G1
      clear G1
      go_wp2
      go_ret2
      exact ⟨rfl, GH.out⟩

set_option maxHeartbeats 400000 in
theorem rratio_any (a b d : Int) (w : World) (a1 : -9223372036854775808 ≤ a) (a2 : a ≤ 9223372036854775807) (b1 : -9223372036854775808 ≤ b) (b2 : b ≤ 9223372036854775807) (d1 : -9223372036854775808 ≤ d) (d2 : d ≤ 9223372036854775807) :
    Calls Try.prog 84 #[.int .i64 a, .int .i64 b, .int .i64 d] w fun e w' => e = .returned (.tuple #[.int .i64 (quoV a b d), .bool (quoB a b d)]) ∧ w = w' := by
  by_cases hd : d < 1
  · have e1 : quoV a b d = 0 := by unfold quoV; rw [if_neg (by omega)]
    have e2 : quoB a b d = false := by unfold quoB; simp; omega
    rw [e1, e2]
    clear e1 e2
    go_enter Try.func84, Try.ntmps84
    go_wp2
    go_ret2
    exact ⟨rfl, rfl⟩
  · have hz : ¬ d = 0 := by omega
    by_cases hf : fits (a * b) = true
    · have e1 : quoV a b d = wrap64 ((told (a * b)).tdiv d) := by unfold quoV; rw [if_pos ⟨by omega, hf⟩]
      have e2 : quoB a b d = true := by unfold quoB; simp [hf]; omega
      rw [e1, e2]
      clear e1 e2
      go_enter Try.func84, Try.ntmps84
      go_wp2_with fail
      refine (rmul_any a b _ a1 a2 b1 b2).mono ?_
      rintro e w1 ⟨rfl, rfl⟩
      go_wp2
      go_ret2
      exact ⟨rfl, rfl⟩
    · have hf' : fits (a * b) = false := by simpa using hf
      clear hf
      have e1 : quoV a b d = 0 := by unfold quoV; rw [if_neg (by simp [hf'])]
      have e2 : quoB a b d = false := by unfold quoB; simp [hf']
      rw [e1, e2]
      clear e1 e2
      go_enter Try.func84, Try.ntmps84
      go_wp2_with fail
      refine (rmul_any a b _ a1 a2 b1 b2).mono ?_
      rintro e w1 ⟨rfl, rfl⟩
      go_wp2
      go_ret2
      exact ⟨rfl, rfl⟩

end Go.Proofs.Ytkmflofokgkekaa
