/-
  Contracts of Ratio, of the program (function 16) and of the document's answers (17), for all numbers of 64 bits, and of the examples (function 11), which come out true.
-/
import Derived.Test.YtaghepnbbegmhaaWalksA
import Derived.Test.YtaghepnbbegmhaaWalksC
namespace Go.Proofs.Ytaghepnbbegmhaa
open Go.ChangeShapes Go.WideShapes Go.ChangeAt Go.RowKit
set_option linter.unusedVariables false

/-- A quotient that is told. -/
def quoV (a b d : Int) : Int := if 1 ≤ d ∧ fits (a * b) = true then wrap64 ((told (a * b)).tdiv d) else 0
def quoB (a b d : Int) : Bool := decide (1 ≤ d) && fits (a * b)

set_option maxHeartbeats 400000 in
theorem ratio_any (a b d : Int) (w : World) (a1 : -9223372036854775808 ≤ a) (a2 : a ≤ 9223372036854775807) (b1 : -9223372036854775808 ≤ b) (b2 : b ≤ 9223372036854775807) (d1 : -9223372036854775808 ≤ d) (d2 : d ≤ 9223372036854775807) :
    Calls Try.prog 16 #[.int .i64 a, .int .i64 b, .int .i64 d] w fun e w' => e = .returned (.tuple #[.int .i64 (quoV a b d), .bool (quoB a b d)]) ∧ Grown w w' := by
  by_cases hd : d < 1
  · have e1 : quoV a b d = 0 := by unfold quoV; rw [if_neg (by omega)]
    have e2 : quoB a b d = false := by unfold quoB; simp; omega
    rw [e1, e2]
    clear e1 e2
    go_enter Try.func16, Try.ntmps16
    go_wp2
    go_ret2
    exact ⟨rfl, Grown.refl _⟩
  · have hz : ¬ d = 0 := by omega
    by_cases hf : fits (a * b) = true
    · have e1 : quoV a b d = wrap64 ((told (a * b)).tdiv d) := by unfold quoV; rw [if_pos ⟨by omega, hf⟩]
      have e2 : quoB a b d = true := by unfold quoB; simp [hf]; omega
      rw [e1, e2]
      clear e1 e2
      go_enter Try.func16, Try.ntmps16
      go_wp2_with fail
      refine (mul_any a b _ a1 a2 b1 b2).mono ?_
      rintro e w1 ⟨rfl, G1⟩
      have GH := Lib.hid G1
      clear G1
      go_wp2
      go_ret2
      exact ⟨rfl, GH.out⟩
    · have hf' : fits (a * b) = false := by simpa using hf
      clear hf
      have e1 : quoV a b d = 0 := by unfold quoV; rw [if_neg (by simp [hf'])]
      have e2 : quoB a b d = false := by unfold quoB; simp [hf']
      rw [e1, e2]
      clear e1 e2
      go_enter Try.func16, Try.ntmps16
      go_wp2_with fail
      refine (mul_any a b _ a1 a2 b1 b2).mono ?_
      rintro e w1 ⟨rfl, G1⟩
      have GH := Lib.hid G1
      clear G1
      go_wp2
      go_ret2
      exact ⟨rfl, GH.out⟩

set_option maxHeartbeats 400000 in
theorem rratio_any (a b d : Int) (w : World) (a1 : -9223372036854775808 ≤ a) (a2 : a ≤ 9223372036854775807) (b1 : -9223372036854775808 ≤ b) (b2 : b ≤ 9223372036854775807) (d1 : -9223372036854775808 ≤ d) (d2 : d ≤ 9223372036854775807) :
    Calls Try.prog 17 #[.int .i64 a, .int .i64 b, .int .i64 d] w fun e w' => e = .returned (.tuple #[.int .i64 (quoV a b d), .bool (quoB a b d)]) ∧ w = w' := by
  by_cases hd : d < 1
  · have e1 : quoV a b d = 0 := by unfold quoV; rw [if_neg (by omega)]
    have e2 : quoB a b d = false := by unfold quoB; simp; omega
    rw [e1, e2]
    clear e1 e2
    go_enter Try.func17, Try.ntmps17
    go_wp2
    go_ret2
    exact ⟨rfl, rfl⟩
  · have hz : ¬ d = 0 := by omega
    by_cases hf : fits (a * b) = true
    · have e1 : quoV a b d = wrap64 ((told (a * b)).tdiv d) := by unfold quoV; rw [if_pos ⟨by omega, hf⟩]
      have e2 : quoB a b d = true := by unfold quoB; simp [hf]; omega
      rw [e1, e2]
      clear e1 e2
      go_enter Try.func17, Try.ntmps17
      go_wp2_with fail
      refine (rmul_any a b _ a1 a2 b1 b2).mono ?_
      rintro e w1 ⟨rfl, rfl⟩
      go_wp2
      go_ret2
      exact ⟨rfl, rfl⟩
    · have hf' : fits (a * b) = false := by simpa using hf
      clear hf
      have e1 : quoV a b d = 0 := by unfold quoV; rw [if_neg (by simp [hf'])]
      have e2 : quoB a b d = false := by unfold quoB; simp [hf']
      rw [e1, e2]
      clear e1 e2
      go_enter Try.func17, Try.ntmps17
      go_wp2_with fail
      refine (rmul_any a b _ a1 a2 b1 b2).mono ?_
      rintro e w1 ⟨rfl, rfl⟩
      go_wp2
      go_ret2
      exact ⟨rfl, rfl⟩

theorem k_add (w : World) : Calls Try.prog 9 #[.int .i64 2, .int .i64 3] w fun e w' => e = .returned (.tuple #[.int .i64 5, .bool true]) ∧ w = w' :=
  add_yes 2 3 w (by decide) (by decide) (by decide) (by decide) (by decide) (by decide)
theorem k_mul (w : World) : Calls Try.prog 14 #[.int .i64 (-4294967296), .int .i64 2147483648] w fun e w' => e = .returned (.tuple #[.int .i64 (-9223372036854775808), .bool true]) ∧ Grown w w' := by
  have h := mul_any (-4294967296) 2147483648 w (by decide) (by decide) (by decide) (by decide)
  rw [show (-4294967296 : Int) * 2147483648 = -9223372036854775808 from by decide, told_yes (by decide) (by decide), fits_yes (by decide) (by decide)] at h
  exact h
theorem k_ratio (w : World) : Calls Try.prog 16 #[.int .i64 1000000, .int .i64 85, .int .i64 100] w fun e w' => e = .returned (.tuple #[.int .i64 850000, .bool true]) ∧ Grown w w' := by
  have h := ratio_any 1000000 85 100 w (by decide) (by decide) (by decide) (by decide) (by decide) (by decide)
  rw [show quoV 1000000 85 100 = 850000 from by kernel_rfl, show quoB 1000000 85 100 = true from by kernel_rfl] at h
  exact h
theorem k_sub (w : World) : Calls Try.prog 12 #[.int .i64 (-9223372036854775808), .int .i64 1] w fun e w' => e = .returned (.tuple #[.int .i64 0, .bool false]) ∧ w = w' :=
  sub_no (-9223372036854775808) 1 w (by decide) (by decide) (by decide) (by decide) (by decide)

set_option maxHeartbeats 400000 in
theorem knows_any (w : World) : Calls Try.prog 11 #[] w fun e w' => e = .returned (.bool true) ∧ Grown w w' := by
  go_enter Try.func11, Try.ntmps11
  go_wp2_with fail
  refine (k_add _).mono ?_
  rintro e w' ⟨rfl, rfl⟩
  go_wp2_with fail
  refine (k_mul _).mono ?_
  rintro e w1 ⟨rfl, G1⟩
  have GH := Lib.hid G1
  clear G1
  go_wp2_with fail
  refine (k_ratio _).mono ?_
  rintro e w2 ⟨rfl, G2⟩
  have GK := Lib.hid G2
  clear G2
  go_wp2_with fail
  refine (k_sub _).mono ?_
  rintro e w' ⟨rfl, rfl⟩
  go_wp2
  go_ret
  exact ⟨rfl, grown_trans GH.out GK.out⟩

end Go.Proofs.Ytaghepnbbegmhaa
