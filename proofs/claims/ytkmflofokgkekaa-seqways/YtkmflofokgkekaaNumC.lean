/-
  Contracts of Mul, of the program and of the document's answers, for all numbers of 64 bits.
-/
import Derived.Test.YtkmflofokgkekaaNumB
namespace Go.Proofs.Ytkmflofokgkekaa
open Go.ChangeShapes Go.WideShapes Go.ChangeAt Go.RowKit
set_option linter.unusedVariables false

/-- The magnitudes' product with the sign that two numbers make is their product. -/
theorem sign_mul (a b : Int) : (if (!(decide (a < 0) == decide (b < 0))) = true then -((a.natAbs : Int) * (b.natAbs : Int)) else (a.natAbs : Int) * (b.natAbs : Int)) = a * b := by
  by_cases ha : a < 0 <;> by_cases hb : b < 0
  · rw [show (a.natAbs : Int) = -a from by omega, show (b.natAbs : Int) = -b from by omega]
    simp [ha, hb, Int.neg_mul_neg]
  · rw [show (a.natAbs : Int) = -a from by omega, show (b.natAbs : Int) = b from by omega]
    simp [ha, hb, Int.neg_mul]
  · rw [show (a.natAbs : Int) = a from by omega, show (b.natAbs : Int) = -b from by omega]
    simp [ha, hb, Int.mul_neg]
  · rw [show (a.natAbs : Int) = a from by omega, show (b.natAbs : Int) = b from by omega]
    simp [ha, hb]

theorem abs_mul (a b : Int) (a1 : -9223372036854775808 ≤ a) (a2 : a ≤ 9223372036854775807) (b1 : -9223372036854775808 ≤ b) (b2 : b ≤ 9223372036854775807) :
    0 ≤ (a.natAbs : Int) * (b.natAbs : Int) ∧ (a.natAbs : Int) * (b.natAbs : Int) ≤ 85070591730234615865843651857942052864 := by
  have h := Nat.mul_le_mul (show a.natAbs ≤ 9223372036854775808 by omega) (show b.natAbs ≤ 9223372036854775808 by omega)
  rw [← Int.natCast_mul]
  omega

theorem signed_mul (a b : Int) (w : World) (a1 : -9223372036854775808 ≤ a) (a2 : a ≤ 9223372036854775807) (b1 : -9223372036854775808 ≤ b) (b2 : b ≤ 9223372036854775807) :
    Calls Try.prog 94 #[.agg #[.int .u64 ((a.natAbs : Int) * (b.natAbs : Int) / 18446744073709551616), .int .u64 ((a.natAbs : Int) * (b.natAbs : Int) % 18446744073709551616)], .bool (!(decide (a < 0) == decide (b < 0)))] w
      fun e w' => e = .returned (.tuple #[.int .i64 (told (a * b)), .bool (fits (a * b))]) ∧ Below w.heap.size w w' := by
  have hm := abs_mul a b a1 a2 b1 b2
  have h := signed_any ((a.natAbs : Int) * (b.natAbs : Int)) (!(decide (a < 0) == decide (b < 0))) w hm.1 hm.2
  rw [sign_mul] at h
  exact h

set_option maxHeartbeats 400000 in
theorem mul_any (a b : Int) (w : World) (a1 : -9223372036854775808 ≤ a) (a2 : a ≤ 9223372036854775807) (b1 : -9223372036854775808 ≤ b) (b2 : b ≤ 9223372036854775807) :
    Calls Try.prog 89 #[.int .i64 a, .int .i64 b] w fun e w' => e = .returned (.tuple #[.int .i64 (told (a * b)), .bool (fits (a * b))]) ∧ Below w.heap.size w w' := by
  go_enter Try.func89, Try.ntmps89
  go_wp2_with fail
  refine (mag_any a _ a1 a2).mono ?_
  rintro e w' ⟨rfl, rfl⟩
  go_wp2_with fail
  refine (mag_any b _ b1 b2).mono ?_
  rintro e w' ⟨rfl, rfl⟩
  go_wp2_with fail
  refine (product_any _ _ _ (by omega) (by omega) (by omega) (by omega)).mono ?_
  rintro e w1 ⟨rfl, G1⟩
  have GH := Lib.hid G1
  clear G1
  go_wp2_with fail
  refine (signed_mul a b _ a1 a2 b1 b2).mono ?_
  rintro e w2 ⟨rfl, G2⟩
  have GK := Lib.hid G2
  clear G2
  go_wp2
  go_ret2
  exact ⟨rfl, GH.out.trans (GK.out.mono GH.out.size)⟩

set_option maxHeartbeats 400000 in
theorem rmul_zero (a b : Int) (w : World) (h : a = 0 ∨ b = 0) :
    Calls Try.prog 90 #[.int .i64 a, .int .i64 b] w fun e w' => e = .returned (.tuple #[.int .i64 0, .bool true]) ∧ w = w' := by
  by_cases ha : a = 0
  · subst ha
    clear h
    go_enter Try.func90, Try.ntmps90
    go_wp2
    go_ret2
    exact ⟨rfl, rfl⟩
  · obtain rfl : b = 0 := by omega
    have ha' : (a == 0) = false := by simpa using ha
    clear h ha
    go_enter Try.func90, Try.ntmps90
    go_wp2
    go_ret2
    exact ⟨rfl, rfl⟩

set_option maxHeartbeats 400000 in
theorem rmul_oneA (b : Int) (w : World) (b1 : -9223372036854775808 < b) (b2 : b ≤ 9223372036854775807) (hb : (b == 0) = false) :
    Calls Try.prog 90 #[.int .i64 (-1), .int .i64 b] w fun e w' => e = .returned (.tuple #[.int .i64 (-b), .bool true]) ∧ w = w' := by
  have hl : (b == -9223372036854775808) = false := by simp; omega
  go_enter Try.func90, Try.ntmps90
  go_wp2
  all_goals (go_ret2; exact ⟨rfl, rfl⟩)

set_option maxHeartbeats 400000 in
theorem rmul_oneB (a : Int) (w : World) (a1 : -9223372036854775808 < a) (a2 : a ≤ 9223372036854775807) (ha : (a == 0) = false) (ha' : (a == -1) = false) :
    Calls Try.prog 90 #[.int .i64 a, .int .i64 (-1)] w fun e w' => e = .returned (.tuple #[.int .i64 (-a), .bool true]) ∧ w = w' := by
  have hl : (a == -9223372036854775808) = false := by simp; omega
  go_enter Try.func90, Try.ntmps90
  go_wp2
  all_goals (go_ret2; exact ⟨rfl, rfl⟩)

set_option maxHeartbeats 400000 in
theorem rmul_leastA (w : World) :
    Calls Try.prog 90 #[.int .i64 (-1), .int .i64 (-9223372036854775808)] w fun e w' => e = .returned (.tuple #[.int .i64 0, .bool false]) ∧ w = w' := by
  go_enter Try.func90, Try.ntmps90
  go_wp2
  all_goals (go_ret2; exact ⟨rfl, rfl⟩)

set_option maxHeartbeats 400000 in
theorem rmul_leastB (w : World) :
    Calls Try.prog 90 #[.int .i64 (-9223372036854775808), .int .i64 (-1)] w fun e w' => e = .returned (.tuple #[.int .i64 0, .bool false]) ∧ w = w' := by
  go_enter Try.func90, Try.ntmps90
  go_wp2
  all_goals (go_ret2; exact ⟨rfl, rfl⟩)

set_option maxHeartbeats 400000 in
theorem rmul_gen_yes (a b : Int) (w : World) (ha : (a == 0) = false) (hb : (b == 0) = false) (ha' : (a == -1) = false) (hb' : (b == -1) = false) (hbz : ¬ b = 0)
    (ht : (wrap64 ((wrap64 (a * b)).tdiv b) != a) = false) :
    Calls Try.prog 90 #[.int .i64 a, .int .i64 b] w fun e w' => e = .returned (.tuple #[.int .i64 (wrap64 (a * b)), .bool true]) ∧ w = w' := by
  go_enter Try.func90, Try.ntmps90
  go_wp2
  go_ret2
  exact ⟨rfl, rfl⟩

set_option maxHeartbeats 400000 in
theorem rmul_gen_no (a b : Int) (w : World) (ha : (a == 0) = false) (hb : (b == 0) = false) (ha' : (a == -1) = false) (hb' : (b == -1) = false) (hbz : ¬ b = 0)
    (ht : (wrap64 ((wrap64 (a * b)).tdiv b) != a) = true) :
    Calls Try.prog 90 #[.int .i64 a, .int .i64 b] w fun e w' => e = .returned (.tuple #[.int .i64 0, .bool false]) ∧ w = w' := by
  go_enter Try.func90, Try.ntmps90
  go_wp2
  go_ret2
  exact ⟨rfl, rfl⟩

theorem test_yes (a b : Int) (a1 : -9223372036854775808 ≤ a) (a2 : a ≤ 9223372036854775807) (hb : b ≠ 0)
    (h1 : -9223372036854775808 ≤ a * b) (h2 : a * b ≤ 9223372036854775807) : (wrap64 ((wrap64 (a * b)).tdiv b) != a) = false := by
  rw [IntWalk.wrap64_in _ ⟨h1, h2⟩, Int.mul_tdiv_cancel a hb, IntWalk.wrap64_in _ ⟨a1, a2⟩]
  simp

theorem test_no (a b : Int) (a1 : -9223372036854775808 ≤ a) (a2 : a ≤ 9223372036854775807) (b1 : -9223372036854775808 ≤ b) (b2 : b ≤ 9223372036854775807) (hb : b ≠ 0) (hb' : b ≠ -1)
    (h : a * b < -9223372036854775808 ∨ 9223372036854775807 < a * b) : (wrap64 ((wrap64 (a * b)).tdiv b) != a) = true := by
  have hb1 : b ≠ 1 := by intro e; subst e; omega
  obtain ⟨p, hp⟩ : ∃ p, wrap64 (a * b) = p := ⟨_, rfl⟩
  obtain ⟨m, hm⟩ : ∃ m, a * b = m := ⟨_, rfl⟩
  rw [hm] at hp h ⊢
  have hpb : -9223372036854775808 ≤ p ∧ p ≤ 9223372036854775807 ∧ (p - m ≤ -18446744073709551616 ∨ 18446744073709551616 ≤ p - m) := by
    rw [← hp]; unfold wrap64; omega
  rw [hp]
  have e3 := Int.mul_tdiv_add_tmod p b
  have k1 : (p.tdiv b).natAbs ≤ p.natAbs / 2 := by rw [Int.natAbs_tdiv]; exact Nat.div_le_div_left (by omega) (by omega)
  have k2 : (p.tmod b).natAbs < b.natAbs := by rw [Int.natAbs_tmod]; exact Nat.mod_lt _ (by omega)
  generalize p.tdiv b = q at *
  generalize p.tmod b = r at *
  rw [IntWalk.wrap64_in q (by omega)]
  simp only [bne_iff_ne, ne_eq]
  intro e
  subst e
  rw [Int.mul_comm b q, hm] at e3
  omega

/-- The document's Mul: the product where it is a number of 64 bits, else 0 and false. -/
theorem rmul_any (a b : Int) (w : World) (a1 : -9223372036854775808 ≤ a) (a2 : a ≤ 9223372036854775807) (b1 : -9223372036854775808 ≤ b) (b2 : b ≤ 9223372036854775807) :
    Calls Try.prog 90 #[.int .i64 a, .int .i64 b] w fun e w' => e = .returned (.tuple #[.int .i64 (told (a * b)), .bool (fits (a * b))]) ∧ w = w' := by
  by_cases z : a = 0 ∨ b = 0
  · have e : a * b = 0 := by rcases z with rfl | rfl <;> simp
    rw [e, told_yes (by omega) (by omega), fits_yes (by omega) (by omega)]
    exact rmul_zero a b w z
  have za : (a == 0) = false := by simp; omega
  have zb : (b == 0) = false := by simp; omega
  by_cases oa : a = -1
  · subst oa
    rw [show -1 * b = -b from by omega]
    by_cases l : b = -9223372036854775808
    · subst l
      rw [told_no (by omega), fits_no (by omega)]
      exact rmul_leastA w
    · rw [told_yes (by omega) (by omega), fits_yes (by omega) (by omega)]
      exact rmul_oneA b w (by omega) b2 zb
  have oa' : (a == -1) = false := by simpa using oa
  by_cases ob : b = -1
  · subst ob
    rw [show a * -1 = -a from by omega]
    by_cases l : a = -9223372036854775808
    · subst l
      rw [told_no (by omega), fits_no (by omega)]
      exact rmul_leastB w
    · rw [told_yes (by omega) (by omega), fits_yes (by omega) (by omega)]
      exact rmul_oneB a w (by omega) a2 za oa'
  have ob' : (b == -1) = false := by simpa using ob
  by_cases f : -9223372036854775808 ≤ a * b ∧ a * b ≤ 9223372036854775807
  · have h := rmul_gen_yes a b w za zb oa' ob' (by omega) (test_yes a b a1 a2 (by omega) f.1 f.2)
    rw [told_yes f.1 f.2, fits_yes f.1 f.2]
    rw [IntWalk.wrap64_in _ f] at h
    exact h
  · rw [told_no (by omega), fits_no (by omega)]
    exact rmul_gen_no a b w za zb oa' ob' (by omega) (test_no a b a1 a2 b1 b2 (by omega) ob (by omega))

end Go.Proofs.Ytkmflofokgkekaa
