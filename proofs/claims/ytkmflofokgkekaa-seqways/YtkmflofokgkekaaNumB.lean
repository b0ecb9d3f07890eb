/-
  Contracts of the pieces under Mul: magnitude, bits.Mul64, product, signed.
-/
import Derived.Test.YtkmflofokgkekaaBase
import Derived.Test.YtkmflofokgkekaaChecked
import Derived.WalkKit
import Derived.ProofKit
import Derived.OpenShut
import Derived.IntWalk
import Derived.Lib.Mul64
import Derived.Laws.Bits64b
import Derived.Lib.Hide
namespace Go.Proofs.Ytkmflofokgkekaa
open Go.ChangeShapes Go.WideShapes Go.ChangeAt Go.RowKit
set_option linter.unusedVariables false


theorem neg_conv (a : Int) (a1 : -9223372036854775808 ≤ a) (a2 : a < 0) : IntKind.u64.wrap (-IntKind.u64.wrap a) = -a := by
  rw [IntKind.wrap_u64, IntKind.wrap_u64]; omega

set_option maxHeartbeats 400000 in
theorem mag_neg (a : Int) (w : World) (a1 : -9223372036854775808 ≤ a) (a2 : a < 0) :
    Calls Try.prog 96 #[.int .i64 a] w fun e w' => e = .returned (.int .u64 (-a)) ∧ w = w' := by
  go_enter Try.func96, Try.ntmps96
  go_wp2
  go_ret
  exact ⟨ret_int (neg_conv a a1 a2), rfl⟩

set_option maxHeartbeats 400000 in
theorem mag_pos (a : Int) (w : World) (a1 : 0 ≤ a) (a2 : a ≤ 9223372036854775807) :
    Calls Try.prog 96 #[.int .i64 a] w fun e w' => e = .returned (.int .u64 a) ∧ w = w' := by
  have a3 : ¬ a < 0 := by omega
  go_enter Try.func96, Try.ntmps96
  go_wp2
  go_ret
  exact ⟨rfl, rfl⟩

theorem mask32 (n : Nat) (h : n < 18446744073709551616) : bits .and .u64 (n : Int) 4294967295 = ((n % 4294967296 : Nat) : Int) := by
  have e := bits_and_u64_nat n 4294967295 h (by omega)
  rwa [show n &&& 4294967295 = n % 4294967296 from Nat.and_two_pow_sub_one_eq_mod n 32] at e
theorem shift32 (n : Nat) : (n : Int) / 4294967296 = ((n / 4294967296 : Nat) : Int) := by omega
theorem wrapIn (n : Nat) (h : n < 18446744073709551616) : IntKind.u64.wrap (n : Int) = (n : Int) := by rw [IntKind.wrap_u64]; omega
theorem wrapMul (a b : Nat) (h : a * b < 18446744073709551616) : IntKind.u64.wrap ((a : Int) * (b : Int)) = ((a * b : Nat) : Int) := by rw [← Int.natCast_mul]; exact wrapIn _ h
theorem wrapAdd (a b : Nat) (h : a + b < 18446744073709551616) : IntKind.u64.wrap ((a : Int) + (b : Int)) = ((a + b : Nat) : Int) := by rw [← Int.natCast_add]; exact wrapIn _ h

/-- The upper half, step by step as Go's text reckons it. -/
theorem hi_walk (x y : Nat) (hx : x < 18446744073709551616) (hy : y < 18446744073709551616) :
    IntKind.u64.wrap (IntKind.u64.wrap (IntKind.u64.wrap ((x : Int) / 4294967296 * ((y : Int) / 4294967296)) +
        IntKind.u64.wrap (IntKind.u64.wrap ((x : Int) / 4294967296 * bits .and .u64 (y : Int) 4294967295) + IntKind.u64.wrap (bits .and .u64 (x : Int) 4294967295 * bits .and .u64 (y : Int) 4294967295) / 4294967296) / 4294967296) +
      IntKind.u64.wrap (bits .and .u64 (IntKind.u64.wrap (IntKind.u64.wrap ((x : Int) / 4294967296 * bits .and .u64 (y : Int) 4294967295) + IntKind.u64.wrap (bits .and .u64 (x : Int) 4294967295 * bits .and .u64 (y : Int) 4294967295) / 4294967296)) 4294967295 +
        IntKind.u64.wrap (bits .and .u64 (x : Int) 4294967295 * ((y : Int) / 4294967296))) / 4294967296) = ((x * y / 18446744073709551616 : Nat) : Int) := by
  obtain ⟨g1, g2, g3, g4⟩ := Lib.mul64_hi x y hx hy
  have k1 := Lib.half_mul_le (a := x / 4294967296) (b := y / 4294967296) (by omega) (by omega)
  have k2 := Lib.half_mul_le (a := x / 4294967296) (b := y % 4294967296) (by omega) (by omega)
  have k3 := Lib.half_mul_le (a := x % 4294967296) (b := y / 4294967296) (by omega) (by omega)
  rw [mask32 x hx, mask32 y hy, shift32 x, shift32 y, wrapMul _ _ g1, wrapMul _ _ (by omega : x / 4294967296 * (y % 4294967296) < _), shift32, wrapAdd _ _ g2, mask32 _ g2, shift32,
    wrapMul _ _ (by omega : x % 4294967296 * (y / 4294967296) < _), wrapMul _ _ (by omega : x / 4294967296 * (y / 4294967296) < _), wrapAdd _ _ g3, shift32, wrapAdd _ _ (by omega), wrapAdd _ _ (by omega), g4]

theorem lo_walk (x y : Nat) : IntKind.u64.wrap ((x : Int) * (y : Int)) = ((x * y % 18446744073709551616 : Nat) : Int) := by
  rw [← Int.natCast_mul, IntKind.wrap_u64]; omega

theorem ret_two {k l : IntKind} {a b c d : Int} (h : a = b) (g : c = d) : Ending.returned (.tuple #[.int k a, .int l c]) = .returned (.tuple #[.int k b, .int l d]) := by rw [h, g]

set_option maxHeartbeats 400000 in
theorem mul64_any (x y : Nat) (w : World) (hx : x < 18446744073709551616) (hy : y < 18446744073709551616) :
    Calls Try.prog 100 #[.int .u64 x, .int .u64 y] w fun e w' => e = .returned (.tuple #[.int .u64 ((x * y / 18446744073709551616 : Nat) : Int), .int .u64 ((x * y % 18446744073709551616 : Nat) : Int)]) ∧ w = w' := by
  go_enter Try.func100, Try.ntmps100
  go_wp2
  go_ret2
  exact ⟨ret_two (hi_walk x y hx hy) (lo_walk x y), rfl⟩

/-- The same over Int. -/
theorem mul64_int (x y : Int) (w : World) (x1 : 0 ≤ x) (x2 : x < 18446744073709551616) (y1 : 0 ≤ y) (y2 : y < 18446744073709551616) :
    Calls Try.prog 100 #[.int .u64 x, .int .u64 y] w fun e w' => e = .returned (.tuple #[.int .u64 (x * y / 18446744073709551616), .int .u64 (x * y % 18446744073709551616)]) ∧ w = w' := by
  obtain ⟨m, rfl⟩ := Int.eq_ofNat_of_zero_le x1
  obtain ⟨n, rfl⟩ := Int.eq_ofNat_of_zero_le y1
  have h := mul64_any m n w (by omega) (by omega)
  rw [Int.natCast_ediv, Int.natCast_emod, Int.natCast_mul] at h
  exact h

set_option maxHeartbeats 400000 in
theorem product_any (x y : Int) (w : World) (x1 : 0 ≤ x) (x2 : x < 18446744073709551616) (y1 : 0 ≤ y) (y2 : y < 18446744073709551616) :
    Calls Try.prog 95 #[.int .u64 x, .int .u64 y] w fun e w' => e = .returned (.agg #[.int .u64 (x * y / 18446744073709551616), .int .u64 (x * y % 18446744073709551616)]) ∧ Below w.heap.size w w' := by
  have c := mul64_int x y (w := (w.alloc (.cells #[.int .u64 0, .int .u64 0] 123)).alloc (.cells #[.int .u64 0, .int .u64 0] 123)) x1 x2 y1 y2
  generalize x * y / 18446744073709551616 = hi at c ⊢
  generalize x * y % 18446744073709551616 = lo at c ⊢
  have C := Lib.hid c
  clear c
  go_enter Try.func95, Try.ntmps95
  go_wp2_with fail
  refine C.out.mono ?_
  rintro e w' ⟨rfl, rfl⟩
  go_wp2
  exact bodyPost_ret (v := .agg #[.int .u64 hi, .int .u64 lo]) (by simp [results, Try.results95, go_sem]) rfl ⟨rfl, ((Below.refl _ _).alloc (Nat.le_refl _) _).alloc (by simp) _⟩

set_option maxHeartbeats 400000 in
theorem signed_far (hi lo : Int) (b : Bool) (w : World) (h : 0 < hi) :
    Calls Try.prog 94 #[.agg #[.int .u64 hi, .int .u64 lo], .bool b] w fun e w' => e = .returned (.tuple #[.int .i64 0, .bool false]) ∧ Below w.heap.size w w' := by
  have hh : (hi != 0) = true := by simp; omega
  go_enter Try.func94, Try.ntmps94
  go_wp2
  go_ret2
  exact ⟨rfl, below_alloc _ _⟩

theorem ret_ok {a b : Int} {c : Bool} (h : a = b) : Ending.returned (.tuple #[.int .i64 a, .bool c]) = .returned (.tuple #[.int .i64 b, .bool c]) := by rw [h]
theorem back_neg (lo : Int) (h0 : 0 ≤ lo) (h : lo ≤ 9223372036854775808) : wrap64 (IntKind.u64.wrap (-lo)) = -lo := by
  rw [IntKind.wrap_u64]; unfold wrap64; omega

set_option maxHeartbeats 400000 in
theorem signed_neg (lo : Int) (w : World) (h0 : 0 ≤ lo) (h : lo ≤ 9223372036854775808) :
    Calls Try.prog 94 #[.agg #[.int .u64 0, .int .u64 lo], .bool true] w fun e w' => e = .returned (.tuple #[.int .i64 (-lo), .bool true]) ∧ Below w.heap.size w w' := by
  go_enter Try.func94, Try.ntmps94
  go_wp2
  go_ret2
  exact ⟨ret_ok (back_neg lo h0 h), below_alloc _ _⟩

set_option maxHeartbeats 400000 in
theorem signed_pos (lo : Int) (w : World) (h0 : 0 ≤ lo) (h : lo < 9223372036854775808) :
    Calls Try.prog 94 #[.agg #[.int .u64 0, .int .u64 lo], .bool false] w fun e w' => e = .returned (.tuple #[.int .i64 lo, .bool true]) ∧ Below w.heap.size w w' := by
  go_enter Try.func94, Try.ntmps94
  go_wp2
  go_ret2
  exact ⟨rfl, below_alloc _ _⟩

set_option maxHeartbeats 400000 in
theorem signed_neg_no (lo : Int) (w : World) (h : 9223372036854775808 < lo) :
    Calls Try.prog 94 #[.agg #[.int .u64 0, .int .u64 lo], .bool true] w fun e w' => e = .returned (.tuple #[.int .i64 0, .bool false]) ∧ Below w.heap.size w w' := by
  go_enter Try.func94, Try.ntmps94
  go_wp2
  go_ret2
  exact ⟨rfl, below_alloc _ _⟩

set_option maxHeartbeats 400000 in
theorem signed_pos_no (lo : Int) (w : World) (h : 9223372036854775808 ≤ lo) :
    Calls Try.prog 94 #[.agg #[.int .u64 0, .int .u64 lo], .bool false] w fun e w' => e = .returned (.tuple #[.int .i64 0, .bool false]) ∧ Below w.heap.size w w' := by
  go_enter Try.func94, Try.ntmps94
  go_wp2
  go_ret2
  exact ⟨rfl, below_alloc _ _⟩

/-- Is a number one of 64 bits? -/
def fits (n : Int) : Bool := decide (-9223372036854775808 ≤ n ∧ n ≤ 9223372036854775807)
/-- What is told of a number: itself, or 0 if it is none of 64 bits. -/
def told (n : Int) : Int := if fits n then n else 0
theorem fits_yes {n : Int} (h1 : -9223372036854775808 ≤ n) (h2 : n ≤ 9223372036854775807) : fits n = true := by simp [fits, h1, h2]
theorem fits_no {n : Int} (h : n < -9223372036854775808 ∨ 9223372036854775807 < n) : fits n = false := by simp [fits]; omega
theorem told_yes {n : Int} (h1 : -9223372036854775808 ≤ n) (h2 : n ≤ 9223372036854775807) : told n = n := by simp [told, fits_yes h1 h2]
theorem told_no {n : Int} (h : n < -9223372036854775808 ∨ 9223372036854775807 < n) : told n = 0 := by simp [told, fits_no h]

/-- 'signed' at a product's two halves and a sign: what is told of the signed product. -/
theorem signed_any (p : Int) (below : Bool) (w : World) (h0 : 0 ≤ p) (h1 : p ≤ 85070591730234615865843651857942052864) :
    Calls Try.prog 94 #[.agg #[.int .u64 (p / 18446744073709551616), .int .u64 (p % 18446744073709551616)], .bool below] w fun e w' =>
      e = .returned (.tuple #[.int .i64 (told (if below then -p else p)), .bool (fits (if below then -p else p))]) ∧ Below w.heap.size w w' := by
  by_cases hp : p < 18446744073709551616
  · rw [show p / 18446744073709551616 = 0 from by omega, show p % 18446744073709551616 = p from by omega]
    cases below with
    | true =>
      by_cases hl : p ≤ 9223372036854775808
      · rw [if_pos rfl, told_yes (by omega) (by omega), fits_yes (by omega) (by omega)]; exact signed_neg p w h0 hl
      · rw [if_pos rfl, told_no (by omega), fits_no (by omega)]; exact signed_neg_no p w (by omega)
    | false =>
      by_cases hl : p < 9223372036854775808
      · rw [if_neg (by decide), told_yes (by omega) (by omega), fits_yes (by omega) (by omega)]; exact signed_pos p w h0 hl
      · rw [if_neg (by decide), told_no (by omega), fits_no (by omega)]; exact signed_pos_no p w (by omega)
  · have hh : 0 < p / 18446744073709551616 := by omega
    cases below with
    | true => rw [if_pos rfl, told_no (by omega), fits_no (by omega)]; exact signed_far _ _ _ w hh
    | false => rw [if_neg (by decide), told_no (by omega), fits_no (by omega)]; exact signed_far _ _ _ w hh

theorem mag_any (a : Int) (w : World) (a1 : -9223372036854775808 ≤ a) (a2 : a ≤ 9223372036854775807) :
    Calls Try.prog 96 #[.int .i64 a] w fun e w' => e = .returned (.int .u64 (a.natAbs : Int)) ∧ w = w' := by
  by_cases h : a < 0
  · rw [show (a.natAbs : Int) = -a from by omega]; exact mag_neg a w a1 h
  · rw [show (a.natAbs : Int) = a from by omega]; exact mag_pos a w (by omega) a2

end Go.Proofs.Ytkmflofokgkekaa
