/-
  Contracts of TakeNum and TakeText, of the program's and of the document's own. Conditions: sizes below 2^46.
-/
import Derived.Test.YtalggmdnefolfaaWalksB
import Derived.Deep.QuietTactic
import Derived.BigQuiet
import Derived.Deep.RegionWith
import Derived.Deep.RegionHeld3
namespace Go.Proofs.Ytalggmdnefolfaa
open Go.RowKit
set_option linter.unusedVariables false

theorem Try.elem22 : Try.prog.elem 22 = 5 := by kernel_rfl
theorem Try.under22 : Try.prog.underlying 22 = some (.slice (Try.prog.elem 22)) := by kernel_rfl
theorem Try.size22 : ∀ W, (sizeOf (Try.prog.elem 22)).run Try.prog W = .ok 1 W := by
  intro W; kernel_rfl

theorem below_of_drew {B : Nat} {w w' : World} (h : Below B w.drew w') : Below B w w' := ⟨h.os, h.tape, h.output, h.size, h.block⟩

theorem below_to_drewN {B : Nat} {w w' : World} (h : Below B w w') (q : Nat) : Below B w (w'.drewN q) := ⟨h.os, h.tape, h.output, h.size, h.block⟩

/-- A number of 64 bits out of one from 0 on. -/
def i64 (n : Nat) : Int := IntKind.i64.wrap (n : Int)

set_option maxHeartbeats 400000 in
theorem takeNum_no (A : Option Addr) (n cp : Nat) (w : World) (h : n < 8) :
    Calls Try.prog 18 #[.slice A n cp] w fun e w' => e = .returned (.tuple #[.int .i64 0, .slice none 0 0, .int .i64 2]) ∧ w = w' := by
  go_enter Try.func18, Try.ntmps18
  go_wp2
  go_ret3
  exact ⟨rfl, rfl⟩

set_option maxHeartbeats 400000 in
theorem takeNum_yes (A : Option Addr) (n cp : Nat) (l : List UInt8) (w : World) (h8 : 8 ≤ n) (hc : n ≤ cp) (hn : n ≤ 70368744177664) (hA : Lies w w.heap.size 1 A n (bc l)) :
    Calls Try.prog 18 #[.slice A n cp] w fun e w' => ∃ A' c', e = .returned (.tuple #[.int .i64 (i64 (valOf (l.take 8))), .slice A' (n - 8) c', .int .i64 0]) ∧
      w'.ownsRow w.heap.size 5 1 (.slice A' (n - 8) c') (n - 8) (bc (l.drop 8)) ∧ Below w.heap.size w w' := by
  obtain ⟨A8, hcut, hL⟩ := cut_l Try.under22 Try.size22 A n cp 8 8 .i64 rfl h8 hc
  have h8A := hL w _ _ hA
  rw [bc_drop] at h8A
  clear hL
  go_enter Try.func18, Try.ntmps18
  go_wp2_with fail
  go_region_with (first
    | (go_at_call 29; refine (taken_any A n cp 8 _ rfl l _ (by omega) (by omega) (by omega) ?_).mono ?_; (first | exact hA | exact hA.next (by assumption)); rintro e w' ⟨rfl, rfl⟩)
    | (go_at_call 30; refine (copied_any A8 (n - 8) (cp - 8) (l.drop 8) _ (by omega) ?_).mono ?_; (first | exact h8A | exact h8A.next (by assumption)); rintro e w' ⟨A', c', rfl, ho, hb⟩))
  all_goals (try go_wp2)
  all_goals go_ret3
  exact ⟨_, _, rfl, ho, below_of_drew hb⟩

theorem valOf_take8_lt (l : List UInt8) : valOf (l.take 8) < 18446744073709551616 := by
  have h1 := valOf_lt (l.take 8)
  have h2 : 256 ^ (l.take 8).length ≤ 256 ^ 8 := Nat.pow_le_pow_right (by omega) (by rw [List.length_take]; omega)
  have h3 : (256 : Nat) ^ 8 = 18446744073709551616 := by decide
  omega

theorem i64_eq (n : Nat) : wrap64 (n : Int) = i64 n := by unfold i64; rw [IntKind.wrap_i64]; simp [wrap64]
theorem i64_bounds (n : Nat) : -9223372036854775808 ≤ i64 n ∧ i64 n ≤ 9223372036854775807 := by
  unfold i64; rw [IntKind.wrap_i64]; omega

set_option maxHeartbeats 400000 in
theorem rtakeNum_no (A : Option Addr) (n cp : Nat) (w : World) (h : n < 8) :
    Calls Try.prog 19 #[.slice A n cp] w fun e w' => e = .returned (.tuple #[.int .i64 0, .bool false]) ∧ w = w' := by
  go_enter Try.func19, Try.ntmps19
  go_wp2
  go_ret2
  exact ⟨rfl, rfl⟩

set_option maxHeartbeats 400000 in
theorem rtakeNum_yes (A : Option Addr) (n cp : Nat) (l : List UInt8) (w : World) (h8 : 8 ≤ n) (hc : n ≤ cp) (hn : n ≤ 70368744177664) (hA : Lies w w.heap.size 1 A n (bc l)) :
    Calls Try.prog 19 #[.slice A n cp] w fun e w' => e = .returned (.tuple #[.int .i64 (i64 (valOf (l.take 8))), .bool true]) ∧ w = w' := by
  obtain ⟨A8, hcut, hL⟩ := cut_h Try.under22 Try.size22 A n cp 8 8 .i64 rfl h8 hc
  have h8A := hL w _ _ hA
  rw [bc_take] at h8A
  clear hL
  go_enter Try.func19, Try.ntmps19
  go_wp2_with fail
  refine (value_any A8 8 cp (l.take 8) _ (by omega) h8A).mono ?_
  rintro e w' ⟨rfl, rfl⟩
  go_wp2_with fail
  rw [i64_eq]
  go_ret2
  exact ⟨rfl, rfl⟩

set_option maxHeartbeats 400000 in
theorem takeText_no (A : Option Addr) (n cp : Nat) (l : List UInt8) (w : World) (hc : n ≤ cp) (hn : n ≤ 70368744177664) (hA : Lies w w.heap.size 1 A n (bc l))
    (h : n < 8 ∨ i64 (valOf (l.take 8)) < 0 ∨ ((n - 8 : Nat) : Int) < i64 (valOf (l.take 8))) :
    Calls Try.prog 20 #[.slice A n cp] w fun e w' => e = .returned (.tuple #[.string ⟨#[]⟩, .slice none 0 0, .int .i64 2]) ∧ Below w.heap.size w w' := by
  by_cases h8 : n < 8
  · go_enter Try.func20, Try.ntmps20
    go_wp2_with fail
    refine (takeNum_no A n cp w h8).mono ?_
    rintro e w' ⟨rfl, rfl⟩
    have h0 : ((2 : Int) != 0) = true := rfl
    go_wp2_with fail
    go_ret3
    exact ⟨rfl, Below.refl _ _⟩
  · go_enter Try.func20, Try.ntmps20
    go_wp2_with fail
    refine (takeNum_yes A n cp l w (by omega) hc hn hA).mono ?_
    rintro e w1 ⟨A1, c1, rfl, ho, hb⟩
    have hB := i64_bounds (valOf (l.take 8))
    have h' : i64 (valOf (l.take 8)) < 0 ∨ ((n - 8 : Nat) : Int) < i64 (valOf (l.take 8)) := by omega
    clear h
    generalize i64 (valOf (l.take 8)) = z at *
    have h0 : ((0 : Int) != 0) = false := rfl
    by_cases hz : z < 0
    · go_wp2_with fail
      go_ret3
      exact ⟨rfl, hb⟩
    · have hz2 : ((n - 8 : Nat) : Int) < z := by omega
      go_wp2_with fail
      go_ret3
      exact ⟨rfl, hb⟩

set_option maxHeartbeats 400000 in
theorem takeText_yes (A : Option Addr) (n cp k : Nat) (l : List UInt8) (w : World) (hc : n ≤ cp) (hn : n ≤ 70368744177664) (hA : Lies w w.heap.size 1 A n (bc l))
    (h8 : 8 ≤ n) (hk : i64 (valOf (l.take 8)) = (k : Int)) (hkn : k ≤ n - 8) :
    Calls Try.prog 20 #[.slice A n cp] w fun e w' => ∃ A' c', e = .returned (.tuple #[.string ⟨((l.drop 8).take k).toArray⟩, .slice A' (n - 8 - k) c', .int .i64 0]) ∧
      Lies w' w'.heap.size 1 A' (n - 8 - k) (bc ((l.drop 8).drop k)) ∧ Below w.heap.size w w' := by
  go_enter Try.func20, Try.ntmps20
  go_wp2_with fail
  refine (takeNum_yes A n cp l w (by omega) hc hn hA).mono ?_
  rintro e w1 ⟨A1, c1, rfl, ho, hb⟩
  rw [hk]
  clear hk
  have hc1 : n - 8 ≤ c1 := by
    rcases ho.2 with ⟨hv, h0⟩ | ⟨g, cap, cur, hv, _, _, h3, _⟩
    · omega
    · injection hv with _ _ e3; omega
  have hL := Lies.of_own ho
  obtain ⟨A2, hcut2, hL2⟩ := cut_h Try.under22 Try.size22 A1 (n - 8) c1 k k .i64 rfl hkn hc1
  obtain ⟨A3, hcut3, hL3⟩ := cut_l Try.under22 Try.size22 A1 (n - 8) c1 k k .i64 rfl hkn hc1
  have hA2 := hL2 w1 _ _ hL
  have hA3 := hL3 w1 _ _ hL
  rw [bc_take] at hA2
  rw [bc_drop] at hA3
  clear hL2 hL3
  have hconv : ∀ q, (convert 22 9 (.slice A2 k c1)).run Try.prog (w1.drewN q) = .ok (.string ⟨((l.drop 8).take k).toArray⟩) (w1.drewN q) := fun q => run_str _ w1.heap.size 22 9 5 A2 k c1 _ Try.underlying22 Try.underlying5 Try.underlying9 (hA2.drewN q)
  have h0 : ((0 : Int) != 0) = false := rfl
  go_wp2_with fail
  go_quiet (fail)
  all_goals (try go_wp2)
  go_ret3
  exact ⟨_, _, rfl, hA3.drewN _, below_to_drewN hb _⟩

set_option maxHeartbeats 400000 in
theorem rtakeText_no (A : Option Addr) (n cp : Nat) (l : List UInt8) (w : World) (hc : n ≤ cp) (hn : n ≤ 70368744177664) (hA : Lies w w.heap.size 1 A n (bc l))
    (h : n < 8 ∨ i64 (valOf (l.take 8)) < 0 ∨ ((n - 8 : Nat) : Int) < i64 (valOf (l.take 8))) :
    Calls Try.prog 21 #[.slice A n cp] w fun e w' => e = .returned (.tuple #[.string ⟨#[]⟩, .int .i64 0, .bool false]) ∧ w = w' := by
  by_cases h8 : n < 8
  · go_enter Try.func21, Try.ntmps21
    go_wp2_with fail
    refine (rtakeNum_no A n cp w h8).mono ?_
    rintro e w' ⟨rfl, rfl⟩
    go_wp2_with fail
    go_ret3
    exact ⟨rfl, rfl⟩
  · go_enter Try.func21, Try.ntmps21
    go_wp2_with fail
    refine (rtakeNum_yes A n cp l w (by omega) hc hn hA).mono ?_
    rintro e w' ⟨rfl, rfl⟩
    have hB := i64_bounds (valOf (l.take 8))
    have h' : i64 (valOf (l.take 8)) < 0 ∨ ((n : Int) - 8) < i64 (valOf (l.take 8)) := by omega
    clear h
    generalize i64 (valOf (l.take 8)) = z at *
    by_cases hz : z < 0
    · go_wp2_with fail
      go_ret3
      exact ⟨rfl, rfl⟩
    · have hz2 : ((n : Int) - 8) < z := by omega
      go_wp2_with fail
      go_ret3
      exact ⟨rfl, rfl⟩

set_option maxHeartbeats 400000 in
theorem rtakeText_yes (A : Option Addr) (n cp k : Nat) (l : List UInt8) (w : World) (hc : n ≤ cp) (hn : n ≤ 70368744177664) (hA : Lies w w.heap.size 1 A n (bc l))
    (h8 : 8 ≤ n) (hk : i64 (valOf (l.take 8)) = (k : Int)) (hkn : k ≤ n - 8) :
    Calls Try.prog 21 #[.slice A n cp] w fun e w' => e = .returned (.tuple #[.string ⟨((l.drop 8).take k).toArray⟩, .int .i64 (8 + k : Nat), .bool true]) ∧ w = w' := by
  go_enter Try.func21, Try.ntmps21
  go_wp2_with fail
  refine (rtakeNum_yes A n cp l w (by omega) hc hn hA).mono ?_
  rintro e w' ⟨rfl, rfl⟩
  rw [hk]
  clear hk
  obtain ⟨A2, hcut2, hL2⟩ := cut_lh Try.under22 Try.size22 A n cp 8 (8 + k) 8 (8 + (k : Int)) .i64 .i64 rfl (by omega) (by omega) (by omega) hc
  have hA2 := hL2 w _ _ hA
  rw [show 8 + k - 8 = k by omega] at hA2 hcut2
  rw [bc_drop, bc_take] at hA2
  clear hL2
  have hconv : (convert 22 9 (.slice A2 k (cp - 8))).run Try.prog w = .ok (.string ⟨((l.drop 8).take k).toArray⟩) w := run_str _ w.heap.size 22 9 5 A2 k (cp - 8) _ Try.underlying22 Try.underlying5 Try.underlying9 hA2
  go_wp2_with fail
  go_ret3
  exact ⟨by go_num, rfl⟩
end Go.Proofs.Ytalggmdnefolfaa
