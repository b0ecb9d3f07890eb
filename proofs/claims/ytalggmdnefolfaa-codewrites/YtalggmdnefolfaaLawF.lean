/-
  The walk of CodeWrites: numbers and texts have the bytes that the document says. No condition.
-/
import Derived.Test.YtalggmdnefolfaaLawB
namespace Go.Proofs.Ytalggmdnefolfaa
open Go.RowKit
set_option linter.unusedVariables false

set_option maxHeartbeats 4000000 in
theorem writes_walk (x : Int) (s : ByteArray) (w : World) (x1 : -9223372036854775808 ≤ x) (x2 : x ≤ 9223372036854775807) (hs : s.size ≤ maxLen) :
    Calls Try.prog 4 #[.int .i64 x, .string s] w fun e w' => e = .returned (.bool true) ∧ Below w.heap.size w w' := by
  have hs' : s.size ≤ 9223372036854775807 := by unfold maxLen at hs; omega
  by_cases g1 : 10000 < s.size
  · go_enter Try.func4, Try.ntmps4
    go_wp2_with fail
    refine (knows_any _).mono ?_
    rintro e w1 ⟨rfl, hb⟩
    go_wp2_with fail
    go_ret
    exact ⟨rfl, hb⟩
  generalize hL : be 8 (u64 x) = L
  have HL := Lib.hid hL
  generalize hM : textOf s = M
  have HM := Lib.hid hM
  clear hL hM
  go_enter Try.func4, Try.ntmps4
  go_wp2_with fail
  go_region_with (first
    | (go_at_call 14; (with_reducible refine (num_any x _ ?_ ?_).mono ?_); exact x1; exact x2; rintro e w1 ⟨A1, c1, rfl, ho1, hb1⟩; rw [HL.out] at ho1; have k1 : (convert 22 9 (.slice A1 8 c1)).run Try.prog w1 = .ok (.string ⟨L.toArray⟩) w1 := run_str _ _ 22 9 5 A1 8 c1 _ Try.underlying22 Try.underlying5 Try.underlying9 (Lies.of_own ho1))
    | (go_at_call 15; (with_reducible refine (rnum_any x _ ?_ ?_).mono ?_); exact x1; exact x2; rintro e w2 ⟨A2, c2, rfl, ho2, hb2⟩; rw [HL.out] at ho2; have k12 : (convert 22 9 (.slice A1 8 c1)).run Try.prog w2 = .ok (.string ⟨L.toArray⟩) w2 := run_str _ _ 22 9 5 A1 8 c1 _ Try.underlying22 Try.underlying5 Try.underlying9 ((Lies.of_own ho1).next hb2); have k2 : (convert 22 9 (.slice A2 8 c2)).run Try.prog w2 = .ok (.string ⟨L.toArray⟩) w2 := run_str _ _ 22 9 5 A2 8 c2 _ Try.underlying22 Try.underlying5 Try.underlying9 (Lies.of_own ho2))
    | (go_at_call 16; (with_reducible refine (text_any s _ ?_).mono ?_); omega; rintro e w3 ⟨A3, c3, rfl, ho3, hb3⟩; rw [HM.out] at ho3; have k3 : (convert 22 9 (.slice A3 (8 + s.size) c3)).run Try.prog w3 = .ok (.string ⟨M.toArray⟩) w3 := run_str _ _ 22 9 5 A3 _ c3 _ Try.underlying22 Try.underlying5 Try.underlying9 (Lies.of_own ho3))
    | (go_at_call 17; (with_reducible refine (rtext_any s _ ?_).mono ?_); omega; rintro e w4 ⟨A4, c4, rfl, ho4, hb4⟩; rw [HM.out] at ho4; have k34 : (convert 22 9 (.slice A3 (8 + s.size) c3)).run Try.prog w4 = .ok (.string ⟨M.toArray⟩) w4 := run_str _ _ 22 9 5 A3 _ c3 _ Try.underlying22 Try.underlying5 Try.underlying9 ((Lies.of_own ho3).next hb4); have k4 : (convert 22 9 (.slice A4 (8 + s.size) c4)).run Try.prog w4 = .ok (.string ⟨M.toArray⟩) w4 := run_str _ _ 22 9 5 A4 _ c4 _ Try.underlying22 Try.underlying5 Try.underlying9 (Lies.of_own ho4))
    | (go_at_call 11; (refine (knows_any _).mono ?_); rintro e w5 ⟨rfl, hb5⟩))
  all_goals
    have hw1 : Below w.heap.size w w1 := below_of_drew hb1
    have hw2 : Below w.heap.size w w2 := hw1.trans (hb2.mono hw1.size)
    have hw3 : Below w.heap.size w w3 := hw2.trans (hb3.mono hw2.size)
    have hw4 : Below w.heap.size w w4 := hw3.trans (hb4.mono hw3.size)
    have hw5 : Below w.heap.size w w5 := hw4.trans (hb5.mono hw4.size)
    clear hb1 hb2 hb3 hb4 hb5 hw1 hw2 hw3 hw4
    go_wp2_with fail
    go_ret
    exact ⟨rfl, hw5⟩
end Go.Proofs.Ytalggmdnefolfaa
