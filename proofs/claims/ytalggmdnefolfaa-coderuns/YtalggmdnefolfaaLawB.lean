/-
  The walk of CodeBack: what was written is taken as it was. No condition.
-/
import Derived.Test.YtalggmdnefolfaaLawA
namespace Go.Proofs.Ytalggmdnefolfaa
open Go.RowKit
set_option linter.unusedVariables false

theorem i64_u64 (n : Int) (h1 : -9223372036854775808 ≤ n) (h2 : n ≤ 9223372036854775807) : i64 (u64 n) = n := by
  unfold i64; rw [← u64_eq, wrap_u64, IntKind.wrap_i64]; omega

theorem i64_nat (k : Nat) (h : k ≤ 9223372036854775807) : i64 k = (k : Int) := by
  unfold i64; rw [IntKind.wrap_i64]; omega

theorem valOf_be8 (n : Nat) (h : n < 18446744073709551616) (m : List UInt8) : valOf ((be 8 n ++ m).take 8) = n := by
  rw [List.take_append_of_le_length (by rw [be_length]; omega), List.take_of_length_le (by rw [be_length]; omega), valOf_be]
  exact Nat.mod_eq_of_lt (by omega)

theorem drop_be (k n : Nat) (m : List UInt8) : (be k n ++ m).drop k = m := by
  rw [List.drop_append_of_le_length (by rw [be_length]; omega), List.drop_of_length_le (by rw [be_length]; omega)]; rfl

theorem frame_back (p m : List UInt8) (h : p.length ≤ 4000) :
    valOf ((frameOf p ++ m).take 4) = p.length ∧ sumAt (frameOf p ++ m) = sumOf (frameOf p ++ m) p.length ∧ ((frameOf p ++ m).drop 8).take p.length = p ∧ ((frameOf p ++ m).drop 8).drop p.length = m := by
  have e4 : (frameOf p ++ m).take 4 = be 4 p.length := by
    unfold frameOf
    rw [List.append_assoc, List.take_append_of_le_length (by rw [be_length]; omega), List.take_of_length_le (by rw [be_length]; omega)]
  have d4 : (frameOf p ++ m).drop 4 = be 4 (crcOf (be 4 p.length ++ p)) ++ (p ++ m) := by
    unfold frameOf
    rw [List.append_assoc, drop_be, List.append_assoc]
  have d8 : (frameOf p ++ m).drop 8 = p ++ m := by
    rw [show (8 : Nat) = 4 + 4 by omega, ← List.drop_drop, d4, drop_be]
  have t8 : ((frameOf p ++ m).drop 8).take p.length = p := by rw [d8, List.take_append_of_le_length (Nat.le_refl _), List.take_length]
  refine ⟨?_, ?_, t8, by rw [d8, List.drop_append_of_le_length (Nat.le_refl _), List.drop_length]; rfl⟩
  · rw [e4, valOf_be]; exact Nat.mod_eq_of_lt (by omega)
  · unfold sumAt sumOf
    rw [t8, e4, d4, List.take_append_of_le_length (by rw [be_length]; omega), List.take_of_length_le (by rw [be_length]; omega), valOf_be]
    exact Nat.mod_eq_of_lt (by have := crcOf_lt (be 4 p.length ++ p); omega)

set_option maxHeartbeats 1000000 in
theorem back_walk (x : Int) (s : ByteArray) (A : Option Addr) (n cp : Nat) (l : List UInt8) (B : Option Addr) (m cm : Nat) (lm : List UInt8) (w : World) (x1 : -9223372036854775808 ≤ x) (x2 : x ≤ 9223372036854775807) (hs : s.size ≤ maxLen)
    (hA : Lies w w.heap.size 1 A n (bc l)) (hc : n ≤ cp) (hm : cp ≤ maxLen) (hB : Lies w w.heap.size 1 B m (bc lm)) (hc2 : m ≤ cm) (hm2 : cm ≤ maxLen) :
    Calls Try.prog 7 #[.int .i64 x, .string s, .slice A n cp, .slice B m cm] w fun e w' => e = .returned (.bool true) ∧ Below w.heap.size w w' := by
  obtain ⟨i0, hi, hz0, hz1, hz2⟩ := info_parts Try.info5
  have hn' : n ≤ 9223372036854775807 := by unfold maxLen at hm; omega
  have hm' : m ≤ 9223372036854775807 := by unfold maxLen at hm2; omega
  have hs' : s.size ≤ 9223372036854775807 := by unfold maxLen at hs; omega
  by_cases g1 : 10000 < s.size
  · go_enter Try.func7, Try.ntmps7
    go_wp2_with fail
    refine (knows_any _).mono ?_
    rintro e w1 ⟨rfl, hb⟩
    go_wp2_with fail
    go_ret
    exact ⟨rfl, hb⟩
  by_cases g2 : 4000 < n
  · go_enter Try.func7, Try.ntmps7
    go_wp2_with fail
    refine (knows_any _).mono ?_
    rintro e w1 ⟨rfl, hb⟩
    go_wp2_with fail
    go_ret
    exact ⟨rfl, hb⟩
  by_cases g3 : 10000 < m
  · go_enter Try.func7, Try.ntmps7
    go_wp2_with fail
    refine (greatly B m cm w (by omega) g3).mono ?_
    rintro e w' ⟨rfl, rfl⟩
    go_wp2_with fail
    refine (knows_any _).mono ?_
    rintro e w1 ⟨rfl, hb⟩
    go_wp2_with fail
    go_ret
    exact ⟨rfl, hb⟩
  have hlm := hB.len
  have hl := hA.len
  have HT : Hid (i64 (valOf ((be 8 (u64 x) ++ lm).take 8)) = x) := by show _ = _; rw [valOf_be8 _ (u64_lt x), i64_u64 x x1 x2]
  have HD : Hid ((be 8 (u64 x) ++ lm).drop 8 = lm) := drop_be _ _ _
  have HS : Hid (i64 (valOf ((textOf s ++ lm).take 8)) = (s.size : Int)) := by
    show _ = _; unfold textOf; rw [List.append_assoc, valOf_be8 _ (by omega), i64_nat _ hs']
  have HS1 : Hid ((((textOf s ++ lm).drop 8).take s.size) = s.data.toList) := by
    show _ = _; unfold textOf; rw [List.append_assoc, drop_be, List.take_append_of_le_length (by simp), List.take_of_length_le (by simp)]
  have HS2 : Hid ((((textOf s ++ lm).drop 8).drop s.size) = lm) := by
    show _ = _; unfold textOf; rw [List.append_assoc, drop_be, List.drop_append_of_le_length (by simp), List.drop_of_length_le (by simp)]; rfl
  have HF := Lib.hid (frame_back l lm (by omega))
  have HL := Lib.hid hl
  have HM := Lib.hid hlm
  clear hl hlm
  go_enter Try.func7, Try.ntmps7
  go_wp2_with fail
  refine (lightly B m cm w (by omega)).mono ?_
  rintro e w' ⟨rfl, rfl⟩
  go_wp2_with fail
  refine (num_any x w x1 x2).mono ?_
  rintro e w1 ⟨A1, c1, rfl, ho1, hb1⟩
  have hB1 := hB.below hb1
  go_wp2_with (at_builtin; go_must (refine wpList_app _ rfl (.tmp 35) (.tmp 36) 22 rfl w.heap.size 5 i0 (.int .u8 0) 1 1 Try.underlying22 hi hz0 hz1 hz2 rfl (by decide) A1 8 c1 _ rfl ho1 _ B m cm _ rfl hB1 (bc_one _) (8 + m) (bc (be 8 (u64 x) ++ lm)) rfl (bc_append _ _).symm (by unfold maxLen; omega) (by omega) hb1.size ?_))
  intro A2 c2 w2 ho2 hb2
  have hb02 := hb1.trans hb2
  clear hB1 ho1 hb1 hb2
  go_wp2_with fail
  refine (takeNum_yes A2 (8 + m) c2 _ w2 (by omega) (own_cap ho2) (by omega) (Lies.of_own ho2)).mono ?_
  rintro e w3 ⟨A3, c3, rfl, ho3, hb3⟩
  rw [HD.out, show 8 + m - 8 = m by omega] at ho3
  rw [HT.out, show 8 + m - 8 = m by omega]
  have hL3 := Lies.of_own ho3
  have hb03 : Below w.heap.size w w3 := hb02.trans (hb3.mono hb02.size)
  clear ho2 hb02 hb3 ho3 HT HD
  go_wp2_with fail
  refine (text_any s w3 (by omega)).mono ?_
  rintro e w4 ⟨A4, c4, rfl, ho4, hb4⟩
  have hb04 : Below w.heap.size w w4 := hb03.trans (hb4.mono hb03.size)
  have hB4 := (hB.below hb03).below (hb4.mono hb03.size)
  have hL4 := hL3.below hb4
  go_wp2_with (at_builtin; go_must (refine wpList_app _ rfl (.tmp 44) (.tmp 45) 22 rfl w3.heap.size 5 i0 (.int .u8 0) 1 1 Try.underlying22 hi hz0 hz1 hz2 rfl (by decide) A4 (8 + s.size) c4 _ rfl ho4 _ B m cm _ rfl hB4 (bc_one _) (8 + s.size + m) (bc (textOf s ++ lm)) rfl (bc_append _ _).symm (by unfold maxLen; omega) (by omega) hb4.size ?_))
  intro A5 c5 w5 ho5 hb5
  have hb35 := hb4.trans hb5
  have hb05 : Below w.heap.size w w5 := hb03.trans (hb35.mono hb03.size)
  have hL5 := hL3.next hb35
  clear hb04 hB4 hL4 ho4 hb4 hb5 hL3 hb03 hb35
  go_wp2_with fail
  refine (takeText_yes A5 (8 + s.size + m) c5 s.size _ w5 (own_cap ho5) (by omega) (Lies.of_own ho5) (by omega) HS.out (by omega)).mono ?_
  rintro e w6 ⟨A6, c6, rfl, hL6, hb6⟩
  rw [HS2.out, show 8 + s.size + m - 8 - s.size = m by omega] at hL6
  rw [HS1.out, show 8 + s.size + m - 8 - s.size = m by omega]
  have hL56 := hL5.next hb6
  have hb06 : Below w.heap.size w w6 := hb05.trans (hb6.mono hb05.size)
  clear ho5 hL5 hb6 hb05 HS HS1 HS2
  have hA6 := hA.next hb06
  have hA6a := hA6.next (below_alloc w6 (.cells #[] 5))
  go_wp2_with (at_builtin; go_must (refine wpList_app _ rfl (.tmp 52) (.tmp 53) 22 rfl w6.heap.size 5 i0 (.int .u8 0) 1 1 Try.underlying22 hi hz0 hz1 hz2 rfl (by decide) _ 0 0 [] rfl (own_empty w6 5 _ (Nat.le_refl _)) _ A n cp _ rfl hA6a (bc_one _) n (bc l) (by omega) rfl (by unfold maxLen; omega) (by omega) (below_alloc w6 (.cells #[] 5)).size ?_))
  intro A7 c7 w7 ho7 hb7
  have hb67 : Below w6.heap.size w6 w7 := (below_alloc w6 (.cells #[] 5)).trans hb7
  have hb07 : Below w.heap.size w w7 := hb06.trans (hb67.mono hb06.size)
  have hL57 := hL56.next hb67
  have hL67 := hL6.next hb67
  clear hA6a hb7 hb67 hL56 hL6 hb06 hA6
  go_wp2_with fail
  refine (frame_yes A7 n c7 l w7 (by omega) (Lies.of_own ho7)).mono ?_
  rintro e w8 ⟨A8, c8, rfl, ho8, hb8⟩
  have hb08 : Below w.heap.size w w8 := hb07.trans (hb8.mono hb07.size)
  have hB8 := hB.next hb08
  go_wp2_with (at_builtin; go_must (refine wpList_app _ rfl (.tmp 59) (.tmp 60) 22 rfl w7.heap.size 5 i0 (.int .u8 0) 1 1 Try.underlying22 hi hz0 hz1 hz2 rfl (by decide) A8 (8 + n) c8 _ rfl ho8 _ B m cm _ rfl hB8 (bc_one _) (8 + n + m) (bc (frameOf l ++ lm)) rfl (bc_append _ _).symm (by unfold maxLen; omega) (by omega) hb8.size ?_))
  intro A9 c9 w9 ho9 hb9
  have hb79 := hb8.trans hb9
  have hb09 : Below w.heap.size w w9 := hb07.trans (hb79.mono hb07.size)
  have hL59 := hL57.next hb79
  have hL69 := hL67.next hb79
  clear hL57 hL67 hb07 ho7 hb8 hb9 hb79 ho8 hb08 hB8
  rw [HL.out] at HF
  go_wp2_with fail
  refine (takeFrame_yes A9 (8 + n + m) c9 n _ w9 (own_cap ho9) (by omega) (Lies.of_own ho9) (by omega) HF.out.1 (by omega) (by omega) HF.out.2.1).mono ?_
  rintro e w10 ⟨A10, c10, A11, c11, rfl, hL10, ho11, hb10⟩
  rw [HF.out.2.2.1] at hL10
  rw [HF.out.2.2.2, show 8 + n + m - 8 - n = m by omega] at ho11
  rw [show 8 + n + m - 8 - n = m by omega]
  have hb010 : Below w.heap.size w w10 := hb09.trans (hb10.mono hb09.size)
  have hL510 := hL59.next hb10
  have hL610 := hL69.next hb10
  have hL11 := Lies.of_own ho11
  clear hL59 hL69 hb09 ho9 hb10 ho11
  have hAx := hA.next hb010
  have hBx := hB.next hb010
  have k1 : (convert 22 9 (.slice A3 m c3)).run Try.prog w10 = .ok (.string ⟨lm.toArray⟩) w10 := run_str _ _ 22 9 5 A3 m c3 _ Try.underlying22 Try.underlying5 Try.underlying9 hL510
  have k2 : (convert 22 9 (.slice A6 m c6)).run Try.prog w10 = .ok (.string ⟨lm.toArray⟩) w10 := run_str _ _ 22 9 5 A6 m c6 _ Try.underlying22 Try.underlying5 Try.underlying9 hL610
  have k3 : (convert 22 9 (.slice A10 n c10)).run Try.prog w10 = .ok (.string ⟨l.toArray⟩) w10 := run_str _ _ 22 9 5 A10 n c10 _ Try.underlying22 Try.underlying5 Try.underlying9 hL10
  have k4 : (convert 22 9 (.slice A11 m c11)).run Try.prog w10 = .ok (.string ⟨lm.toArray⟩) w10 := run_str _ _ 22 9 5 A11 m c11 _ Try.underlying22 Try.underlying5 Try.underlying9 hL11
  have k5 : (convert 22 9 (.slice A n cp)).run Try.prog w10 = .ok (.string ⟨l.toArray⟩) w10 := run_str _ _ 22 9 5 A n cp _ Try.underlying22 Try.underlying5 Try.underlying9 hAx
  have k6 : (convert 22 9 (.slice B m cm)).run Try.prog w10 = .ok (.string ⟨lm.toArray⟩) w10 := run_str _ _ 22 9 5 B m cm _ Try.underlying22 Try.underlying5 Try.underlying9 hBx
  clear hL510 hL610 hL10 hL11 hAx hBx hA hB HF HL HM
  go_wp2_with fail
  refine (knows_any _).mono ?_
  rintro e w11 ⟨rfl, hb11⟩
  have hb0 : Below w.heap.size w w11 := hb010.trans (hb11.mono hb010.size)
  go_wp2_with fail
  go_ret
  exact ⟨rfl, hb0⟩
end Go.Proofs.Ytalggmdnefolfaa
