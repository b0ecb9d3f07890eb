/-
  The walk of CodeTakes: of any bytes a number and a text are taken as the document says. No condition.
-/
import Derived.Test.YtalggmdnefolfaaLawB
namespace Go.Proofs.Ytalggmdnefolfaa
open Go.RowKit
set_option linter.unusedVariables false

set_option maxHeartbeats 1000000 in
theorem takes_short (A : Option Addr) (n cp : Nat) (l : List UInt8) (w : World) (hA : Lies w w.heap.size 1 A n (bc l)) (hc : n ≤ cp) (hm : cp ≤ maxLen) (h8 : n < 8) :
    Calls Try.prog 5 #[.slice A n cp] w fun e w' => e = .returned (.bool true) ∧ Below w.heap.size w w' := by
  obtain ⟨i0, hi, hz0, hz1, hz2⟩ := info_parts Try.info5
  go_enter Try.func5, Try.ntmps5
  go_wp2_with fail
  refine (lightly A n cp w (by omega)).mono ?_
  rintro e w' ⟨rfl, rfl⟩
  have hAa := hA.next (below_alloc w (.cells #[] 5))
  go_wp2_with (at_builtin; go_must (refine wpList_app _ rfl (.tmp 18) (.tmp 19) 22 rfl w.heap.size 5 i0 (.int .u8 0) 1 1 Try.underlying22 hi hz0 hz1 hz2 rfl (by decide) _ 0 0 [] rfl (own_empty w 5 _ (Nat.le_refl _)) _ A n cp _ rfl hAa (bc_one _) n (bc l) (by omega) rfl (by unfold maxLen; omega) (by omega) (below_alloc w (.cells #[] 5)).size ?_))
  intro A1 c1 w1 ho1 hb1
  have hb01 : Below w.heap.size w w1 := (below_alloc w (.cells #[] 5)).trans hb1
  clear hAa hb1
  go_wp2_with fail
  refine (takeNum_no A1 n c1 w1 h8).mono ?_
  rintro e w' ⟨rfl, rfl⟩
  have hA1 := hA.next hb01
  go_wp2_with fail
  refine (rtakeNum_no A n cp w1 h8).mono ?_
  rintro e w' ⟨rfl, rfl⟩
  have hA1a := hA1.next (below_alloc w1 (.cells #[] 5))
  clear ho1
  go_wp2_with (at_builtin; go_must (refine wpList_app _ rfl (.tmp 31) (.tmp 32) 22 rfl w1.heap.size 5 i0 (.int .u8 0) 1 1 Try.underlying22 hi hz0 hz1 hz2 rfl (by decide) _ 0 0 [] rfl (own_empty w1 5 _ (Nat.le_refl _)) _ A n cp _ rfl hA1a (bc_one _) n (bc l) (by omega) rfl (by unfold maxLen; omega) (by omega) (below_alloc w1 (.cells #[] 5)).size ?_))
  intro A2 c2 w2 ho2 hb2
  have hb12 : Below w1.heap.size w1 w2 := (below_alloc w1 (.cells #[] 5)).trans hb2
  have hb02 : Below w.heap.size w w2 := hb01.trans (hb12.mono hb01.size)
  clear hA1a hb2 hb12 hA1 hb01
  go_wp2_with fail
  refine (takeText_no A2 n c2 l w2 (own_cap ho2) (by omega) (Lies.of_own ho2) (.inl h8)).mono ?_
  rintro e w3 ⟨rfl, hb3⟩
  have hb03 : Below w.heap.size w w3 := hb02.trans (hb3.mono hb02.size)
  have hA3 := hA.next hb03
  clear hb3 hb02 ho2
  go_wp2_with fail
  refine (rtakeText_no A n cp l w3 hc (by omega) hA3 (.inl h8)).mono ?_
  rintro e w' ⟨rfl, rfl⟩
  go_wp2_with fail
  go_quiet (fail)
  go_wp2_with fail
  refine (knows_any _).mono ?_
  rintro e w5 ⟨rfl, hb5⟩
  have hb05 : Below w.heap.size w w5 := (below_to_drewN hb03 _).trans (hb5.mono hb03.size)
  go_wp2_with fail
  go_ret
  exact ⟨rfl, hb05⟩
set_option maxHeartbeats 1000000 in
theorem takes_num (A : Option Addr) (n cp : Nat) (l : List UInt8) (w : World) (hA : Lies w w.heap.size 1 A n (bc l)) (hc : n ≤ cp) (hm : cp ≤ maxLen) (h8 : 8 ≤ n) (hg : n ≤ 10000)
    (h : i64 (valOf (l.take 8)) < 0 ∨ ((n - 8 : Nat) : Int) < i64 (valOf (l.take 8))) :
    Calls Try.prog 5 #[.slice A n cp] w fun e w' => e = .returned (.bool true) ∧ Below w.heap.size w w' := by
  obtain ⟨i0, hi, hz0, hz1, hz2⟩ := info_parts Try.info5
  obtain ⟨A8, hcut8, hL8⟩ := cut_l Try.under22 Try.size22 A n cp 8 8 .i64 rfl h8 hc
  go_enter Try.func5, Try.ntmps5
  go_wp2_with fail
  refine (lightly A n cp w (by omega)).mono ?_
  rintro e w' ⟨rfl, rfl⟩
  have hAa := hA.next (below_alloc w (.cells #[] 5))
  go_wp2_with (at_builtin; go_must (refine wpList_app _ rfl (.tmp 18) (.tmp 19) 22 rfl w.heap.size 5 i0 (.int .u8 0) 1 1 Try.underlying22 hi hz0 hz1 hz2 rfl (by decide) _ 0 0 [] rfl (own_empty w 5 _ (Nat.le_refl _)) _ A n cp _ rfl hAa (bc_one _) n (bc l) (by omega) rfl (by unfold maxLen; omega) (by omega) (below_alloc w (.cells #[] 5)).size ?_))
  intro A1 c1 w1 ho1 hb1
  have hb01 : Below w.heap.size w w1 := (below_alloc w (.cells #[] 5)).trans hb1
  clear hAa hb1
  go_wp2_with fail
  refine (takeNum_yes A1 n c1 l w1 h8 (own_cap ho1) (by omega) (Lies.of_own ho1)).mono ?_
  rintro e w1' ⟨Ax, cx, rfl, hox, hbx⟩
  have hb01' : Below w.heap.size w w1' := hb01.trans (hbx.mono hb01.size)
  have hA1 := hA.next hb01'
  have hLx := Lies.of_own hox
  clear ho1 hox hbx hb01
  go_wp2_with fail
  refine (rtakeNum_yes A n cp l w1' h8 hc (by omega) hA1).mono ?_
  rintro e w' ⟨rfl, rfl⟩
  have hA1a := hA1.next (below_alloc w1' (.cells #[] 5))
  have hz : ((i64 (valOf (l.take 8)) : Int) != i64 (valOf (l.take 8))) = false := by simp
  go_wp2_with (at_builtin; go_must (refine wpList_app _ rfl (.tmp 31) (.tmp 32) 22 rfl w1'.heap.size 5 i0 (.int .u8 0) 1 1 Try.underlying22 hi hz0 hz1 hz2 rfl (by decide) _ 0 0 [] rfl (own_empty w1' 5 _ (Nat.le_refl _)) _ A n cp _ rfl hA1a (bc_one _) n (bc l) (by omega) rfl (by unfold maxLen; omega) (by omega) (below_alloc w1' (.cells #[] 5)).size ?_))
  intro A2 c2 w2 ho2 hb2
  have hb12 : Below w1'.heap.size w1' w2 := (below_alloc w1' (.cells #[] 5)).trans hb2
  have hb02 : Below w.heap.size w w2 := hb01'.trans (hb12.mono hb01'.size)
  have hLx2 := hLx.next hb12
  clear hA1a hb2 hb12 hA1 hb01' hLx
  go_wp2_with fail
  refine (takeText_no A2 n c2 l w2 (own_cap ho2) (by omega) (Lies.of_own ho2) (.inr h)).mono ?_
  rintro e w3 ⟨rfl, hb3⟩
  have hb03 : Below w.heap.size w w3 := hb02.trans (hb3.mono hb02.size)
  have hA3 := hA.next hb03
  have hLx3 := hLx2.next hb3
  clear hb3 hb02 ho2 hLx2
  go_wp2_with fail
  refine (rtakeText_no A n cp l w3 hc (by omega) hA3 (.inr h)).mono ?_
  rintro e w' ⟨rfl, rfl⟩
  have h8A := hL8 _ _ _ hA3
  rw [bc_drop] at h8A
  have k1 : ∀ q, (convert 22 9 (.slice Ax (n - 8) cx)).run Try.prog (w3.drewN q) = .ok (.string ⟨(l.drop 8).toArray⟩) (w3.drewN q) := fun q => run_str _ w3.heap.size 22 9 5 Ax _ cx _ Try.underlying22 Try.underlying5 Try.underlying9 (hLx3.drewN q)
  have k2 : ∀ q, (convert 22 9 (.slice A8 (n - 8) (cp - 8))).run Try.prog (w3.drewN q) = .ok (.string ⟨(l.drop 8).toArray⟩) (w3.drewN q) := fun q => run_str _ w3.heap.size 22 9 5 A8 _ (cp - 8) _ Try.underlying22 Try.underlying5 Try.underlying9 (h8A.drewN q)
  clear hL8 hLx3 h8A
  go_wp2_with fail
  go_quiet (fail)
  go_wp2_with fail
  refine (knows_any _).mono ?_
  rintro e w5 ⟨rfl, hb5⟩
  have hb05 : Below w.heap.size w w5 := (below_to_drewN hb03 _).trans (hb5.mono hb03.size)
  go_wp2_with fail
  go_ret
  exact ⟨rfl, hb05⟩
set_option maxHeartbeats 1000000 in
theorem takes_text (A : Option Addr) (n cp : Nat) (l : List UInt8) (w : World) (hA : Lies w w.heap.size 1 A n (bc l)) (hc : n ≤ cp) (hm : cp ≤ maxLen) (h8 : 8 ≤ n) (hg : n ≤ 10000) (k : Nat)
    (hk : i64 (valOf (l.take 8)) = (k : Int)) (hkn : k ≤ n - 8) :
    Calls Try.prog 5 #[.slice A n cp] w fun e w' => e = .returned (.bool true) ∧ Below w.heap.size w w' := by
  obtain ⟨i0, hi, hz0, hz1, hz2⟩ := info_parts Try.info5
  obtain ⟨A8, hcut8, hL8⟩ := cut_l Try.under22 Try.size22 A n cp 8 8 .i64 rfl h8 hc
  obtain ⟨Ak, hcutk, hLk⟩ := cut_l Try.under22 Try.size22 A n cp (8 + k) (8 + (k : Int)) .i64 (by omega) (by omega) hc
  have HK := Lib.hid hk
  clear hk
  go_enter Try.func5, Try.ntmps5
  go_wp2_with fail
  refine (lightly A n cp w (by omega)).mono ?_
  rintro e w' ⟨rfl, rfl⟩
  have hAa := hA.next (below_alloc w (.cells #[] 5))
  go_wp2_with (at_builtin; go_must (refine wpList_app _ rfl (.tmp 18) (.tmp 19) 22 rfl w.heap.size 5 i0 (.int .u8 0) 1 1 Try.underlying22 hi hz0 hz1 hz2 rfl (by decide) _ 0 0 [] rfl (own_empty w 5 _ (Nat.le_refl _)) _ A n cp _ rfl hAa (bc_one _) n (bc l) (by omega) rfl (by unfold maxLen; omega) (by omega) (below_alloc w (.cells #[] 5)).size ?_))
  intro A1 c1 w1 ho1 hb1
  have hb01 : Below w.heap.size w w1 := (below_alloc w (.cells #[] 5)).trans hb1
  clear hAa hb1
  go_wp2_with fail
  refine (takeNum_yes A1 n c1 l w1 h8 (own_cap ho1) (by omega) (Lies.of_own ho1)).mono ?_
  rintro e w1' ⟨Ax, cx, rfl, hox, hbx⟩
  rw [HK.out]
  have hb01' : Below w.heap.size w w1' := hb01.trans (hbx.mono hb01.size)
  have hA1 := hA.next hb01'
  have hLx := Lies.of_own hox
  clear ho1 hox hbx hb01
  go_wp2_with fail
  refine (rtakeNum_yes A n cp l w1' h8 hc (by omega) hA1).mono ?_
  rintro e w' ⟨rfl, rfl⟩
  rw [HK.out]
  have hA1a := hA1.next (below_alloc w1' (.cells #[] 5))
  have hz : ((k : Int) != (k : Int)) = false := by simp
  go_wp2_with (at_builtin; go_must (refine wpList_app _ rfl (.tmp 31) (.tmp 32) 22 rfl w1'.heap.size 5 i0 (.int .u8 0) 1 1 Try.underlying22 hi hz0 hz1 hz2 rfl (by decide) _ 0 0 [] rfl (own_empty w1' 5 _ (Nat.le_refl _)) _ A n cp _ rfl hA1a (bc_one _) n (bc l) (by omega) rfl (by unfold maxLen; omega) (by omega) (below_alloc w1' (.cells #[] 5)).size ?_))
  intro A2 c2 w2 ho2 hb2
  have hb12 : Below w1'.heap.size w1' w2 := (below_alloc w1' (.cells #[] 5)).trans hb2
  have hb02 : Below w.heap.size w w2 := hb01'.trans (hb12.mono hb01'.size)
  have hLx2 := hLx.next hb12
  clear hA1a hb2 hb12 hA1 hb01' hLx
  go_wp2_with fail
  refine (takeText_yes A2 n c2 k l w2 (own_cap ho2) (by omega) (Lies.of_own ho2) h8 HK.out hkn).mono ?_
  rintro e w3 ⟨Ay, cy, rfl, hLy, hb3⟩
  have hb03 : Below w.heap.size w w3 := hb02.trans (hb3.mono hb02.size)
  have hA3 := hA.next hb03
  have hLx3 := hLx2.next hb3
  clear hb3 hb02 ho2 hLx2
  go_wp2_with fail
  refine (rtakeText_yes A n cp k l w3 hc (by omega) hA3 h8 HK.out hkn).mono ?_
  rintro e w' ⟨rfl, rfl⟩
  have hkA := hLk _ _ _ hA3
  rw [bc_drop] at hkA
  rw [List.drop_drop] at hLy
  have k3 : ∀ q, (convert 22 9 (.slice Ay (n - 8 - k) cy)).run Try.prog (w3.drewN q) = .ok (.string ⟨(l.drop (8 + k)).toArray⟩) (w3.drewN q) := fun q => run_str _ w3.heap.size 22 9 5 Ay _ cy _ Try.underlying22 Try.underlying5 Try.underlying9 (hLy.drewN q)
  have k4 : ∀ q, (convert 22 9 (.slice Ak (n - (8 + k)) (cp - (8 + k)))).run Try.prog (w3.drewN q) = .ok (.string ⟨(l.drop (8 + k)).toArray⟩) (w3.drewN q) := fun q => run_str _ w3.heap.size 22 9 5 Ak _ _ _ Try.underlying22 Try.underlying5 Try.underlying9 (hkA.drewN q)
  clear hLk hkA hLy
  have h8A := hL8 _ _ _ hA3
  rw [bc_drop] at h8A
  have k1 : ∀ q, (convert 22 9 (.slice Ax (n - 8) cx)).run Try.prog (w3.drewN q) = .ok (.string ⟨(l.drop 8).toArray⟩) (w3.drewN q) := fun q => run_str _ w3.heap.size 22 9 5 Ax _ cx _ Try.underlying22 Try.underlying5 Try.underlying9 (hLx3.drewN q)
  have k2 : ∀ q, (convert 22 9 (.slice A8 (n - 8) (cp - 8))).run Try.prog (w3.drewN q) = .ok (.string ⟨(l.drop 8).toArray⟩) (w3.drewN q) := fun q => run_str _ w3.heap.size 22 9 5 A8 _ (cp - 8) _ Try.underlying22 Try.underlying5 Try.underlying9 (h8A.drewN q)
  clear hL8 hLx3 h8A
  go_wp2_with fail
  go_quiet (fail)
  go_wp2_with fail
  refine (knows_any _).mono ?_
  rintro e w5 ⟨rfl, hb5⟩
  have hb05 : Below w.heap.size w w5 := (below_to_drewN hb03 _).trans (hb5.mono hb03.size)
  go_wp2_with fail
  go_ret
  exact ⟨rfl, hb05⟩

theorem takes_walk (A : Option Addr) (n cp : Nat) (l : List UInt8) (w : World) (hA : Lies w w.heap.size 1 A n (bc l)) (hc : n ≤ cp) (hm : cp ≤ maxLen) :
    Calls Try.prog 5 #[.slice A n cp] w fun e w' => e = .returned (.bool true) ∧ Below w.heap.size w w' := by
  by_cases hg : 10000 < n
  · go_enter Try.func5, Try.ntmps5
    go_wp2_with fail
    refine (greatly A n cp w (Nat.le_trans hc hm) hg).mono ?_
    rintro e w' ⟨rfl, rfl⟩
    go_wp2_with fail
    refine (knows_any _).mono ?_
    rintro e w1 ⟨rfl, hb⟩
    go_wp2_with fail
    go_ret
    exact ⟨rfl, hb⟩
  · by_cases h8 : n < 8
    · exact takes_short A n cp l w hA hc hm h8
    · have hb := i64_bounds (valOf (l.take 8))
      by_cases h : i64 (valOf (l.take 8)) < 0 ∨ ((n - 8 : Nat) : Int) < i64 (valOf (l.take 8))
      · exact takes_num A n cp l w hA hc hm (by omega) (by omega) h
      · exact takes_text A n cp l w hA hc hm (by omega) (by omega) (i64 (valOf (l.take 8))).toNat (by omega) (by omega)
end Go.Proofs.Ytalggmdnefolfaa
