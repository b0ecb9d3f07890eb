/-
  The walk of CodeFrames: frames are made and taken as the document says. No condition.
-/
import Derived.Test.YtalggmdnefolfaaLawB
import Derived.StillTailTactics
namespace Go.Proofs.Ytalggmdnefolfaa
open Go.RowKit
set_option linter.unusedVariables false

/-- Do some bytes begin with a frame? -/
def okF (l : List UInt8) : Prop := 8 ≤ l.length ∧ valOf (l.take 4) ≤ 4000 ∧ valOf (l.take 4) ≤ l.length - 8 ∧ sumAt l = sumOf l (valOf (l.take 4))

theorem takeFrame_not (l : List UInt8) (h : ¬ okF l) (hn : l.length ≤ 70368744177664) : ∃ x : Int, (x = 2 ∨ x = 7) ∧
    (∀ (A : Option Addr) (cp : Nat) (w : World), l.length ≤ cp → Lies w w.heap.size 1 A l.length (bc l) → Calls Try.prog 24 #[.slice A l.length cp] w fun e w' => e = .returned (.tuple #[.slice none 0 0, .slice none 0 0, .int .i64 x]) ∧ Below w.heap.size w w') ∧
    (∀ (A : Option Addr) (cp : Nat) (w : World), l.length ≤ cp → Lies w w.heap.size 1 A l.length (bc l) → Calls Try.prog 25 #[.slice A l.length cp] w fun e w' => e = .returned (.tuple #[.slice none 0 0, .int .i64 0, .int .i64 x]) ∧ Below w.heap.size w w') := by
  by_cases h8 : l.length < 8
  · refine ⟨2, .inl rfl, fun A cp w hc hA => ?_, fun A cp w hc hA => ?_⟩
    · exact (takeFrame_short A _ cp w h8).mono fun e w' ⟨he, hw⟩ => ⟨he, hw ▸ Below.refl _ _⟩
    · exact (rtakeFrame_short A _ cp w h8).mono fun e w' ⟨he, hw⟩ => ⟨he, hw ▸ Below.refl _ _⟩
  by_cases hf : 4000 < valOf (l.take 4) ∨ l.length - 8 < valOf (l.take 4)
  · refine ⟨2, .inl rfl, fun A cp w hc hA => ?_, fun A cp w hc hA => ?_⟩
    · exact takeFrame_form A _ cp l w hc hn hA (by omega) hf
    · exact (rtakeFrame_form A _ cp l w hc hn hA (by omega) hf).mono fun e w' ⟨he, hw⟩ => ⟨he, hw ▸ Below.refl _ _⟩
  have hs : sumAt l ≠ sumOf l (valOf (l.take 4)) := fun e => h ⟨by omega, by omega, by omega, e⟩
  refine ⟨7, .inr rfl, fun A cp w hc hA => ?_, fun A cp w hc hA => ?_⟩
  · exact takeFrame_sum A _ cp _ l w hc hn hA (by omega) rfl (by omega) (by omega) hs
  · exact rtakeFrame_sum A _ cp _ l w hc hn hA (by omega) rfl (by omega) (by omega) hs

attribute [local irreducible] wpStill

theorem still_tail {P : Program} {id : Nat} {Q : Exit → Act → World → Prop} {a : Act} {w : World} {l : List Oper} (n : Nat) (hm : P.follows .mixedOrders = true) (hB : Region.lexTailB .any l.toArray n = true)
    (h : wpStill P l.toArray w.drew (fun a' => wpList P l.toArray Q (l.drop n) a' w.drew) (l.take n) a) : (Code.region id l.toArray true).wp P Q a w := wp_region_still_tail n hm hB h

set_option maxHeartbeats 2000000 in
theorem frames_long (A : Option Addr) (n cp : Nat) (l : List UInt8) (B : Option Addr) (m cm : Nat) (lm : List UInt8) (w : World)
    (hA : Lies w w.heap.size 1 A n (bc l)) (hc : n ≤ cp) (hB : Lies w w.heap.size 1 B m (bc lm)) (hc2 : m ≤ cm) (g1 : n ≤ 10000) (g2 : m ≤ 10000) (hlong : 4000 < n) (hok : okF lm) :
    Calls Try.prog 6 #[.slice A n cp, .slice B m cm] w fun e w' => e = .returned (.bool true) ∧ Below w.heap.size w w' := by
  obtain ⟨i0, hi, hz0, hz1, hz2⟩ := info_parts Try.info5
  obtain rfl := hB.len
  obtain ⟨v, hv⟩ : ∃ v, v = valOf (lm.take 4) := ⟨_, rfl⟩
  obtain ⟨k8, kv1, kv2, ks⟩ := hok
  rw [← hv] at kv1 kv2 ks
  obtain ⟨Bk, hcutk, hLk⟩ := cut_l Try.under22 Try.size22 B lm.length cm (8 + v) (8 + (v : Int)) .i64 (by omega) (by omega) hc2
  have HV : Hid (valOf (lm.take 4) = v) := hv.symm
  have HS := Lib.hid ks
  clear hv ks
  go_enter Try.func6, Try.ntmps6
  go_wp2_with fail
  refine (lightly A n cp w g1).mono ?_
  rintro e w' ⟨rfl, rfl⟩
  go_wp2_with fail
  refine (lightly B lm.length cm w g2).mono ?_
  rintro e w' ⟨rfl, rfl⟩
  have hAa := hA.next (below_alloc w (.cells #[] 5))
  go_wp2_with (at_builtin; go_must (refine wpList_app _ rfl (.tmp 21) (.tmp 22) 22 rfl w.heap.size 5 i0 (.int .u8 0) 1 1 Try.underlying22 hi hz0 hz1 hz2 rfl (by decide) _ 0 0 [] rfl (own_empty w 5 _ (Nat.le_refl _)) _ A n cp _ rfl hAa (bc_one _) n (bc l) (by omega) rfl (by unfold maxLen; omega) (by omega) (below_alloc w (.cells #[] 5)).size ?_))
  intro A1 c1 w1 ho1 hb1
  have hb01 : Below w.heap.size w w1 := (below_alloc w (.cells #[] 5)).trans hb1
  clear hAa hb1
  go_wp2_with fail
  refine (frame_no A1 n c1 w1 hlong).mono ?_
  rintro e w' ⟨rfl, rfl⟩
  have hB1 := hB.next hb01
  have hB1a := hB1.next (below_alloc w1 (.cells #[] 5))
  clear ho1
  go_wp2_with (at_builtin; go_must (refine wpList_app _ rfl (.tmp 48) (.tmp 49) 22 rfl w1.heap.size 5 i0 (.int .u8 0) 1 1 Try.underlying22 hi hz0 hz1 hz2 rfl (by decide) _ 0 0 [] rfl (own_empty w1 5 _ (Nat.le_refl _)) _ B lm.length cm _ rfl hB1a (bc_one _) lm.length (bc lm) (by omega) rfl (by unfold maxLen; omega) (by omega) (below_alloc w1 (.cells #[] 5)).size ?_))
  intro A2 c2 w2 ho2 hb2
  have hb12 : Below w1.heap.size w1 w2 := (below_alloc w1 (.cells #[] 5)).trans hb2
  have hb02 : Below w.heap.size w w2 := hb01.trans (hb12.mono hb01.size)
  clear hB1a hb2 hb12 hB1 hb01
  go_wp2_with fail
  refine (takeFrame_yes A2 lm.length c2 v lm w2 (own_cap ho2) (by omega) (Lies.of_own ho2) k8 HV.out kv1 kv2 HS.out).mono ?_
  rintro e w3 ⟨A3, c3, A4, c4, rfl, hL3, ho4, hb3⟩
  have hL4 := Lies.of_own ho4
  have hb03 : Below w.heap.size w w3 := hb02.trans (hb3.mono hb02.size)
  have hB3 := hB.next hb03
  clear hb3 hb02 ho2 ho4
  go_wp2_with fail
  refine (rtakeFrame_yes B lm.length cm v lm w3 hc2 (by omega) hB3 k8 HV.out kv1 kv2 HS.out).mono ?_
  rintro e w4 ⟨A5, c5, rfl, hL5, hb4⟩
  have hb04 : Below w.heap.size w w4 := hb03.trans (hb4.mono hb03.size)
  have hkB := hLk _ _ _ (hB.next hb04)
  have hL34 := hL3.next hb4
  have hL44 := hL4.next hb4
  have hL54 := hL5.next hb4
  rw [bc_drop] at hkB
  rw [List.drop_drop] at hL44
  have k1 : (convert 22 9 (.slice A3 v c3)).run Try.prog w4 = .ok (.string ⟨((lm.drop 8).take v).toArray⟩) w4 := run_str _ _ 22 9 5 A3 v c3 _ Try.underlying22 Try.underlying5 Try.underlying9 hL34
  have k2 : (convert 22 9 (.slice A5 v c5)).run Try.prog w4 = .ok (.string ⟨((lm.drop 8).take v).toArray⟩) w4 := run_str _ _ 22 9 5 A5 v c5 _ Try.underlying22 Try.underlying5 Try.underlying9 hL54
  have k3 : (convert 22 9 (.slice A4 (lm.length - 8 - v) c4)).run Try.prog w4.drew = .ok (.string ⟨(lm.drop (8 + v)).toArray⟩) w4.drew := run_str _ w4.heap.size 22 9 5 A4 _ c4 _ Try.underlying22 Try.underlying5 Try.underlying9 hL44
  have k4 : (convert 22 9 (.slice Bk (lm.length - (8 + v)) (cm - (8 + v)))).run Try.prog w4.drew = .ok (.string ⟨(lm.drop (8 + v)).toArray⟩) w4.drew := run_str _ w4.heap.size 22 9 5 Bk _ _ _ Try.underlying22 Try.underlying5 Try.underlying9 hkB
  clear hLk hkB hL34 hL44 hL54 hL3 hL4 hL5 hb4 hb03 hB3 hA hB
  go_wp2_with fail
  refine still_tail 21 (by kernel_rfl) (by kernel_rfl) ?_
  have hb04d := hb04.drew
  generalize w4.drew = W at *
  simp only [List.take_succ_cons, List.take_zero, List.drop_succ_cons, List.drop_zero]
  iterate 21 still_step
  refine wpStill_nil ?_
  go_wp2_with fail
  refine (knows_any _).mono ?_
  rintro e w5 ⟨rfl, hb5⟩
  have hb05 : Below w.heap.size w w5 := hb04d.trans (hb5.mono hb04d.size)
  go_wp2_with fail
  go_ret
  exact ⟨rfl, hb05⟩
set_option maxHeartbeats 2000000 in
theorem frames_long_not (A : Option Addr) (n cp : Nat) (l : List UInt8) (B : Option Addr) (m cm : Nat) (lm : List UInt8) (w : World)
    (hA : Lies w w.heap.size 1 A n (bc l)) (hc : n ≤ cp) (hB : Lies w w.heap.size 1 B m (bc lm)) (hc2 : m ≤ cm) (g1 : n ≤ 10000) (g2 : m ≤ 10000) (hlong : 4000 < n) (hok : ¬ okF lm) :
    Calls Try.prog 6 #[.slice A n cp, .slice B m cm] w fun e w' => e = .returned (.bool true) ∧ Below w.heap.size w w' := by
  obtain ⟨i0, hi, hz0, hz1, hz2⟩ := info_parts Try.info5
  obtain rfl := hB.len
  obtain ⟨x, hx, hT, hR⟩ := takeFrame_not lm hok (by omega)
  have x0 : (x == 0) = false := by rcases hx with rfl | rfl <;> rfl
  have x1 : (x != 0) = true := by rcases hx with rfl | rfl <;> rfl
  have x2 : (x != x) = false := by simp
  have HT := Lib.hid hT
  have HR := Lib.hid hR
  clear hT hR hx hok
  go_enter Try.func6, Try.ntmps6
  go_wp2_with fail
  refine (lightly A n cp w g1).mono ?_
  rintro e w' ⟨rfl, rfl⟩
  go_wp2_with fail
  refine (lightly B lm.length cm w g2).mono ?_
  rintro e w' ⟨rfl, rfl⟩
  have hAa := hA.next (below_alloc w (.cells #[] 5))
  go_wp2_with (at_builtin; go_must (refine wpList_app _ rfl (.tmp 21) (.tmp 22) 22 rfl w.heap.size 5 i0 (.int .u8 0) 1 1 Try.underlying22 hi hz0 hz1 hz2 rfl (by decide) _ 0 0 [] rfl (own_empty w 5 _ (Nat.le_refl _)) _ A n cp _ rfl hAa (bc_one _) n (bc l) (by omega) rfl (by unfold maxLen; omega) (by omega) (below_alloc w (.cells #[] 5)).size ?_))
  intro A1 c1 w1 ho1 hb1
  have hb01 : Below w.heap.size w w1 := (below_alloc w (.cells #[] 5)).trans hb1
  clear hAa hb1
  go_wp2_with fail
  refine (frame_no A1 n c1 w1 hlong).mono ?_
  rintro e w' ⟨rfl, rfl⟩
  have hB1 := hB.next hb01
  have hB1a := hB1.next (below_alloc w1 (.cells #[] 5))
  clear ho1
  go_wp2_with (at_builtin; go_must (refine wpList_app _ rfl (.tmp 48) (.tmp 49) 22 rfl w1.heap.size 5 i0 (.int .u8 0) 1 1 Try.underlying22 hi hz0 hz1 hz2 rfl (by decide) _ 0 0 [] rfl (own_empty w1 5 _ (Nat.le_refl _)) _ B lm.length cm _ rfl hB1a (bc_one _) lm.length (bc lm) (by omega) rfl (by unfold maxLen; omega) (by omega) (below_alloc w1 (.cells #[] 5)).size ?_))
  intro A2 c2 w2 ho2 hb2
  have hb12 : Below w1.heap.size w1 w2 := (below_alloc w1 (.cells #[] 5)).trans hb2
  have hb02 : Below w.heap.size w w2 := hb01.trans (hb12.mono hb01.size)
  clear hB1a hb2 hb12 hB1 hb01
  go_wp2_with fail
  refine (HT.out A2 c2 w2 (own_cap ho2) (Lies.of_own ho2)).mono ?_
  rintro e w3 ⟨rfl, hb3⟩
  have hb03 : Below w.heap.size w w3 := hb02.trans (hb3.mono hb02.size)
  have hB3 := hB.next hb03
  clear hb3 hb02 ho2
  go_wp2_with fail
  refine (HR.out B cm w3 hc2 hB3).mono ?_
  rintro e w4 ⟨rfl, hb4⟩
  have hb04 : Below w.heap.size w w4 := hb03.trans (hb4.mono hb03.size)
  have k1 : (convert 22 9 (.slice none 0 0)).run Try.prog w4 = .ok (.string ⟨#[]⟩) w4 := run_str _ 0 22 9 5 none 0 0 [] Try.underlying22 Try.underlying5 Try.underlying9 Lies.nil
  clear hb4 hb03 hB3 hA hB HT HR
  go_wp2_with fail
  refine still_tail 21 (by kernel_rfl) (by kernel_rfl) ?_
  have hb04d := hb04.drew
  generalize w4.drew = W at *
  simp only [List.take_succ_cons, List.take_zero, List.drop_succ_cons, List.drop_zero]
  iterate 21 still_step
  refine wpStill_nil ?_
  go_wp2_with fail
  refine (knows_any _).mono ?_
  rintro e w5 ⟨rfl, hb5⟩
  have hb05 : Below w.heap.size w w5 := hb04d.trans (hb5.mono hb04d.size)
  go_wp2_with fail
  go_ret
  exact ⟨rfl, hb05⟩

set_option maxHeartbeats 2000000 in
theorem frames_short (A : Option Addr) (n cp : Nat) (l : List UInt8) (B : Option Addr) (m cm : Nat) (lm : List UInt8) (w : World)
    (hA : Lies w w.heap.size 1 A n (bc l)) (hc : n ≤ cp) (hB : Lies w w.heap.size 1 B m (bc lm)) (hc2 : m ≤ cm) (g1 : n ≤ 10000) (g2 : m ≤ 10000) (hlong : n ≤ 4000) (hok : okF lm) :
    Calls Try.prog 6 #[.slice A n cp, .slice B m cm] w fun e w' => e = .returned (.bool true) ∧ Below w.heap.size w w' := by
  obtain ⟨i0, hi, hz0, hz1, hz2⟩ := info_parts Try.info5
  obtain rfl := hB.len
  obtain ⟨v, hv⟩ : ∃ v, v = valOf (lm.take 4) := ⟨_, rfl⟩
  obtain ⟨k8, kv1, kv2, ks⟩ := hok
  rw [← hv] at kv1 kv2 ks
  obtain ⟨Bk, hcutk, hLk⟩ := cut_l Try.under22 Try.size22 B lm.length cm (8 + v) (8 + (v : Int)) .i64 (by omega) (by omega) hc2
  have HV : Hid (valOf (lm.take 4) = v) := hv.symm
  have HS := Lib.hid ks
  clear hv ks
  go_enter Try.func6, Try.ntmps6
  go_wp2_with fail
  refine (lightly A n cp w g1).mono ?_
  rintro e w' ⟨rfl, rfl⟩
  go_wp2_with fail
  refine (lightly B lm.length cm w g2).mono ?_
  rintro e w' ⟨rfl, rfl⟩
  have hAa := hA.next (below_alloc w (.cells #[] 5))
  go_wp2_with (at_builtin; go_must (refine wpList_app _ rfl (.tmp 21) (.tmp 22) 22 rfl w.heap.size 5 i0 (.int .u8 0) 1 1 Try.underlying22 hi hz0 hz1 hz2 rfl (by decide) _ 0 0 [] rfl (own_empty w 5 _ (Nat.le_refl _)) _ A n cp _ rfl hAa (bc_one _) n (bc l) (by omega) rfl (by unfold maxLen; omega) (by omega) (below_alloc w (.cells #[] 5)).size ?_))
  intro A1 c1 w1 ho1 hb1
  have hb01 : Below w.heap.size w w1 := (below_alloc w (.cells #[] 5)).trans hb1
  clear hAa hb1
  go_wp2_with fail
  refine (frame_yes A1 n c1 l w1 (by omega) (Lies.of_own ho1)).mono ?_
  rintro e w1' ⟨Af, cf, rfl, hof, hbf⟩
  have hb01' : Below w.heap.size w w1' := hb01.trans (hbf.mono hb01.size)
  have hAf := hA.next hb01'
  have hLf := Lies.of_own hof
  have kf : (convert 22 9 (.slice Af (8 + n) cf)).run Try.prog w1'.drew = .ok (.string ⟨(frameOf l).toArray⟩) w1'.drew := run_str _ w1'.heap.size 22 9 5 Af _ cf _ Try.underlying22 Try.underlying5 Try.underlying9 hLf
  have h00 : ((0 : Int) != 0) = false := rfl
  clear ho1 hof hbf hb01
  go_wp2_with fail
  go_region_with (go_at_call 23; (with_reducible refine (rframe_yes A n cp l _ ?_ ?_).mono ?_); omega; exact hAf; rintro e w1'' ⟨Ag, cg, rfl, hog, hbg⟩; have kf1 : (convert 22 9 (.slice Af (8 + n) cf)).run Try.prog w1'' = .ok (.string ⟨(frameOf l).toArray⟩) w1'' := run_str _ w1'.heap.size 22 9 5 Af _ cf _ Try.underlying22 Try.underlying5 Try.underlying9 (hLf.below (below_of_drew hbg)); have kg1 : (convert 22 9 (.slice Ag (8 + n) cg)).run Try.prog w1'' = .ok (.string ⟨(frameOf l).toArray⟩) w1'' := run_str _ _ 22 9 5 Ag _ cg _ Try.underlying22 Try.underlying5 Try.underlying9 (Lies.of_own hog))
  all_goals
    have hb01 : Below w.heap.size w w1'' := hb01'.trans ((below_of_drew hbg).mono hb01'.size)
    have hB1 := hB.next hb01
    have hB1a := hB1.next (below_alloc w1'' (.cells #[] 5))
    clear hbg hog kf kf1 kg1 hb01' hAf hLf
    go_wp2_with (at_builtin; go_must (refine wpList_app _ rfl (.tmp 48) (.tmp 49) 22 rfl w1''.heap.size 5 i0 (.int .u8 0) 1 1 Try.underlying22 hi hz0 hz1 hz2 rfl (by decide) _ 0 0 [] rfl (own_empty w1'' 5 _ (Nat.le_refl _)) _ B lm.length cm _ rfl hB1a (bc_one _) lm.length (bc lm) (by omega) rfl (by unfold maxLen; omega) (by omega) (below_alloc w1'' (.cells #[] 5)).size ?_))
    intro A2 c2 w2 ho2 hb2
    have hb12 : Below w1''.heap.size w1'' w2 := (below_alloc w1'' (.cells #[] 5)).trans hb2
    have hb02 : Below w.heap.size w w2 := hb01.trans (hb12.mono hb01.size)
    clear hB1a hb2 hb12 hB1 hb01
    go_wp2_with fail
    refine (takeFrame_yes A2 lm.length c2 v lm w2 (own_cap ho2) (by omega) (Lies.of_own ho2) k8 HV.out kv1 kv2 HS.out).mono ?_
    rintro e w3 ⟨A3, c3, A4, c4, rfl, hL3, ho4, hb3⟩
    have hL4 := Lies.of_own ho4
    have hb03 : Below w.heap.size w w3 := hb02.trans (hb3.mono hb02.size)
    have hB3 := hB.next hb03
    clear hb3 hb02 ho2 ho4
    go_wp2_with fail
    refine (rtakeFrame_yes B lm.length cm v lm w3 hc2 (by omega) hB3 k8 HV.out kv1 kv2 HS.out).mono ?_
    rintro e w4 ⟨A5, c5, rfl, hL5, hb4⟩
    have hb04 : Below w.heap.size w w4 := hb03.trans (hb4.mono hb03.size)
    have hkB := hLk _ _ _ (hB.next hb04)
    have hL34 := hL3.next hb4
    have hL44 := hL4.next hb4
    have hL54 := hL5.next hb4
    rw [bc_drop] at hkB
    rw [List.drop_drop] at hL44
    have k1 : (convert 22 9 (.slice A3 v c3)).run Try.prog w4 = .ok (.string ⟨((lm.drop 8).take v).toArray⟩) w4 := run_str _ _ 22 9 5 A3 v c3 _ Try.underlying22 Try.underlying5 Try.underlying9 hL34
    have k2 : (convert 22 9 (.slice A5 v c5)).run Try.prog w4 = .ok (.string ⟨((lm.drop 8).take v).toArray⟩) w4 := run_str _ _ 22 9 5 A5 v c5 _ Try.underlying22 Try.underlying5 Try.underlying9 hL54
    have k3 : (convert 22 9 (.slice A4 (lm.length - 8 - v) c4)).run Try.prog w4.drew = .ok (.string ⟨(lm.drop (8 + v)).toArray⟩) w4.drew := run_str _ w4.heap.size 22 9 5 A4 _ c4 _ Try.underlying22 Try.underlying5 Try.underlying9 hL44
    have k4 : (convert 22 9 (.slice Bk (lm.length - (8 + v)) (cm - (8 + v)))).run Try.prog w4.drew = .ok (.string ⟨(lm.drop (8 + v)).toArray⟩) w4.drew := run_str _ w4.heap.size 22 9 5 Bk _ _ _ Try.underlying22 Try.underlying5 Try.underlying9 hkB
    clear hLk hkB hL34 hL44 hL54 hL3 hL4 hL5 hb4 hb03 hB3 hA hB
    go_wp2_with fail
    refine still_tail 21 (by kernel_rfl) (by kernel_rfl) ?_
    have hb04d := hb04.drew
    generalize w4.drew = W at *
    simp only [List.take_succ_cons, List.take_zero, List.drop_succ_cons, List.drop_zero]
    iterate 21 still_step
    refine wpStill_nil ?_
    go_wp2_with fail
    refine (knows_any _).mono ?_
    rintro e w5 ⟨rfl, hb5⟩
    have hb05 : Below w.heap.size w w5 := hb04d.trans (hb5.mono hb04d.size)
    go_wp2_with fail
    go_ret
    exact ⟨rfl, hb05⟩

set_option maxHeartbeats 2000000 in
theorem frames_short_not (A : Option Addr) (n cp : Nat) (l : List UInt8) (B : Option Addr) (m cm : Nat) (lm : List UInt8) (w : World)
    (hA : Lies w w.heap.size 1 A n (bc l)) (hc : n ≤ cp) (hB : Lies w w.heap.size 1 B m (bc lm)) (hc2 : m ≤ cm) (g1 : n ≤ 10000) (g2 : m ≤ 10000) (hlong : n ≤ 4000) (hok : ¬ okF lm) :
    Calls Try.prog 6 #[.slice A n cp, .slice B m cm] w fun e w' => e = .returned (.bool true) ∧ Below w.heap.size w w' := by
  obtain ⟨i0, hi, hz0, hz1, hz2⟩ := info_parts Try.info5
  obtain rfl := hB.len
  obtain ⟨x, hx, hT, hR⟩ := takeFrame_not lm hok (by omega)
  have x0 : (x == 0) = false := by rcases hx with rfl | rfl <;> rfl
  have x1 : (x != 0) = true := by rcases hx with rfl | rfl <;> rfl
  have x2 : (x != x) = false := by simp
  have HT := Lib.hid hT
  have HR := Lib.hid hR
  clear hT hR hx hok
  go_enter Try.func6, Try.ntmps6
  go_wp2_with fail
  refine (lightly A n cp w g1).mono ?_
  rintro e w' ⟨rfl, rfl⟩
  go_wp2_with fail
  refine (lightly B lm.length cm w g2).mono ?_
  rintro e w' ⟨rfl, rfl⟩
  have hAa := hA.next (below_alloc w (.cells #[] 5))
  go_wp2_with (at_builtin; go_must (refine wpList_app _ rfl (.tmp 21) (.tmp 22) 22 rfl w.heap.size 5 i0 (.int .u8 0) 1 1 Try.underlying22 hi hz0 hz1 hz2 rfl (by decide) _ 0 0 [] rfl (own_empty w 5 _ (Nat.le_refl _)) _ A n cp _ rfl hAa (bc_one _) n (bc l) (by omega) rfl (by unfold maxLen; omega) (by omega) (below_alloc w (.cells #[] 5)).size ?_))
  intro A1 c1 w1 ho1 hb1
  have hb01 : Below w.heap.size w w1 := (below_alloc w (.cells #[] 5)).trans hb1
  clear hAa hb1
  go_wp2_with fail
  refine (frame_yes A1 n c1 l w1 (by omega) (Lies.of_own ho1)).mono ?_
  rintro e w1' ⟨Af, cf, rfl, hof, hbf⟩
  have hb01' : Below w.heap.size w w1' := hb01.trans (hbf.mono hb01.size)
  have hAf := hA.next hb01'
  have hLf := Lies.of_own hof
  have kf : (convert 22 9 (.slice Af (8 + n) cf)).run Try.prog w1'.drew = .ok (.string ⟨(frameOf l).toArray⟩) w1'.drew := run_str _ w1'.heap.size 22 9 5 Af _ cf _ Try.underlying22 Try.underlying5 Try.underlying9 hLf
  have h00 : ((0 : Int) != 0) = false := rfl
  clear ho1 hof hbf hb01
  go_wp2_with fail
  go_region_with (go_at_call 23; (with_reducible refine (rframe_yes A n cp l _ ?_ ?_).mono ?_); omega; exact hAf; rintro e w1'' ⟨Ag, cg, rfl, hog, hbg⟩; have kf1 : (convert 22 9 (.slice Af (8 + n) cf)).run Try.prog w1'' = .ok (.string ⟨(frameOf l).toArray⟩) w1'' := run_str _ w1'.heap.size 22 9 5 Af _ cf _ Try.underlying22 Try.underlying5 Try.underlying9 (hLf.below (below_of_drew hbg)); have kg1 : (convert 22 9 (.slice Ag (8 + n) cg)).run Try.prog w1'' = .ok (.string ⟨(frameOf l).toArray⟩) w1'' := run_str _ _ 22 9 5 Ag _ cg _ Try.underlying22 Try.underlying5 Try.underlying9 (Lies.of_own hog))
  all_goals
    have hb01 : Below w.heap.size w w1'' := hb01'.trans ((below_of_drew hbg).mono hb01'.size)
    have hB1 := hB.next hb01
    have hB1a := hB1.next (below_alloc w1'' (.cells #[] 5))
    clear hbg hog kf kf1 kg1 hb01' hAf hLf
    go_wp2_with (at_builtin; go_must (refine wpList_app _ rfl (.tmp 48) (.tmp 49) 22 rfl w1''.heap.size 5 i0 (.int .u8 0) 1 1 Try.underlying22 hi hz0 hz1 hz2 rfl (by decide) _ 0 0 [] rfl (own_empty w1'' 5 _ (Nat.le_refl _)) _ B lm.length cm _ rfl hB1a (bc_one _) lm.length (bc lm) (by omega) rfl (by unfold maxLen; omega) (by omega) (below_alloc w1'' (.cells #[] 5)).size ?_))
    intro A2 c2 w2 ho2 hb2
    have hb12 : Below w1''.heap.size w1'' w2 := (below_alloc w1'' (.cells #[] 5)).trans hb2
    have hb02 : Below w.heap.size w w2 := hb01.trans (hb12.mono hb01.size)
    clear hB1a hb2 hb12 hB1 hb01
    go_wp2_with fail
    refine (HT.out A2 c2 w2 (own_cap ho2) (Lies.of_own ho2)).mono ?_
    rintro e w3 ⟨rfl, hb3⟩
    have hb03 : Below w.heap.size w w3 := hb02.trans (hb3.mono hb02.size)
    have hB3 := hB.next hb03
    clear hb3 hb02 ho2
    go_wp2_with fail
    refine (HR.out B cm w3 hc2 hB3).mono ?_
    rintro e w4 ⟨rfl, hb4⟩
    have hb04 : Below w.heap.size w w4 := hb03.trans (hb4.mono hb03.size)
    have k1 : (convert 22 9 (.slice none 0 0)).run Try.prog w4 = .ok (.string ⟨#[]⟩) w4 := run_str _ 0 22 9 5 none 0 0 [] Try.underlying22 Try.underlying5 Try.underlying9 Lies.nil
    clear hb4 hb03 hB3 hA hB HT HR
    go_wp2_with fail
    refine still_tail 21 (by kernel_rfl) (by kernel_rfl) ?_
    have hb04d := hb04.drew
    generalize w4.drew = W at *
    simp only [List.take_succ_cons, List.take_zero, List.drop_succ_cons, List.drop_zero]
    iterate 21 still_step
    refine wpStill_nil ?_
    go_wp2_with fail
    refine (knows_any _).mono ?_
    rintro e w5 ⟨rfl, hb5⟩
    have hb05 : Below w.heap.size w w5 := hb04d.trans (hb5.mono hb04d.size)
    go_wp2_with fail
    go_ret
    exact ⟨rfl, hb05⟩

theorem frames_walk (A : Option Addr) (n cp : Nat) (l : List UInt8) (B : Option Addr) (m cm : Nat) (lm : List UInt8) (w : World)
    (hA : Lies w w.heap.size 1 A n (bc l)) (hc : n ≤ cp) (hm : cp ≤ maxLen) (hB : Lies w w.heap.size 1 B m (bc lm)) (hc2 : m ≤ cm) (hm2 : cm ≤ maxLen) :
    Calls Try.prog 6 #[.slice A n cp, .slice B m cm] w fun e w' => e = .returned (.bool true) ∧ Below w.heap.size w w' := by
  by_cases g1 : 10000 < n
  · go_enter Try.func6, Try.ntmps6
    go_wp2_with fail
    refine (greatly A n cp w (Nat.le_trans hc hm) g1).mono ?_
    rintro e w' ⟨rfl, rfl⟩
    go_wp2_with fail
    refine (knows_any _).mono ?_
    rintro e w1 ⟨rfl, hb⟩
    go_wp2_with fail
    go_ret
    exact ⟨rfl, hb⟩
  by_cases g2 : 10000 < m
  · go_enter Try.func6, Try.ntmps6
    go_wp2_with fail
    refine (lightly A n cp w (by omega)).mono ?_
    rintro e w' ⟨rfl, rfl⟩
    go_wp2_with fail
    refine (greatly B m cm w (Nat.le_trans hc2 hm2) g2).mono ?_
    rintro e w' ⟨rfl, rfl⟩
    go_wp2_with fail
    refine (knows_any _).mono ?_
    rintro e w1 ⟨rfl, hb⟩
    go_wp2_with fail
    go_ret
    exact ⟨rfl, hb⟩
  by_cases hlong : 4000 < n
  · by_cases hok : okF lm
    · exact frames_long A n cp l B m cm lm w hA hc hB hc2 (by omega) (by omega) hlong hok
    · exact frames_long_not A n cp l B m cm lm w hA hc hB hc2 (by omega) (by omega) hlong hok
  · by_cases hok : okF lm
    · exact frames_short A n cp l B m cm lm w hA hc hB hc2 (by omega) (by omega) (by omega) hok
    · exact frames_short_not A n cp l B m cm lm w hA hc hB hc2 (by omega) (by omega) (by omega) hok
end Go.Proofs.Ytalggmdnefolfaa
