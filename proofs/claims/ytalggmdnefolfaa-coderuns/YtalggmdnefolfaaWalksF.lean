/-
  Contracts of great and knows: the document's examples hold. No condition.
-/
import Derived.Test.YtalggmdnefolfaaWalksE
import Derived.KernelRfl
import Derived.Deep.DeepMust
import Derived.Lib.SlBytesConst
namespace Go.Proofs.Ytalggmdnefolfaa
open Go.RowKit
set_option linter.unusedVariables false

set_option maxHeartbeats 400000 in
theorem great_any (A : Option Addr) (n cp : Nat) (w : World) (h : n ≤ 140737488355328) :
    Calls Try.prog 10 #[.slice A n cp] w fun e w' => e = .returned (.bool (decide ((10000 : Int) < (n : Int)))) ∧ w = w' := by
  go_enter Try.func10, Try.ntmps10
  go_wp2
  go_ret
  exact ⟨rfl, rfl⟩

theorem own_cap {w : World} {base s n c : Nat} {e : TypeId} {A : Option Addr} {xs : List Value} (h : w.ownsRow base e s (.slice A n c) n xs) : n ≤ c := by
  rcases h.2 with ⟨hv, h0⟩ | ⟨g, cap, cur, hv, _, _, h3, _⟩
  · omega
  · injection hv with _ _ e3; omega

theorem k_frame : frameOf [] = [0, 0, 0, 0, 33, 68, 223, 28] := by decide +kernel
theorem k_sum : crcOf [49, 50, 51, 52, 53, 54, 55, 56, 57] = 3421780262 := by decide +kernel
theorem k_num : i64 (valOf ((be 8 (u64 (-5))).take 8)) = -5 := by decide +kernel
theorem k_text : textOf ⟨#[97, 98]⟩ = [0, 0, 0, 0, 0, 0, 0, 2, 97, 98] := by decide +kernel
theorem k_val : valOf (([0, 0, 0, 0, 33, 68, 223, 28, 7] : List UInt8).take 4) = 0 := by decide +kernel
theorem k_sums : sumAt [0, 0, 0, 0, 33, 68, 223, 28, 7] = sumOf [0, 0, 0, 0, 33, 68, 223, 28, 7] 0 := by decide +kernel

theorem lies_row (w : World) (vs : Array Value) (t : TypeId) (fr : Nat × Nat) (n : Nat) (hn : vs.toList.length = n) (B : Nat) (hB : w.heap.size < B) : Lies (w.alloc (.cells vs t fr)) B 1 (some ⟨w.heap.size, 0, none⟩) n vs.toList :=
  ⟨by rw [hn, Nat.mul_one], fun j v hj => ⟨_, rfl, hB, by
    have : (⟨w.heap.size, 0, none⟩ : Addr).add j = ⟨w.heap.size, j, none⟩ := by unfold Addr.add; split <;> simp_all
    rw [this, cell_of_row (w.alloc (.cells vs t fr)) w.heap.size j vs t fr (heap_alloc_new w _)]
    simpa using hj⟩⟩

set_option maxHeartbeats 1000000 in
theorem knows_any (w : World) : Calls Try.prog 11 #[] w fun e w' => e = .returned (.bool true) ∧ Below w.heap.size w w' := by
  obtain ⟨i0, hi, hz0, hz1, hz2⟩ := info_parts Try.info5
  go_enter Try.func11, Try.ntmps11
  go_wp2_with fail
  refine (frame_yes none 0 0 [] w (by omega) Lies.nil).mono ?_
  rintro e w1 ⟨A1, c1, rfl, ho1, hb1⟩
  rw [k_frame] at ho1
  have hL1 := Lies.of_own ho1
  have hL1a := hL1.next (below_alloc w1 (.cells #[] 5))
  go_wp2_with (at_builtin; go_must (refine wpList_app _ rfl (.tmp 14) (.tmp 15) 22 rfl w1.heap.size 5 i0 (.int .u8 0) 1 1 Try.underlying22 hi hz0 hz1 hz2 rfl (by decide) _ 0 0 [] rfl (own_empty w1 5 _ (Nat.le_refl _)) _ A1 8 c1 _ rfl hL1a (bc_one _) 8 _ rfl rfl (by unfold maxLen; omega) (by omega) (below_alloc w1 (.cells #[] 5)).size ?_))
  intro A2 c2 w2 ho2 hb2
  have hb12 : Below w1.heap.size w1 w2 := (below_alloc w1 (.cells #[] 5)).trans hb2
  have hb02 : Below w.heap.size w w2 := hb1.trans (hb12.mono hb1.size)
  clear hL1a hb2
  go_wp2_with (at_builtin; go_must (refine wpList_app _ rfl (.tmp 16) (.tmp 17) 22 rfl w1.heap.size 5 i0 (.int .u8 0) 1 1 Try.underlying22 hi hz0 hz1 hz2 rfl (by decide) A2 8 c2 _ rfl (ho2.alloc _) _ _ 1 1 _ rfl (lies_new w2 _ 5 (w2.heap.size + 1) (Nat.lt_succ_self _)) ?c1 9 (bc [0, 0, 0, 0, 33, 68, 223, 28, 7]) rfl rfl ?c3 ?c4 ?c5 ?_))
  case c1 => intro u hu; simp at hu; subst hu; rfl
  case c3 => unfold maxLen; omega
  case c4 => omega
  case c5 => have := hb12.size; simp; omega
  intro A3 c3 w3 ho3 hb3
  have hb13 : Below w1.heap.size w1 w3 := (hb12.alloc hb12.size _).trans hb3
  have hb03 : Below w.heap.size w w3 := hb1.trans (hb13.mono hb1.size)
  have hL13 := hL1.next hb13
  clear hb3 hb12 hb02 hL1 hb1
  go_wp2_with fail
  refine (takeFrame_yes A3 9 c3 0 [0, 0, 0, 0, 33, 68, 223, 28, 7] w3 (own_cap ho3) (by omega) (Lies.of_own ho3) (by omega) k_val (by omega) (by omega) k_sums).mono ?_
  rintro e w4 ⟨A4, c4, A5, c5, rfl, hL4, ho5, hb4⟩
  have hL14 := hL13.next hb4
  have hb04 : Below w.heap.size w w4 := hb03.trans (hb4.mono hb03.size)
  have hL5 := Lies.of_own ho5
  clear hL13 hb4 hb03 ho5 ho1 ho2 ho3 hb13 hL4
  go_wp2_with fail
  refine (num_any (-5) w4 (by omega) (by omega)).mono ?_
  rintro e w5 ⟨A6, c6, rfl, ho6, hb5⟩
  have hL15 := hL14.next hb5
  have hL55 := hL5.next hb5
  have hb05 : Below w.heap.size w w5 := hb04.trans (hb5.mono hb04.size)
  clear hL14 hL5 hb5 hb04
  go_wp2_with fail
  refine (takeNum_yes A6 8 c6 _ w5 (by omega) (own_cap ho6) (by omega) (Lies.of_own ho6)).mono ?_
  rintro e w6 ⟨A7, c7, rfl, ho7, hb6⟩
  rw [k_num]
  have hL16 := hL15.next hb6
  have hL56 := hL55.next hb6
  have hb06 : Below w.heap.size w w6 := hb05.trans (hb6.mono hb05.size)
  clear hL15 hL55 hb6 hb05 ho6 ho7
  have kc := fun (w : World) (C : Array Value) (n c : Nat) => Lib.run_convert_bytes_const (P := Try.prog) w 22 5 C n c Try.underlying22 Try.underlying5
  have hrow := lies_row w6 (bc [49, 50, 51, 52, 53, 54, 55, 56, 57]).toArray 5 (9, 10) 9 rfl (w6.alloc (.cells (bc [49, 50, 51, 52, 53, 54, 55, 56, 57]).toArray 5 (9, 10))).heap.size (by simp)
  have hbr : Below w6.heap.size w6 (w6.alloc (.cells (bc [49, 50, 51, 52, 53, 54, 55, 56, 57]).toArray 5 (9, 10))) := below_alloc _ _
  go_wp2_with fail
  refine (sum_any _ 9 9 [49, 50, 51, 52, 53, 54, 55, 56, 57] _ (by omega) hrow).mono ?_
  rintro e w7 ⟨rfl, hw7⟩
  have hbr7 : Below w6.heap.size w6 w7 := hw7 ▸ hbr
  rw [k_sum]
  clear hrow hbr hw7 kc
  have hL17 := hL16.next hbr7
  have hL57 := hL56.next hbr7
  have hb07 : Below w.heap.size w w7 := hb06.trans (hbr7.mono hb06.size)
  clear hL16 hL56 hb06 hbr7
  have hcf : (convert 22 9 (.slice A1 8 c1)).run Try.prog w7 = .ok (.string ⟨#[0, 0, 0, 0, 33, 68, 223, 28]⟩) w7 := run_str _ _ 22 9 5 A1 8 c1 _ Try.underlying22 Try.underlying5 Try.underlying9 hL17
  have hcb : (convert 22 9 (.slice A5 1 c5)).run Try.prog w7 = .ok (.string ⟨#[7]⟩) w7 := run_str _ _ 22 9 5 A5 1 c5 _ Try.underlying22 Try.underlying5 Try.underlying9 hL57
  go_wp2_with fail
  refine (text_any ⟨#[97, 98]⟩ w7 (by decide)).mono ?_
  rintro e w8 ⟨A8, c8, rfl, ho8, hb8⟩
  rw [k_text] at ho8
  have hct : (convert 22 9 (.slice A8 10 c8)).run Try.prog w8 = .ok (.string ⟨#[0, 0, 0, 0, 0, 0, 0, 2, 97, 98]⟩) w8 := run_str _ _ 22 9 5 A8 10 c8 _ Try.underlying22 Try.underlying5 Try.underlying9 (Lies.of_own ho8)
  have hb08 : Below w.heap.size w w8 := hb07.trans (hb8.mono hb07.size)
  clear hL17 hL57 hcf hcb ho8 hb8 hb07
  go_wp2_with fail
  go_ret
  exact ⟨rfl, hb08⟩
end Go.Proofs.Ytalggmdnefolfaa
