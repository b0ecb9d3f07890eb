/-
  Contracts of Frame and TakeFrame, of the program's and of the document's own. Conditions: sizes below 2^46.
-/
import Derived.Test.YtalggmdnefolfaaWalksC
namespace Go.Proofs.Ytalggmdnefolfaa
open Go.RowKit
set_option linter.unusedVariables false

theorem own_next {w w' : World} {base s n : Nat} {e : TypeId} {v : Value} {xs : List Value} (h : w.ownsRow base e s v n xs) (hb : Below w.heap.size w w') : w'.ownsRow base e s v n xs :=
  h.kept (row := none) ⟨hb.os, hb.tape, hb.output, hb.size, fun k hk _ => hb.block k hk⟩ (by cases v.ownBlock <;> simp)

theorem _root_.Go.World.ownsRow.lower {w : World} {base base' s n : Nat} {e : TypeId} {v : Value} {xs : List Value} (h : w.ownsRow base e s v n xs) (hb : base' ≤ base) : w.ownsRow base' e s v n xs := by
  refine ⟨h.1, ?_⟩
  rcases h.2 with h2 | ⟨g, cap, cur, hv, hg, r⟩
  · exact .inl h2
  · exact .inr ⟨g, cap, cur, hv, Nat.le_trans hb hg, r⟩

/-- A payload's frame. -/
def frameOf (l : List UInt8) : List UInt8 := be 4 l.length ++ (be 4 (crcOf (be 4 l.length ++ l)) ++ l)

theorem frameOf_length (l : List UInt8) : (frameOf l).length = 8 + l.length := by unfold frameOf; simp [be_length]; omega

set_option maxHeartbeats 400000 in
theorem frame_no (A : Option Addr) (n cp : Nat) (w : World) (h : 4000 < n) :
    Calls Try.prog 22 #[.slice A n cp] w fun e w' => e = .returned (.tuple #[.slice none 0 0, .int .i64 3]) ∧ w = w' := by
  go_enter Try.func22, Try.ntmps22
  go_wp2
  go_ret2
  exact ⟨rfl, rfl⟩

set_option maxHeartbeats 400000 in
theorem frame_yes (A : Option Addr) (n cp : Nat) (l : List UInt8) (w : World) (h : n ≤ 4000) (hA : Lies w w.heap.size 1 A n (bc l)) :
    Calls Try.prog 22 #[.slice A n cp] w fun e w' => ∃ A' c', e = .returned (.tuple #[.slice A' (8 + n) c', .int .i64 0]) ∧
      w'.ownsRow w.heap.size 5 1 (.slice A' (8 + n) c') (8 + n) (bc (frameOf l)) ∧ Below w.heap.size w w' := by
  obtain ⟨i0, hi, hz0, hz1, hz2⟩ := info_parts Try.info5
  have hlen := Lib.hid hA.len
  go_enter Try.func22, Try.ntmps22
  go_wp2_with fail
  refine (written_at n 4 _ _ rfl rfl w (by omega) (by decide)).mono ?_
  rintro e w1 ⟨A1, c1, rfl, ho1, hb1⟩
  have hA1 := hA.next hb1
  have hL1 := Lies.of_own ho1
  go_wp2_with fail
  refine (frameSum_any A1 4 c1 (be 4 n) A n cp l _ (by omega) (by omega) hL1 hA1).mono ?_
  rintro e w' ⟨rfl, rfl⟩
  have hq := crcOf_lt (be 4 n ++ l)
  have HF : Hid (bc (frameOf l) = (bc (be 4 n) ++ bc (be 4 (crcOf (be 4 n ++ l)))) ++ bc l) := by
    show _ = _
    unfold frameOf; rw [hlen.out]; simp only [bc_append, List.append_assoc]
  generalize crcOf (be 4 n ++ l) = q at *
  go_wp2_with fail
  refine (written_at q 4 _ _ rfl rfl w1 (by omega) (by decide)).mono ?_
  rintro e w2 ⟨A2, c2, rfl, ho2, hb2⟩
  have hL2 := Lies.of_own ho2
  have ho12 := own_next ho1 hb2
  have hb12 : Below w.heap.size w w2 := hb1.trans (hb2.mono hb1.size)
  go_wp2_with (at_builtin; refine wpList_app _ rfl (.tmp 18) (.tmp 19) 22 rfl w.heap.size 5 i0 (.int .u8 0) 1 1 Try.underlying22 hi hz0 hz1 hz2 rfl (by decide) A1 4 c1 _ rfl ho12 _ A2 4 c2 _ rfl hL2 (bc_one _) 8 _ rfl rfl (by unfold maxLen; omega) (by omega) hb12.size ?_)
  intro A3 c3 w3 ho3 hb3
  have hb13 := hb12.trans hb3
  have hA3 := hA.below hb13
  clear hb1 hb2 hb12 hb3 ho1 ho2 ho12 hL1 hL2 hA1
  go_wp2_with (at_builtin; refine wpList_app _ rfl (.tmp 20) (.tmp 21) 22 rfl w.heap.size 5 i0 (.int .u8 0) 1 1 Try.underlying22 hi hz0 hz1 hz2 rfl (by decide) A3 8 c3 _ rfl ho3 _ A n cp _ rfl hA3 (bc_one _) (8 + n) _ rfl HF.out.symm (by unfold maxLen; omega) (by omega) hb13.size ?_)
  intro A4 c4 w4 ho4 hb4
  have hb14 := hb13.trans hb4
  go_wp2_with fail
  go_ret2
  exact ⟨_, _, rfl, ho4, hb14⟩

theorem own_empty (w : World) (e : TypeId) (base : Nat) (hb : base ≤ w.heap.size) : (w.alloc (.cells #[] e)).ownsRow base e 1 (.slice (some ⟨w.heap.size, 0, none⟩) 0 0) 0 [] :=
  ⟨rfl, .inr ⟨w.heap.size, 0, #[], rfl, hb, heap_alloc_new w _, Nat.le_refl _, Nat.zero_le _, rfl, rfl⟩⟩

theorem below_alloc (w : World) (o : Obj) : Below w.heap.size w (w.alloc o) := (Below.refl _ _).alloc (Nat.le_refl _) o

set_option maxHeartbeats 400000 in
theorem rframe_yes (A : Option Addr) (n cp : Nat) (l : List UInt8) (w : World) (h : n ≤ 4000) (hA : Lies w w.heap.size 1 A n (bc l)) :
    Calls Try.prog 23 #[.slice A n cp] w fun e w' => ∃ A' c', e = .returned (.slice A' (8 + n) c') ∧
      w'.ownsRow w.heap.size 5 1 (.slice A' (8 + n) c') (8 + n) (bc (frameOf l)) ∧ Below w.heap.size w w' := by
  obtain ⟨i0, hi, hz0, hz1, hz2⟩ := info_parts Try.info5
  have hlen := Lib.hid hA.len
  go_enter Try.func23, Try.ntmps23
  go_wp2_with fail
  refine (digits_any 4 n _ _ w rfl rfl (by omega) (by decide)).mono ?_
  rintro e w1 ⟨A1, c1, rfl, ho1, hb1⟩
  have hb1a : Below w.heap.size w (w1.alloc (.cells #[] 5)) := hb1.alloc hb1.size _
  have hL1 := (Lies.of_own ho1)
  have hL1a := hL1.next (below_alloc w1 (.cells #[] 5))
  go_wp2_with (at_builtin; refine wpList_app _ rfl (.tmp 10) (.tmp 11) 22 rfl w1.heap.size 5 i0 (.int .u8 0) 1 1 Try.underlying22 hi hz0 hz1 hz2 rfl (by decide) _ 0 0 [] rfl (own_empty w1 5 _ (Nat.le_refl _)) _ A1 4 c1 _ rfl hL1a (bc_one _) 4 _ rfl rfl (by unfold maxLen; omega) (by omega) (below_alloc w1 (.cells #[] 5)).size ?_)
  intro A2 c2 w2 ho2 hb2
  have hb12 : Below w1.heap.size w1 w2 := (below_alloc w1 (.cells #[] 5)).trans hb2
  have hb02 : Below w.heap.size w w2 := hb1.trans (hb12.mono hb1.size)
  have hA2 := hA.below hb02
  clear hb1a hL1a hb2
  go_wp2_with (at_builtin; refine wpList_app _ rfl (.tmp 13) (.tmp 14) 22 rfl w1.heap.size 5 i0 (.int .u8 0) 1 1 Try.underlying22 hi hz0 hz1 hz2 rfl (by decide) A2 4 c2 _ rfl ho2 _ A n cp _ rfl hA2 (bc_one _) (4 + n) (bc (be 4 n ++ l)) rfl (bc_append _ _).symm (by unfold maxLen; omega) (by omega) hb12.size ?_)
  intro A3 c3 w3 ho3 hb3
  have hb13 : Below w1.heap.size w1 w3 := hb12.trans hb3
  have hb03 : Below w.heap.size w w3 := hb1.trans (hb13.mono hb1.size)
  have hL1a := (hL1.next hb13).next (below_alloc w3 (.cells #[] 5))
  have hL3 := Lies.of_own ho3
  clear hb12 hb02 hA2 ho2 hb3
  go_wp2_with (at_builtin; refine wpList_app _ rfl (.tmp 16) (.tmp 17) 22 rfl w3.heap.size 5 i0 (.int .u8 0) 1 1 Try.underlying22 hi hz0 hz1 hz2 rfl (by decide) _ 0 0 [] rfl (own_empty w3 5 _ (Nat.le_refl _)) _ A1 4 c1 _ rfl hL1a (bc_one _) 4 _ rfl rfl (by unfold maxLen; omega) (by omega) (below_alloc w3 (.cells #[] 5)).size ?_)
  intro A4 c4 w4 ho4 hb4
  have hb34 : Below w3.heap.size w3 w4 := (below_alloc w3 (.cells #[] 5)).trans hb4
  have hL34 := hL3.next hb34
  clear hb4 hL1a hL3 hL1
  go_wp2_with fail
  refine (rsum_any A3 (4 + n) c3 (be 4 n ++ l) _ (by omega) hL34).mono ?_
  rintro e w' ⟨rfl, rfl⟩
  have hq := crcOf_lt (be 4 n ++ l)
  have HF : Hid (bc (frameOf l) = (bc (be 4 n) ++ bc (be 4 (crcOf (be 4 n ++ l)))) ++ bc l) := by
    show _ = _
    unfold frameOf; rw [hlen.out]; simp only [bc_append, List.append_assoc]
  generalize crcOf (be 4 n ++ l) = q at *
  go_wp2_with fail
  refine (digits_any 4 q _ _ w4 rfl rfl (by omega) (by decide)).mono ?_
  rintro e w5 ⟨A5, c5, rfl, ho5, hb5⟩
  have ho45 := own_next ho4 hb5
  have hL5 := Lies.of_own ho5
  have hb35 : Below w3.heap.size w3 w5 := hb34.trans (hb5.mono hb34.size)
  go_wp2_with (at_builtin; refine wpList_app _ rfl (.tmp 19) (.tmp 23) 22 rfl w3.heap.size 5 i0 (.int .u8 0) 1 1 Try.underlying22 hi hz0 hz1 hz2 rfl (by decide) A4 4 c4 _ rfl ho45 _ A5 4 c5 _ rfl hL5 (bc_one _) 8 _ rfl rfl (by unfold maxLen; omega) (by omega) hb35.size ?_)
  intro A6 c6 w6 ho6 hb6
  have hb36 := hb35.trans hb6
  have hb06 : Below w.heap.size w w6 := hb03.trans (hb36.mono hb03.size)
  have hA6 := hA.below hb06
  clear hb34 hb35 hb5 hb6 ho5 ho45 ho4 hL5 hL34
  go_wp2_with (at_builtin; refine wpList_app _ rfl (.tmp 25) (.tmp 26) 22 rfl w3.heap.size 5 i0 (.int .u8 0) 1 1 Try.underlying22 hi hz0 hz1 hz2 rfl (by decide) A6 8 c6 _ rfl ho6 _ A n cp _ rfl hA6 (bc_one _) (8 + n) _ rfl HF.out.symm (by unfold maxLen; omega) (by omega) hb36.size ?_)
  intro A7 c7 w7 ho7 hb7
  have hb07 : Below w.heap.size w w7 := hb06.trans (hb7.mono hb03.size)
  have ho07 := ho7.lower hb03.size
  go_wp2_with fail
  go_ret
  exact ⟨_, _, rfl, ho07, hb07⟩
end Go.Proofs.Ytalggmdnefolfaa
