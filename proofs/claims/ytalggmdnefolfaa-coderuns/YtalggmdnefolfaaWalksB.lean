/-
  Contracts of Digits, Num and Text, of the program's and of the document's own. Conditions: sizes below 2^46.
-/
import Derived.Test.YtalggmdnefolfaaWalksA
namespace Go.Proofs.Ytalggmdnefolfaa
open Go.RowKit
set_option linter.unusedVariables false

theorem lies_new (w : World) (u : Value) (t : TypeId) (B : Nat) (hB : w.heap.size < B) : Lies (w.alloc (.cells #[u] t)) B 1 (some ⟨w.heap.size, 0, none⟩) 1 [u] :=
  ⟨rfl, fun j v hj => ⟨_, rfl, hB, cell_one_new w u t j v hj⟩⟩

set_option maxHeartbeats 400000 in
theorem digits_any (k : Nat) : ∀ (n : Nat) (x y : Int) (w : World), x = (n : Int) → y = (k : Int) → n < 18446744073709551616 → k ≤ 8 →
    Calls Try.prog 28 #[.int .u64 x, .int .i64 y] w fun e w' => ∃ A c, e = .returned (.slice A k c) ∧ w'.ownsRow w.heap.size 5 1 (.slice A k c) k (bc (be k n)) ∧ Below w.heap.size w w' := by
  obtain ⟨i0, hi, hz0, hz1, hz2⟩ := info_parts Try.info5
  induction k with
  | zero =>
    intro n x y w hx hy hn hk
    subst hx hy
    have h0 : (((0 : Nat) : Int) == 0) = true := rfl
    go_enter Try.func28, Try.ntmps28
    go_wp2_with fail
    go_ret
    exact ⟨_, _, rfl, World.ownsRow_nil _ _ _ _, Below.refl _ _⟩
  | succ k ih =>
    intro n x y w hx hy hn hk
    subst hx hy
    have IH := Lib.hid ih
    clear ih
    have h0 : (((k + 1 : Nat) : Int) == 0) = false := by simp; omega
    have h1 : (((k : Int) + 1) == 0) = false := by simp; omega
    go_enter Try.func28, Try.ntmps28
    go_wp2_with fail
    refine (IH.out (n / 256) _ _ _ (by omega) (by omega) (by omega) (by omega)).mono ?_
    rintro e w1 ⟨A, c, rfl, ho, hb⟩
    go_wp2_with (at_builtin; refine wpList_app _ rfl _ _ 22 rfl w.heap.size 5 i0 (.int .u8 0) 1 1 Try.underlying22 hi hz0 hz1 hz2 rfl (by decide) A k c _ rfl (ho.alloc _) (w1.heap.size + 1) _ 1 1 _ rfl (lies_new w1 _ 5 _ (Nat.lt_succ_self _)) ?c1 (k + 1) (bc (be (k + 1) n)) rfl ?c2 ?c3 ?c4 ?c5 ?_)
    case c1 => intro u hu; simp at hu; subst hu; rfl
    case c2 => rw [be, bc_append]; simp [bc]
    case c3 => unfold maxLen; omega
    case c4 => omega
    case c5 => have := hb.size; simp; omega
    intro A' c' w2 ho2 hb2
    have hbb : Below w.heap.size w w2 := (hb.alloc hb.size _).trans hb2
    go_wp2_with fail
    go_ret
    exact ⟨_, _, rfl, ho2, hbb⟩

/-- A number of 64 bits as one from 0 on. -/
def u64 (n : Int) : Nat := (IntKind.u64.wrap n).toNat

theorem wrap_u64 (n : Int) : IntKind.u64.wrap n = n % 18446744073709551616 := by simp [IntKind.wrap, IntKind.bits, IntKind.signed]
theorem u64_eq (n : Int) : IntKind.u64.wrap n = (u64 n : Int) := by unfold u64; rw [wrap_u64]; omega
theorem u64_lt (n : Int) : u64 n < 18446744073709551616 := by unfold u64; rw [wrap_u64]; omega
theorem u64_nat (k : Nat) (h : k < 18446744073709551616) : u64 (k : Int) = k := by unfold u64; rw [wrap_u64]; omega

set_option maxHeartbeats 400000 in
theorem num_any (n : Int) (w : World) (h1 : -9223372036854775808 ≤ n) (h2 : n ≤ 9223372036854775807) :
    Calls Try.prog 14 #[.int .i64 n] w fun e w' => ∃ A c, e = .returned (.slice A 8 c) ∧ w'.ownsRow w.heap.size 5 1 (.slice A 8 c) 8 (bc (be 8 (u64 n))) ∧ Below w.heap.size w w' := by
  go_enter Try.func14, Try.ntmps14
  go_wp2_with fail
  refine (written_at (u64 n) 8 _ _ (u64_eq n) rfl w (u64_lt n) (by decide)).mono ?_
  rintro e w1 ⟨A, c, rfl, ho, hb⟩
  go_wp2_with fail
  go_ret
  exact ⟨_, _, rfl, ho, hb⟩

set_option maxHeartbeats 400000 in
theorem rnum_any (n : Int) (w : World) (h1 : -9223372036854775808 ≤ n) (h2 : n ≤ 9223372036854775807) :
    Calls Try.prog 15 #[.int .i64 n] w fun e w' => ∃ A c, e = .returned (.slice A 8 c) ∧ w'.ownsRow w.heap.size 5 1 (.slice A 8 c) 8 (bc (be 8 (u64 n))) ∧ Below w.heap.size w w' := by
  go_enter Try.func15, Try.ntmps15
  go_wp2_with fail
  refine (digits_any 8 (u64 n) _ _ w (u64_eq n) rfl (u64_lt n) (by decide)).mono ?_
  rintro e w1 ⟨A, c, rfl, ho, hb⟩
  go_wp2_with fail
  go_ret
  exact ⟨_, _, rfl, ho, hb⟩

/-- A text's bytes. -/
def textOf (s : ByteArray) : List UInt8 := be 8 s.size ++ s.data.toList

set_option maxHeartbeats 400000 in
theorem text_any (s : ByteArray) (w : World) (h : s.size ≤ 70368744177664) :
    Calls Try.prog 16 #[.string s] w fun e w' => ∃ A c, e = .returned (.slice A (8 + s.size) c) ∧ w'.ownsRow w.heap.size 5 1 (.slice A (8 + s.size) c) (8 + s.size) (bc (textOf s)) ∧ Below w.heap.size w w' := by
  obtain ⟨i0, hi, hz0, hz1, hz2⟩ := info_parts Try.info5
  go_enter Try.func16, Try.ntmps16
  go_wp2_with fail
  refine (num_any _ w (by omega) (by omega)).mono ?_
  rintro e w1 ⟨A, c, rfl, ho, hb⟩
  rw [u64_nat s.size (by omega)] at ho
  go_wp2_with (at_builtin; refine wpList_app_string _ rfl _ _ 22 9 rfl w.heap.size 5 i0 Try.underlying22 Try.underlying9 hi hz0 hz1 hz2 A 8 c _ rfl ho s rfl (8 + s.size) (bc (textOf s)) rfl ?c2 ?c3 ?c4 ?c5 ?_)
  case c2 => unfold textOf; rw [bc_append]
  case c3 => unfold maxLen; omega
  case c4 => omega
  case c5 => exact hb.size
  intro A' c' w2 ho2 hb2
  have hbb := hb.trans hb2
  go_wp2_with fail
  go_ret
  exact ⟨_, _, rfl, ho2, hbb⟩

set_option maxHeartbeats 400000 in
theorem rtext_any (s : ByteArray) (w : World) (h : s.size ≤ 70368744177664) :
    Calls Try.prog 17 #[.string s] w fun e w' => ∃ A c, e = .returned (.slice A (8 + s.size) c) ∧ w'.ownsRow w.heap.size 5 1 (.slice A (8 + s.size) c) (8 + s.size) (bc (textOf s)) ∧ Below w.heap.size w w' := by
  obtain ⟨i0, hi, hz0, hz1, hz2⟩ := info_parts Try.info5
  go_enter Try.func17, Try.ntmps17
  go_wp2_with fail
  refine (rnum_any _ w (by omega) (by omega)).mono ?_
  rintro e w1 ⟨A, c, rfl, ho, hb⟩
  rw [u64_nat s.size (by omega)] at ho
  go_wp2_with fail
  go_loopw [3, 4] (fun v i wr => ∃ k A' c', k ≤ s.size ∧ i = .int .i64 (k : Nat) ∧ v = .slice A' (8 + k) c' ∧
      wr.ownsRow w.heap.size 5 1 (.slice A' (8 + k) c') (8 + k) (bc (be 8 s.size ++ s.data.toList.take k)) ∧ Below w.heap.size w wr) (fun _ i _ => s.size - (intOf i).toNat)
  case atStart => exact ⟨0, A, c, Nat.zero_le _, rfl, rfl, by simpa using ho, hb⟩
  case round =>
    obtain ⟨k, A', c', hk, rfl, rfl, hok, hbk⟩ := hrel
    by_cases hlt : k < s.size
    · have hts : Hid (s.data.toList.take (k + 1) = s.data.toList.take k ++ [s[k]]) := by
        show _ = _
        rw [List.take_succ_eq_append_getElem (by simpa using hlt)]; rfl
      go_wp2_with (at_builtin; refine wpList_app _ rfl _ _ 22 rfl w.heap.size 5 i0 (.int .u8 0) 1 1 Try.underlying22 hi hz0 hz1 hz2 rfl (by decide) A' (8 + k) c' _ rfl (hok.alloc _) (wr.heap.size + 1) _ 1 1 _ rfl (lies_new wr _ 5 _ (Nat.lt_succ_self _)) ?c1 (8 + (k + 1)) (bc (be 8 s.size ++ s.data.toList.take (k + 1))) ?c0 ?c2 ?c3 ?c4 ?c5 ?_)
      case c0 => omega
      case c1 => intro u hu; simp at hu; subst hu; rfl
      case c2 => rw [hts.out]; simp only [bc_append, List.append_assoc]; rfl
      case c3 => unfold maxLen; omega
      case c4 => omega
      case c5 => have := hbk.size; simp; omega
      intro A2 c2 w2 ho2 hb2
      have hbb : Below w.heap.size w w2 := (hbk.alloc hbk.size _).trans hb2
      go_wp2_with fail
      go_roundw
      case rel => exact ⟨k + 1, A2, c2, by omega, by go_num, rfl, ho2, hbb⟩
      case measure => simp [intOf]; omega
    · go_wp2_with fail
      go_ret
      obtain rfl : k = s.size := by omega
      exact ⟨_, _, rfl, by rw [List.take_of_length_le (by simp)] at hok; exact hok, hbk⟩
end Go.Proofs.Ytalggmdnefolfaa
