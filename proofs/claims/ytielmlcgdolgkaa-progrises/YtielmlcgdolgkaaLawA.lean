/-
  The contract of the document's SameMsgs at two lists that are alike, and of the examples (knows), which come out true. No condition.
-/
import Derived.Test.YtielmlcgdolgkaaProF
import Derived.Test.YtielmlcgdolgkaaRefD
import Derived.BigQuiet
namespace Go.Proofs.Ytielmlcgdolgkaa
open Go.ChangeShapes Go.WideShapes Go.ChangeAt Go.RowKit
set_option linter.unusedVariables false

def SmRel (n : Nat) (w : World) (i : Value) (W : World) : Prop := ∃ k : Nat, i = .int .i64 k ∧ k ≤ n ∧ ∃ q, W = w.drewN q

set_option maxHeartbeats 1000000 in
theorem sameM_yes (A : Option Addr) (n c : Nat) (A' : Option Addr) (c' : Nat) (ms : List Ms) (w : World) (hA : Lies w w.heap.size 2 A n (mc ms)) (hA' : Lies w w.heap.size 2 A' n (mc ms)) (hn : n ≤ 80) :
    Calls Try.prog 20 #[.slice A n c, .slice A' n c'] w fun e w' => e = .returned (.bool true) ∧ Below w.heap.size w w' := by
  obtain rfl := hA.ms_len
  go_enter Try.func20, Try.ntmps20
  go_wp2_with fail
  go_loopw [5] (fun i W => SmRel ms.length w i W) (fun i W => ms.length - (intOf i).toNat)
  case atStart => exact ⟨0, rfl, Nat.zero_le _, 0, rfl⟩
  case round =>
    obtain ⟨k, rfl, hk, q, rfl⟩ := hrel
    by_cases hlt : k < ms.length
    · obtain ⟨ad, rfl, hadb, e0, e1⟩ := hA.ms k hlt
      obtain ⟨ad', rfl, hadb', e0', e1'⟩ := hA'.ms k hlt
      have hkl : (k : Int) < (ms.length : Int) := by omega
      go_wp2_with fail
      go_quiet (fail)
      go_wp2_with fail
      go_roundw
      case rel => exact ⟨k + 1, by go_num, by omega, q + nq, rfl⟩
      case measure => simp [intOf]; omega
    · go_wp2_with fail
      go_ret
      exact ⟨rfl, ⟨rfl, rfl, rfl, Nat.le_refl _, fun _ _ => rfl⟩⟩

theorem kn1 : stV 2 twoE 1 0 9 1 1 = 9223372036854775807 := by kernel_rfl
theorem kn1' : vchk 2 twoE 1 0 9 1 1 = 0 := by kernel_rfl
theorem kn2 : turnR 2 twoE 1 0 9 1 1 1 9223372036854775807 7 true = (7, [(0, 12)], true, 0) := by kernel_rfl
theorem kn3 : fdX 4 3 5 = 5 ∧ fdE 4 3 5 = 0 := ⟨by kernel_rfl, by kernel_rfl⟩
theorem kn4 : turnR 2 twoE 5 0 9 1 1 0 1000000 1000000 true = (1000000, [(1, 1000000)], false, 0) := by kernel_rfl
theorem kn5 : jchk 2 twoE 5 0 9 1 = 0 := by kernel_rfl

/-- The examples' job stands boxed. -/
theorem jS {w W W' : World} {p : Int} (h : W.cell? ⟨w.heap.size, 0, none⟩ = some (.int .i64 p) ∧ W.cell? ⟨w.heap.size, 1, none⟩ = some (.int .i64 0) ∧ W.cell? ⟨w.heap.size, 2, none⟩ = some (.int .i64 9) ∧ W.cell? ⟨w.heap.size, 3, none⟩ = some (.int .i64 1) ∧ Below w.heap.size w W ∧ w.heap.size < W.heap.size ∧ W.heap[w.heap.size]? = some (.cells #[.int .i64 p, .int .i64 0, .int .i64 9, .int .i64 1] 26 (0, 0))) (hb : Below W.heap.size W W') : W'.cell? ⟨w.heap.size, 0, none⟩ = some (.int .i64 p) ∧ W'.cell? ⟨w.heap.size, 1, none⟩ = some (.int .i64 0) ∧ W'.cell? ⟨w.heap.size, 2, none⟩ = some (.int .i64 9) ∧ W'.cell? ⟨w.heap.size, 3, none⟩ = some (.int .i64 1) ∧ Below w.heap.size w W' ∧ w.heap.size < W'.heap.size ∧ W'.heap[w.heap.size]? = some (.cells #[.int .i64 p, .int .i64 0, .int .i64 9, .int .i64 1] 26 (0, 0)) := by
  obtain ⟨h0, h1, h2, h3, h4, h5, h6⟩ := h
  have k : ∀ i, W'.cell? ⟨w.heap.size, i, none⟩ = W.cell? ⟨w.heap.size, i, none⟩ := fun i => hb.cell (p := ⟨w.heap.size, i, none⟩) h5
  exact ⟨(k _).trans h0, (k _).trans h1, (k _).trans h2, (k _).trans h3, h4.trans (hb.mono (by omega)), Nat.lt_of_lt_of_le h5 hb.size, (hb.block _ h5).trans h6⟩

/-- .. with the messages of the first turn. -/
theorem kS {w W W' : World} {a4 : Addr} (h : W.cell? ⟨w.heap.size, 0, none⟩ = some (.int .i64 5) ∧ W.cell? ⟨w.heap.size, 1, none⟩ = some (.int .i64 0) ∧ W.cell? ⟨w.heap.size, 2, none⟩ = some (.int .i64 9) ∧ W.cell? ⟨w.heap.size, 3, none⟩ = some (.int .i64 1) ∧ Below w.heap.size w W ∧ w.heap.size < W.heap.size ∧ W.heap[w.heap.size]? = some (.cells #[.int .i64 5, .int .i64 0, .int .i64 9, .int .i64 1] 26 (0, 0)) ∧ W.cell? a4 = some (.int .i64 0) ∧ W.cell? ⟨a4.block, a4.off + 1, none⟩ = some (.int .i64 12) ∧ a4.block < W.heap.size) (hb : Below W.heap.size W W') : W'.cell? ⟨w.heap.size, 0, none⟩ = some (.int .i64 5) ∧ W'.cell? ⟨w.heap.size, 1, none⟩ = some (.int .i64 0) ∧ W'.cell? ⟨w.heap.size, 2, none⟩ = some (.int .i64 9) ∧ W'.cell? ⟨w.heap.size, 3, none⟩ = some (.int .i64 1) ∧ Below w.heap.size w W' ∧ w.heap.size < W'.heap.size ∧ W'.heap[w.heap.size]? = some (.cells #[.int .i64 5, .int .i64 0, .int .i64 9, .int .i64 1] 26 (0, 0)) ∧ W'.cell? a4 = some (.int .i64 0) ∧ W'.cell? ⟨a4.block, a4.off + 1, none⟩ = some (.int .i64 12) ∧ a4.block < W'.heap.size := by
  obtain ⟨h0, h1, h2, h3, h4, h5, h6, h7, h8, h9⟩ := h
  obtain ⟨g0, g1, g2, g3, g4, g5, g6⟩ := jS ⟨h0, h1, h2, h3, h4, h5, h6⟩ hb
  exact ⟨g0, g1, g2, g3, g4, g5, g6, (hb.cell h9).trans h7, (hb.cell (p := ⟨a4.block, a4.off + 1, none⟩) h9).trans h8, Nat.lt_of_lt_of_le h9 hb.size⟩

/-- .. and those of the second. -/
theorem lS {w W W' : World} {a4 a8 : Addr} (h : W.cell? ⟨w.heap.size, 0, none⟩ = some (.int .i64 5) ∧ W.cell? ⟨w.heap.size, 1, none⟩ = some (.int .i64 0) ∧ W.cell? ⟨w.heap.size, 2, none⟩ = some (.int .i64 9) ∧ W.cell? ⟨w.heap.size, 3, none⟩ = some (.int .i64 1) ∧ Below w.heap.size w W ∧ w.heap.size < W.heap.size ∧ W.heap[w.heap.size]? = some (.cells #[.int .i64 5, .int .i64 0, .int .i64 9, .int .i64 1] 26 (0, 0)) ∧ W.cell? a4 = some (.int .i64 0) ∧ W.cell? ⟨a4.block, a4.off + 1, none⟩ = some (.int .i64 12) ∧ a4.block < W.heap.size) (n0 : W.cell? a8 = some (.int .i64 1)) (n1 : W.cell? ⟨a8.block, a8.off + 1, none⟩ = some (.int .i64 1000000)) (hz : a8.block < W.heap.size) (hb : Below W.heap.size W W') : W'.cell? ⟨w.heap.size, 0, none⟩ = some (.int .i64 5) ∧ W'.cell? ⟨w.heap.size, 1, none⟩ = some (.int .i64 0) ∧ W'.cell? ⟨w.heap.size, 2, none⟩ = some (.int .i64 9) ∧ W'.cell? ⟨w.heap.size, 3, none⟩ = some (.int .i64 1) ∧ Below w.heap.size w W' ∧ w.heap.size < W'.heap.size ∧ W'.heap[w.heap.size]? = some (.cells #[.int .i64 5, .int .i64 0, .int .i64 9, .int .i64 1] 26 (0, 0)) ∧ W'.cell? a4 = some (.int .i64 0) ∧ W'.cell? ⟨a4.block, a4.off + 1, none⟩ = some (.int .i64 12) ∧ a4.block < W'.heap.size ∧ W'.cell? a8 = some (.int .i64 1) ∧ W'.cell? ⟨a8.block, a8.off + 1, none⟩ = some (.int .i64 1000000) ∧ a8.block < W'.heap.size := by
  obtain ⟨g0, g1, g2, g3, g4, g5, g6, g7, g8, g9⟩ := kS h hb
  exact ⟨g0, g1, g2, g3, g4, g5, g6, g7, g8, g9, (hb.cell hz).trans n0, (hb.cell (p := ⟨a8.block, a8.off + 1, none⟩) hz).trans n1, Nat.lt_of_lt_of_le hz hb.size⟩
theorem mS {w W W' : World} {a4 a8 : Addr} (h : W.cell? ⟨w.heap.size, 0, none⟩ = some (.int .i64 5) ∧ W.cell? ⟨w.heap.size, 1, none⟩ = some (.int .i64 0) ∧ W.cell? ⟨w.heap.size, 2, none⟩ = some (.int .i64 9) ∧ W.cell? ⟨w.heap.size, 3, none⟩ = some (.int .i64 1) ∧ Below w.heap.size w W ∧ w.heap.size < W.heap.size ∧ W.heap[w.heap.size]? = some (.cells #[.int .i64 5, .int .i64 0, .int .i64 9, .int .i64 1] 26 (0, 0)) ∧ W.cell? a4 = some (.int .i64 0) ∧ W.cell? ⟨a4.block, a4.off + 1, none⟩ = some (.int .i64 12) ∧ a4.block < W.heap.size ∧ W.cell? a8 = some (.int .i64 1) ∧ W.cell? ⟨a8.block, a8.off + 1, none⟩ = some (.int .i64 1000000) ∧ a8.block < W.heap.size) (hb : Below W.heap.size W W') : W'.cell? ⟨w.heap.size, 0, none⟩ = some (.int .i64 5) ∧ W'.cell? ⟨w.heap.size, 1, none⟩ = some (.int .i64 0) ∧ W'.cell? ⟨w.heap.size, 2, none⟩ = some (.int .i64 9) ∧ W'.cell? ⟨w.heap.size, 3, none⟩ = some (.int .i64 1) ∧ Below w.heap.size w W' ∧ w.heap.size < W'.heap.size ∧ W'.heap[w.heap.size]? = some (.cells #[.int .i64 5, .int .i64 0, .int .i64 9, .int .i64 1] 26 (0, 0)) ∧ W'.cell? a4 = some (.int .i64 0) ∧ W'.cell? ⟨a4.block, a4.off + 1, none⟩ = some (.int .i64 12) ∧ a4.block < W'.heap.size ∧ W'.cell? a8 = some (.int .i64 1) ∧ W'.cell? ⟨a8.block, a8.off + 1, none⟩ = some (.int .i64 1000000) ∧ a8.block < W'.heap.size := by
  obtain ⟨h0, h1, h2, h3, h4, h5, h6, h7, h8, h9, n0, n1, hz⟩ := h
  exact lS ⟨h0, h1, h2, h3, h4, h5, h6, h7, h8, h9⟩ n0 n1 hz hb

theorem start_two (A : Option Addr) (c : Nat) (W : World) (h : Lies W W.heap.size 3 A 2 (ec twoE)) (hc : 2 ≤ c) :
    Calls Try.prog 14 #[.agg #[.int .i64 2, .slice A 2 c], .agg #[.int .i64 1, .int .i64 0, .int .i64 9, .int .i64 1], .int .i64 1] W fun e w' => e = .returned (.tuple #[.int .i64 9223372036854775807, .int .i64 0]) ∧ Below W.heap.size W w' := by
  have := start_any 2 A 2 c twoE 1 0 9 1 1 W h hc (by unfold maxLen; decide)
  rw [kn1, kn1'] at this
  exact this
theorem turn_two (A : Option Addr) (c : Nat) (W : World) (h : Lies W W.heap.size 3 A 2 (ec twoE)) (hc : 2 ≤ c) :
    Calls Try.prog 18 #[.agg #[.int .i64 2, .slice A 2 c], .agg #[.int .i64 1, .int .i64 0, .int .i64 9, .int .i64 1], .int .i64 1, .int .i64 1, .int .i64 9223372036854775807, .int .i64 7, .bool true] W fun e w' =>
      Below W.heap.size W w' ∧ ∃ ad c', e = .returned (.tuple #[.int .i64 7, .slice (some ad) 1 c', .bool true, .int .i64 0]) ∧ (W.heap.size ≤ ad.block ∧ ad.block < w'.heap.size) ∧ w'.cell? ad = some (.int .i64 0) ∧ w'.cell? ⟨ad.block, ad.off + 1, none⟩ = some (.int .i64 12) := by
  have := turn_any 2 A 2 c twoE 1 0 9 1 1 1 9223372036854775807 7 true W h hc (by unfold maxLen; decide) ⟨by decide, by decide⟩ ⟨by decide, by decide⟩
  rw [kn2] at this
  refine this.mono ?_
  rintro e w' ⟨hb, A', c', rfl, ho⟩
  obtain ⟨ad, rfl, h1, h2, h3⟩ := (Lies.of_own ho).ms 0 (by decide)
  rw [Nat.zero_mul, add_zero] at h2 h3
  exact ⟨hb, ad, c', rfl, ⟨(ho.lt ad.block rfl).1, h1⟩, h2, h3⟩
theorem turn_two5 (A : Option Addr) (c : Nat) (W : World) (h : Lies W W.heap.size 3 A 2 (ec twoE)) (hc : 2 ≤ c) :
    Calls Try.prog 18 #[.agg #[.int .i64 2, .slice A 2 c], .agg #[.int .i64 5, .int .i64 0, .int .i64 9, .int .i64 1], .int .i64 1, .int .i64 0, .int .i64 1000000, .int .i64 1000000, .bool true] W fun e w' =>
      Below W.heap.size W w' ∧ ∃ ad c', e = .returned (.tuple #[.int .i64 1000000, .slice (some ad) 1 c', .bool false, .int .i64 0]) ∧ (W.heap.size ≤ ad.block ∧ ad.block < w'.heap.size) ∧ w'.cell? ad = some (.int .i64 1) ∧ w'.cell? ⟨ad.block, ad.off + 1, none⟩ = some (.int .i64 1000000) := by
  have := turn_any 2 A 2 c twoE 5 0 9 1 1 0 1000000 1000000 true W h hc (by unfold maxLen; decide) ⟨by decide, by decide⟩ ⟨by decide, by decide⟩
  rw [kn4] at this
  refine this.mono ?_
  rintro e w' ⟨hb, A', c', rfl, ho⟩
  obtain ⟨ad, rfl, h1, h2, h3⟩ := (Lies.of_own ho).ms 0 (by decide)
  rw [Nat.zero_mul, add_zero] at h2 h3
  exact ⟨hb, ad, c', rfl, ⟨(ho.lt ad.block rfl).1, h1⟩, h2, h3⟩
theorem check_two5 (A : Option Addr) (c : Nat) (W : World) (h : Lies W W.heap.size 3 A 2 (ec twoE)) (hc : 2 ≤ c) :
    Calls Try.prog 12 #[.agg #[.int .i64 2, .slice A 2 c], .agg #[.int .i64 5, .int .i64 0, .int .i64 9, .int .i64 1]] W fun e w' => e = .returned (.int .i64 0) ∧ Below W.heap.size W w' := by
  have := jcheck_any 2 A 2 c twoE 5 0 9 1 W h hc (by unfold maxLen; decide)
  rw [kn5] at this
  exact this
theorem fold_two (W : World) : Calls Try.prog 16 #[.int .i64 4, .int .i64 3, .int .i64 5] W fun e w' => e = .returned (.tuple #[.int .i64 5, .int .i64 0]) ∧ Below W.heap.size W w' := by
  have := fold_any 4 3 5 W ⟨by decide, by decide⟩ ⟨by decide, by decide⟩
  rw [kn3.1, kn3.2] at this
  exact this

set_option maxHeartbeats 2000000 in
set_option maxRecDepth 20000 in
theorem knows_any (w : World) : Calls Try.prog 11 #[] w fun e w' => e = .returned (.bool true) ∧ Below w.heap.size w w' := by
  have q0 : (w.alloc (.cells #[.int .i64 1, .int .i64 0, .int .i64 9, .int .i64 1] 26)).drew.cell? ⟨w.heap.size, 0, none⟩ = some (.int .i64 1) ∧ (w.alloc (.cells #[.int .i64 1, .int .i64 0, .int .i64 9, .int .i64 1] 26)).drew.cell? ⟨w.heap.size, 1, none⟩ = some (.int .i64 0) ∧ (w.alloc (.cells #[.int .i64 1, .int .i64 0, .int .i64 9, .int .i64 1] 26)).drew.cell? ⟨w.heap.size, 2, none⟩ = some (.int .i64 9) ∧ (w.alloc (.cells #[.int .i64 1, .int .i64 0, .int .i64 9, .int .i64 1] 26)).drew.cell? ⟨w.heap.size, 3, none⟩ = some (.int .i64 1) ∧ Below w.heap.size w (w.alloc (.cells #[.int .i64 1, .int .i64 0, .int .i64 9, .int .i64 1] 26)).drew ∧ w.heap.size < (w.alloc (.cells #[.int .i64 1, .int .i64 0, .int .i64 9, .int .i64 1] 26)).drew.heap.size ∧ (w.alloc (.cells #[.int .i64 1, .int .i64 0, .int .i64 9, .int .i64 1] 26)).drew.heap[w.heap.size]? = some (.cells #[.int .i64 1, .int .i64 0, .int .i64 9, .int .i64 1] 26 (0, 0)) :=
    ⟨by simp [go_sem], by simp [go_sem], by simp [go_sem], by simp [go_sem], (below_alloc _ _).drew, by simp, heap_alloc_new w _⟩
  have Q0 := Lib.hid q0
  clear q0
  go_enter Try.func11, Try.ntmps11
  go_wp2_with fail
  have q0 := Q0.out
  go_region_held3 (fun w' => w'.cell? ⟨w.heap.size, 0, none⟩ = some (.int .i64 1) ∧ w'.cell? ⟨w.heap.size, 1, none⟩ = some (.int .i64 0) ∧ w'.cell? ⟨w.heap.size, 2, none⟩ = some (.int .i64 9) ∧ w'.cell? ⟨w.heap.size, 3, none⟩ = some (.int .i64 1) ∧ Below w.heap.size w w' ∧ w.heap.size < w'.heap.size ∧ w'.heap[w.heap.size]? = some (.cells #[.int .i64 1, .int .i64 0, .int .i64 9, .int .i64 1] 26 (0, 0)))
    (first | exact q2 | exact q1 | exact q0)
    (first | ((go_at_call 22); (with_reducible refine (two_any _).mono ?_); rintro e w1 ⟨hb1, A1, c1, rfl, hL1, hc1⟩; have q1 := jS q0 hb1) | ((go_at_call 14); (with_reducible refine (start_two A1 c1 _ hL1 hc1).mono ?_); rintro e w2 ⟨rfl, hb2⟩; have q2 := jS q1 hb2))
  have Q2 := Lib.hid (jS (W' := w2.drew) q2 ⟨rfl, rfl, rfl, Nat.le_refl _, fun _ _ => rfl⟩)
  clear q0 q1 q2 hb1 hb2 hL1 hc1
  go_wp2_with fail
  have q0 := Q2.out
  go_region_held3 (fun w' => w'.cell? ⟨w.heap.size, 0, none⟩ = some (.int .i64 1) ∧ w'.cell? ⟨w.heap.size, 1, none⟩ = some (.int .i64 0) ∧ w'.cell? ⟨w.heap.size, 2, none⟩ = some (.int .i64 9) ∧ w'.cell? ⟨w.heap.size, 3, none⟩ = some (.int .i64 1) ∧ Below w.heap.size w w' ∧ w.heap.size < w'.heap.size ∧ w'.heap[w.heap.size]? = some (.cells #[.int .i64 1, .int .i64 0, .int .i64 9, .int .i64 1] 26 (0, 0)))
    (first | exact q4 | exact q3 | exact q0)
    (first | ((go_at_call 22); (with_reducible refine (two_any _).mono ?_); rintro e w3 ⟨hb3, A3, c3, rfl, hL3, hc3⟩; have q3 := jS q0 hb3) | ((go_at_call 18); (with_reducible refine (turn_two A3 c3 _ hL3 hc3).mono ?_); rintro e w4 ⟨hb4, a4, c4, rfl, hz4, m0, m1⟩; have q4 := jS q3 hb4))
  have Q4 := Lib.hid q4
  have z3 := q3.2.2.2.2.2.1
  have M4 := Lib.hid (And.intro m0 m1)
  clear q0 q3 q4 hb3 hb4 hL3 hc3 m0 m1
  go_wp2_with fail
  refine (fold_two _).mono ?_
  rintro e w5 ⟨rfl, hb5⟩
  have q5 := jS Q4.out hb5
  have m0 := (hb5.cell hz4.2).trans M4.out.1
  have m1 := (hb5.cell (p := ⟨a4.block, a4.off + 1, none⟩) hz4.2).trans M4.out.2
  obtain ⟨_, _, _, _, b5, z5, h5⟩ := q5
  have hne : a4.block ≠ w.heap.size := by have := hz4.1; omega
  have q6 : (w5.setCell ⟨w.heap.size, 0, none⟩ (.int .i64 5)).drew.cell? ⟨w.heap.size, 0, none⟩ = some (.int .i64 5) ∧ (w5.setCell ⟨w.heap.size, 0, none⟩ (.int .i64 5)).drew.cell? ⟨w.heap.size, 1, none⟩ = some (.int .i64 0) ∧ (w5.setCell ⟨w.heap.size, 0, none⟩ (.int .i64 5)).drew.cell? ⟨w.heap.size, 2, none⟩ = some (.int .i64 9) ∧ (w5.setCell ⟨w.heap.size, 0, none⟩ (.int .i64 5)).drew.cell? ⟨w.heap.size, 3, none⟩ = some (.int .i64 1) ∧ Below w.heap.size w (w5.setCell ⟨w.heap.size, 0, none⟩ (.int .i64 5)).drew ∧ w.heap.size < (w5.setCell ⟨w.heap.size, 0, none⟩ (.int .i64 5)).drew.heap.size ∧ (w5.setCell ⟨w.heap.size, 0, none⟩ (.int .i64 5)).drew.heap[w.heap.size]? = some (.cells #[.int .i64 5, .int .i64 0, .int .i64 9, .int .i64 1] 26 (0, 0)) ∧ (w5.setCell ⟨w.heap.size, 0, none⟩ (.int .i64 5)).drew.cell? a4 = some (.int .i64 0) ∧ (w5.setCell ⟨w.heap.size, 0, none⟩ (.int .i64 5)).drew.cell? ⟨a4.block, a4.off + 1, none⟩ = some (.int .i64 12) ∧ a4.block < (w5.setCell ⟨w.heap.size, 0, none⟩ (.int .i64 5)).drew.heap.size := by
    have hh := set_heap (i := 0) h5 (.int .i64 5)
    have ho := (Bel1.refl w5.heap.size w.heap.size w5).set 0 (.int .i64 5)
    refine ⟨cell_of_row _ _ 0 _ 26 (0, 0) hh, cell_of_row _ _ 1 _ 26 (0, 0) hh, cell_of_row _ _ 2 _ 26 (0, 0) hh, cell_of_row _ _ 3 _ 26 (0, 0) hh, ?_, ?_, hh, ?_, ?_, ?_⟩
    · exact (b5.setCell (p := ⟨w.heap.size, 0, none⟩) (Nat.le_refl _) _).drew
    · exact Nat.lt_of_lt_of_le z5 ho.size
    · exact (ho.cell (Nat.lt_of_lt_of_le hz4.2 hb5.size) hne).trans m0
    · exact (ho.cell (p := ⟨a4.block, a4.off + 1, none⟩) (Nat.lt_of_lt_of_le hz4.2 hb5.size) hne).trans m1
    · exact Nat.lt_of_lt_of_le (Nat.lt_of_lt_of_le hz4.2 hb5.size) ho.size
  have Q6 := Lib.hid q6
  have c5 : w5.cell? ⟨w.heap.size, 0, none⟩ = some (.int .i64 1) := cell_of_row _ _ 0 _ 26 (0, 0) h5
  have f5 : w5.frozen? ⟨w.heap.size, 0, none⟩ = false := unfrozen h5 0
  clear q6 m0 m1 b5 z5 h5 hb5 Q4 M4 Q2 Q0 hz4 hne
  go_wp2_with fail
  have q6 := Q6.out
  go_region_held3 (fun w' => w'.cell? ⟨w.heap.size, 0, none⟩ = some (.int .i64 5) ∧ w'.cell? ⟨w.heap.size, 1, none⟩ = some (.int .i64 0) ∧ w'.cell? ⟨w.heap.size, 2, none⟩ = some (.int .i64 9) ∧ w'.cell? ⟨w.heap.size, 3, none⟩ = some (.int .i64 1) ∧ Below w.heap.size w w' ∧ w.heap.size < w'.heap.size ∧ w'.heap[w.heap.size]? = some (.cells #[.int .i64 5, .int .i64 0, .int .i64 9, .int .i64 1] 26 (0, 0)) ∧ w'.cell? a4 = some (.int .i64 0) ∧ w'.cell? ⟨a4.block, a4.off + 1, none⟩ = some (.int .i64 12) ∧ a4.block < w'.heap.size)
    (first | exact q8 | exact q7 | exact q6)
    (first | ((go_at_call 22); (with_reducible refine (two_any _).mono ?_); rintro e w7 ⟨hb7, A7, c7, rfl, hL7, hc7⟩; have q7 := kS q6 hb7) | ((go_at_call 18); (with_reducible refine (turn_two5 A7 c7 _ hL7 hc7).mono ?_); rintro e w8 ⟨hb8, a8, c8, rfl, hz8, n0, n1⟩; have q8 := kS q7 hb8))
  have Q8 := Lib.hid (show w8.drew.cell? ⟨w.heap.size, 0, none⟩ = some (.int .i64 5) ∧ w8.drew.cell? ⟨w.heap.size, 1, none⟩ = some (.int .i64 0) ∧ w8.drew.cell? ⟨w.heap.size, 2, none⟩ = some (.int .i64 9) ∧ w8.drew.cell? ⟨w.heap.size, 3, none⟩ = some (.int .i64 1) ∧ Below w.heap.size w w8.drew ∧ w.heap.size < w8.drew.heap.size ∧ w8.drew.heap[w.heap.size]? = some (.cells #[.int .i64 5, .int .i64 0, .int .i64 9, .int .i64 1] 26 (0, 0)) ∧ w8.drew.cell? a4 = some (.int .i64 0) ∧ w8.drew.cell? ⟨a4.block, a4.off + 1, none⟩ = some (.int .i64 12) ∧ a4.block < w8.drew.heap.size ∧ w8.drew.cell? a8 = some (.int .i64 1) ∧ w8.drew.cell? ⟨a8.block, a8.off + 1, none⟩ = some (.int .i64 1000000) ∧ a8.block < w8.drew.heap.size from lS q8 n0 n1 hz8.2 ⟨rfl, rfl, rfl, Nat.le_refl _, fun _ _ => rfl⟩)
  clear q6 q7 q8 hb7 hb8 hL7 hc7 Q6 c5 f5 n0 n1 hz8
  go_wp2_with fail
  have q8 := Q8.out
  simp only [List.append_eq, List.cons_append, List.nil_append]
  go_region_held3 (fun w' => w'.cell? ⟨w.heap.size, 0, none⟩ = some (.int .i64 5) ∧ w'.cell? ⟨w.heap.size, 1, none⟩ = some (.int .i64 0) ∧ w'.cell? ⟨w.heap.size, 2, none⟩ = some (.int .i64 9) ∧ w'.cell? ⟨w.heap.size, 3, none⟩ = some (.int .i64 1) ∧ Below w.heap.size w w' ∧ w.heap.size < w'.heap.size ∧ w'.heap[w.heap.size]? = some (.cells #[.int .i64 5, .int .i64 0, .int .i64 9, .int .i64 1] 26 (0, 0)) ∧ w'.cell? a4 = some (.int .i64 0) ∧ w'.cell? ⟨a4.block, a4.off + 1, none⟩ = some (.int .i64 12) ∧ a4.block < w'.heap.size ∧ w'.cell? a8 = some (.int .i64 1) ∧ w'.cell? ⟨a8.block, a8.off + 1, none⟩ = some (.int .i64 1000000) ∧ a8.block < w'.heap.size)
    (first | exact q10 | exact q9 | exact q8)
    (first | ((go_at_call 22); (with_reducible refine (two_any _).mono ?_); rintro e w9 ⟨hb9, A9, c9, rfl, hL9, hc9⟩; have q9 := mS q8 hb9) | ((go_at_call 12); (with_reducible refine (check_two5 A9 c9 _ hL9 hc9).mono ?_); rintro e w10 ⟨rfl, hb10⟩; have q10 := mS q9 hb10))
  go_wp2_with fail
  go_ret
  exact ⟨rfl, q10.2.2.2.2.1⟩
end Go.Proofs.Ytielmlcgdolgkaa
