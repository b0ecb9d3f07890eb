/-
  The document's examples ('knows'), and 'great'. No condition.
-/
import Derived.Test.YtkmflofokgkekaaSqH
import Derived.Test.YtkmflofokgkekaaSqE
namespace Go.Proofs.Ytkmflofokgkekaa
open Go.ChangeShapes Go.WideShapes Go.ChangeAt Go.RowKit
set_option linter.unusedVariables false

def two2 : St := ⟨2, [0, 7], [true, true], [(0, 12)]⟩
def two3 : St := ⟨3, [0, 7], [true, true], []⟩
theorem kn_j : jchk 2 twoE 1 0 9 1 = 0 := by kernel_rfl
theorem kn_2 : stAt 2 twoE 1 0 9 1 2 = some two2 := by kernel_rfl
theorem kn_3 : stAt 2 twoE 1 0 9 1 3 = some two3 := by kernel_rfl
theorem kn_o : (onwR 2 twoE 1 0 9 1 two3).2 = 1 := by kernel_rfl
theorem kn_s : stepR 2 twoE 1 0 9 1 two2 = (two3, 0) := by kernel_rfl
theorem kn_q : quietB two3 = true := by kernel_rfl
theorem kn_r : rightB 2 twoE 1 0 9 1 two3 = true := by kernel_rfl
theorem kn_a : IsAns 2 twoE 1 0 9 1 1 3 [0, 7] := .inr ⟨kn_j, 3, two3, kn_3, by rw [kn_o]; decide, by rw [kn_o], rfl, rfl⟩
theorem kn_t {t : St × Int} (h : IsAt 2 twoE 1 0 9 1 2 t) : t = (two2, 0) := by
  rcases h with ⟨hj, _⟩ | ⟨_, ⟨k, S, hk, hS, ht⟩ | ⟨hn, _⟩⟩
  · exact absurd kn_j hj
  · obtain rfl : k = 2 := by omega
    rw [kn_2] at hS
    injection hS with hS
    rw [ht, ← hS]
  · exact absurd rfl (hn 2 two2 kn_2)

theorem run_two (A : Option Addr) (c : Nat) (W : World) (h : Lies W W.heap.size 3 A 2 (ec twoE)) (hc : 2 ≤ c) :
    Calls Try.prog 23 #[.agg #[.int .i64 2, .slice A 2 c], .agg #[.int .i64 1, .int .i64 0, .int .i64 9, .int .i64 1]] W fun e w' => (∃ A1 c1, e = .returned (.agg #[.int .i64 1, .int .i64 3, .slice A1 2 c1]) ∧ Lies w' w'.heap.size 1 A1 2 (vc [0, 7])) ∧ Below W.heap.size W w' :=
  (run_any 2 A 2 c twoE 1 0 9 1 W h hc (by unfold maxLen; omega)).mono fun e w' ⟨hb, kd, st, vs, A1, c1, he, hl, _, _, ha⟩ => by
    obtain ⟨rfl, rfl, rfl⟩ := ans_uniq ha kn_a
    exact ⟨⟨A1, c1, he, hl⟩, hb⟩
theorem at_two (A : Option Addr) (c : Nat) (W : World) (h : Lies W W.heap.size 3 A 2 (ec twoE)) (hc : 2 ≤ c) :
    Calls Try.prog 24 #[.agg #[.int .i64 2, .slice A 2 c], .agg #[.int .i64 1, .int .i64 0, .int .i64 9, .int .i64 1], .int .i64 2] W fun e w' => (∃ A1 c1 A2 c2 A3 c3, e = .returned (.tuple #[.agg #[.int .i64 2, .slice A1 2 c1, .slice A2 2 c2, .slice A3 1 c3], .int .i64 0]) ∧ StL w' w'.heap.size two2 A1 c1 A2 c2 A3 c3) ∧ Below W.heap.size W w' :=
  (atn_any 2 A 2 c twoE 1 0 9 1 2 W h hc (by unfold maxLen; omega)).mono fun e w' ⟨t, ht, hb, A1, c1, A2, c2, A3, c3, he, hs, _⟩ => by
    obtain rfl := kn_t ht
    exact ⟨⟨A1, c1, A2, c2, A3, c3, he, hs⟩, hb⟩
theorem step_two (A : Option Addr) (c : Nat) (A1 : Option Addr) (c1 : Nat) (A2 : Option Addr) (c2 : Nat) (A3 : Option Addr) (c3 : Nat) (W : World) (h : Lies W W.heap.size 3 A 2 (ec twoE)) (hc : 2 ≤ c) (hS : StL W W.heap.size two2 A1 c1 A2 c2 A3 c3) :
    Calls Try.prog 25 #[.agg #[.int .i64 2, .slice A 2 c], .agg #[.int .i64 1, .int .i64 0, .int .i64 9, .int .i64 1], .agg #[.int .i64 2, .slice A1 2 c1, .slice A2 2 c2, .slice A3 1 c3]] W fun e w' => (∃ A1 c1 A2 c2 A3 c3, e = .returned (.tuple #[.agg #[.int .i64 3, .slice A1 2 c1, .slice A2 2 c2, .slice A3 0 c3], .int .i64 0]) ∧ StL w' w'.heap.size two3 A1 c1 A2 c2 A3 c3) ∧ Below W.heap.size W w' :=
  (step_any 2 A 2 c twoE 1 0 9 1 two2 A1 c1 A2 c2 A3 c3 W h hc (by unfold maxLen; omega) hS).mono fun e w' ⟨hb, B1, b1, B2, b2, B3, b3, he, hs, _⟩ => by
    rw [kn_s] at he hs
    exact ⟨⟨B1, b1, B2, b2, B3, b3, he, hs⟩, hb⟩
theorem quiet_two (A1 : Option Addr) (c1 : Nat) (A2 : Option Addr) (c2 : Nat) (A3 : Option Addr) (c3 : Nat) (W : World) (hS : StL W W.heap.size two3 A1 c1 A2 c2 A3 c3) :
    Calls Try.prog 15 #[.agg #[.int .i64 3, .slice A1 2 c1, .slice A2 2 c2, .slice A3 0 c3]] W fun e w' => e = .returned (.bool true) ∧ Below W.heap.size W w' := by
  have := quiet_any two3 A1 c1 A2 c2 A3 c3 W hS
  rw [kn_q] at this
  exact this
theorem right_two (A : Option Addr) (c : Nat) (A1 : Option Addr) (c1 : Nat) (A2 : Option Addr) (c2 : Nat) (A3 : Option Addr) (c3 : Nat) (W : World) (h : Lies W W.heap.size 3 A 2 (ec twoE)) (hc : 2 ≤ c) (hS : StL W W.heap.size two3 A1 c1 A2 c2 A3 c3) :
    Calls Try.prog 13 #[.agg #[.int .i64 2, .slice A 2 c], .agg #[.int .i64 1, .int .i64 0, .int .i64 9, .int .i64 1], .agg #[.int .i64 3, .slice A1 2 c1, .slice A2 2 c2, .slice A3 0 c3]] W fun e w' => e = .returned (.bool true) ∧ Below W.heap.size W w' := by
  have := right_any 2 A 2 c twoE 1 0 9 1 two3 A1 c1 A2 c2 A3 c3 W h hc (by unfold maxLen; omega) hS
  rw [kn_r] at this
  exact this

/-- The examples' graph and job stand in memory. -/
structure Kn (w W : World) : Prop where
  z : w.heap.size + 3 ≤ W.heap.size
  g0 : W.cell? ⟨w.heap.size + 1, 0, none⟩ = some (.int .i64 2)
  g1 : W.cell? ⟨w.heap.size + 1, 1, none⟩ = some (.slice (some ⟨w.heap.size, 0, none⟩) 2 2)
  j0 : W.cell? ⟨w.heap.size + 1 + 1, 0, none⟩ = some (.int .i64 1)
  j1 : W.cell? ⟨w.heap.size + 1 + 1, 1, none⟩ = some (.int .i64 0)
  j2 : W.cell? ⟨w.heap.size + 1 + 1, 2, none⟩ = some (.int .i64 9)
  j3 : W.cell? ⟨w.heap.size + 1 + 1, 3, none⟩ = some (.int .i64 1)
  L : Lies W W.heap.size 3 (some ⟨w.heap.size, 0, none⟩) 2 (ec twoE)
  bl : Below w.heap.size w W
theorem Kn.next {w W W' : World} (h : Kn w W) (hb : Below W.heap.size W W') : Kn w W' :=
  have k : ∀ b o, b < w.heap.size + 3 → W'.cell? ⟨b, o, none⟩ = W.cell? ⟨b, o, none⟩ := fun b o hl => hb.cell (p := ⟨b, o, none⟩) (Nat.lt_of_lt_of_le hl h.z)
  ⟨Nat.le_trans h.z hb.size, (k _ _ (by omega)).trans h.g0, (k _ _ (by omega)).trans h.g1, (k _ _ (by omega)).trans h.j0, (k _ _ (by omega)).trans h.j1, (k _ _ (by omega)).trans h.j2, (k _ _ (by omega)).trans h.j3, h.L.next hb, h.bl.trans (hb.mono (by have := h.z; omega))⟩
theorem Kn.init (w : World) : Kn w (((w.alloc (.cells #[.int .i64 0, .int .i64 1, .int .i64 7, .int .i64 1, .int .i64 0, .int .i64 5] 54)).alloc (.cells #[.int .i64 2, .slice (some ⟨w.heap.size, 0, none⟩) 2 2] 24)).alloc (.cells #[.int .i64 1, .int .i64 0, .int .i64 9, .int .i64 1] 26)) := by
  have hl := lies_cells w (ec twoE) 54 2 3 rfl
  refine ⟨by simp, by simp [go_sem], by simp [go_sem], by simp [go_sem], by simp [go_sem], by simp [go_sem], by simp [go_sem], ?_, (((Below.refl _ _).alloc (Nat.le_refl _) _).alloc (by simp) _).alloc (by simp; omega) _⟩
  exact ((hl.more (B' := (w.alloc (.cells (ec twoE).toArray 54)).heap.size) (by simp)).next (below_alloc _ _)).next (below_alloc _ _)

set_option maxRecDepth 20000 in
set_option maxHeartbeats 2000000 in
theorem knows_any (w : World) : Calls Try.prog 12 #[] w fun e w' => e = .returned (.bool true) ∧ Below w.heap.size w w' := by
  have HK := Lib.hid (Kn.init w)
  go_enter Try.func12, Try.ntmps12
  go_wp2_with fail
  refine (run_two _ _ _ HK.out.L (Nat.le_refl _)).mono ?_
  rintro e w1 ⟨⟨A1, c1, rfl, hl1⟩, hb1⟩
  have HK1 := Lib.hid ((HK.out.next hb1).next (below_alloc w1 (.cells #[.int .i64 1, .int .i64 3, .slice A1 2 c1] 45)))
  have HA1 := Lib.hid (hl1.next (below_alloc w1 (.cells #[.int .i64 1, .int .i64 3, .slice A1 2 c1] 45)))
  have HZ1 := Lib.hid (heap_alloc_new w1 (.cells #[.int .i64 1, .int .i64 3, .slice A1 2 c1] 45))
  clear hl1 hb1 HK
  go_upto_region 4 with fail
  generalize w1.alloc (.cells #[.int .i64 1, .int .i64 3, .slice A1 2 c1] 45) = W1 at HK1 HA1 HZ1 ⊢
  generalize w1.heap.size = ba at HZ1 ⊢
  obtain ⟨z, g0, g1, j0, j1, j2, j3, L, bl⟩ := id HK1.out
  clear z L bl
  go_wp2_with fail
  refine (at_two _ _ _ HK1.out.L (Nat.le_refl _)).mono ?_
  rintro e w2 ⟨⟨B1, d1, B2, d2, B3, d3, rfl, hs2⟩, hb2⟩
  have HK2 := Lib.hid ((HK1.out.next hb2).next (below_alloc w2 (.cells #[.int .i64 2, .slice B1 2 d1, .slice B2 2 d2, .slice B3 1 d3] 31)))
  have HA2 := Lib.hid ((HA1.out.next hb2).next (below_alloc w2 (.cells #[.int .i64 2, .slice B1 2 d1, .slice B2 2 d2, .slice B3 1 d3] 31)))
  have HS2 := Lib.hid (hs2.next (below_alloc w2 (.cells #[.int .i64 2, .slice B1 2 d1, .slice B2 2 d2, .slice B3 1 d3] 31)))
  have HZ2 := Lib.hid (heap_alloc_new w2 (.cells #[.int .i64 2, .slice B1 2 d1, .slice B2 2 d2, .slice B3 1 d3] 31))
  have HZa := Lib.hid ((Below.heap_alloc w2 (.cells #[.int .i64 2, .slice B1 2 d1, .slice B2 2 d2, .slice B3 1 d3] 31) ba (Nat.lt_of_lt_of_le (lt_of_block HZ1.out) hb2.size)).trans ((hb2.block _ (lt_of_block HZ1.out)).trans HZ1.out))
  clear hs2 hb2 g0 g1 j0 j1 j2 j3 HK1 HA1 HZ1
  go_upto_region 5 with fail
  generalize w2.alloc (.cells #[.int .i64 2, .slice B1 2 d1, .slice B2 2 d2, .slice B3 1 d3] 31) = W2 at HK2 HA2 HS2 HZ2 HZa ⊢
  generalize w2.heap.size = bs at HZ2 ⊢
  have a0 := cell_of_row W2 ba 0 _ 45 (0, 0) HZa.out
  have a1 := cell_of_row W2 ba 1 _ 45 (0, 0) HZa.out
  have a2 := cell_of_row W2 ba 2 _ 45 (0, 0) HZa.out
  have b0 := cell_of_row W2 bs 0 _ 31 (0, 0) HZ2.out
  have b1 := cell_of_row W2 bs 1 _ 31 (0, 0) HZ2.out
  have b2 := cell_of_row W2 bs 2 _ 31 (0, 0) HZ2.out
  have b3 := cell_of_row W2 bs 3 _ 31 (0, 0) HZ2.out
  obtain ⟨z, g0, g1, j0, j1, j2, j3, L, bl⟩ := id HK2.out
  clear z L bl
  go_wp2_with fail
  refine (step_two _ _ B1 d1 B2 d2 B3 d3 _ HK2.out.L (Nat.le_refl _) HS2.out).mono ?_
  rintro e w3 ⟨⟨C1, e1, C2, e2, C3, e3, rfl, hs3⟩, hb3⟩
  have hb3' := hb3.trans ((below_alloc w3 (.cells #[.int .i64 3, .slice C1 2 e1, .slice C2 2 e2, .slice C3 0 e3] 31)).mono hb3.size)
  have HK3 := Lib.hid (HK2.out.next hb3')
  have HA3 := Lib.hid (HA2.out.next hb3')
  have HS3 := Lib.hid (HS2.out.next hb3')
  have HT3 := Lib.hid (hs3.next (below_alloc w3 (.cells #[.int .i64 3, .slice C1 2 e1, .slice C2 2 e2, .slice C3 0 e3] 31)))
  have HZ3 := Lib.hid (heap_alloc_new w3 (.cells #[.int .i64 3, .slice C1 2 e1, .slice C2 2 e2, .slice C3 0 e3] 31))
  have HZb := Lib.hid ((hb3'.block _ (lt_of_block HZa.out)).trans HZa.out)
  have HZs := Lib.hid ((hb3'.block _ (lt_of_block HZ2.out)).trans HZ2.out)
  clear hs3 hb3 hb3' g0 g1 j0 j1 j2 j3 HK2 HA2 HS2 HZ2 HZa a0 a1 a2 b0 b1 b2 b3
  go_upto_region 8 with fail
  generalize w3.alloc (.cells #[.int .i64 3, .slice C1 2 e1, .slice C2 2 e2, .slice C3 0 e3] 31) = W3 at HK3 HA3 HS3 HT3 HZ3 HZb HZs ⊢
  generalize w3.heap.size = bn at HZ3 ⊢
  have a2 := cell_of_row W3 ba 2 _ 45 (0, 0) HZb.out
  have b3 := cell_of_row W3 bs 3 _ 31 (0, 0) HZs.out
  have n0 := cell_of_row W3 bn 0 _ 31 (0, 0) HZ3.out
  have n1 := cell_of_row W3 bn 1 _ 31 (0, 0) HZ3.out
  have n2 := cell_of_row W3 bn 2 _ 31 (0, 0) HZ3.out
  have n3 := cell_of_row W3 bn 3 _ 31 (0, 0) HZ3.out
  obtain ⟨ad, rfl, _, x1⟩ := HA3.out.vs 1 (by decide)
  obtain ⟨bd', rfl, _, y0, y1⟩ := HS3.out.m.ms 0 (by decide)
  have x1' : W3.cell? ⟨ad.block, ad.off + 1, none⟩ = some (.int .i64 7) := x1
  have y0 : W3.cell? (bd'.add (0 * 2)) = some (.int .i64 0) := y0
  have y1 : W3.cell? ⟨(bd'.add (0 * 2)).block, (bd'.add (0 * 2)).off + 1, none⟩ = some (.int .i64 12) := y1
  rw [Nat.zero_mul, add_zero] at y0 y1
  go_wp2_with fail
  refine (quiet_two C1 e1 C2 e2 C3 e3 _ HT3.out).mono ?_
  rintro e w4 ⟨rfl, hb4⟩
  have HK4 := Lib.hid (HK3.out.next hb4)
  have HT4 := Lib.hid (HT3.out.next hb4)
  have HZ4 := Lib.hid ((hb4.block _ (lt_of_block HZ3.out)).trans HZ3.out)
  clear hb4 a2 b3 n0 n1 n2 n3 x1 x1' y0 y1
  have n0 := cell_of_row w4 bn 0 _ 31 (0, 0) HZ4.out
  have n1 := cell_of_row w4 bn 1 _ 31 (0, 0) HZ4.out
  have n2 := cell_of_row w4 bn 2 _ 31 (0, 0) HZ4.out
  have n3 := cell_of_row w4 bn 3 _ 31 (0, 0) HZ4.out
  obtain ⟨z, g0, g1, j0, j1, j2, j3, L, bl⟩ := id HK4.out
  clear z L bl
  go_wp2_with fail
  refine (right_two _ _ C1 e1 C2 e2 C3 e3 _ HK4.out.L (Nat.le_refl _) HT4.out).mono ?_
  rintro e w5 ⟨rfl, hb5⟩
  have HB := Lib.hid (HK4.out.next hb5).bl
  clear hb5
  go_wp2_with fail
  go_ret
  exact ⟨rfl, HB.out⟩

end Go.Proofs.Ytkmflofokgkekaa
