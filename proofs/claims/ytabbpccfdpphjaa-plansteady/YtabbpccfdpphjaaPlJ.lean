import Derived.Test.YtabbpccfdpphjaaPlI
/-
  The document's examples hold (knows). No condition.
-/
namespace Go.Proofs.Ytabbpccfdpphjaa
open Go.ChangeShapes Go.WideShapes Go.ChangeAt Go.RowKit
set_option linter.unusedVariables false

theorem kn_mR : movR [1, 1, 2] [1, 3, 2] = [(1, 1, 3)] := by decide
theorem kn_mE : movE [1, 1, 2] [1, 3, 2] = 0 := by decide
theorem kn_aR : apR [1, 1, 2] [(1, 1, 3)] = [1, 3, 2] := by decide
theorem kn_aX : apX [1, 1, 2] [(1, 1, 3)] = 0 := by decide
theorem kn_lE : ldE [1, 1, 2] [1, 2] [5, 4, 1] [1, 2] = 0 := by decide
theorem kn_lR : loR [1, 1, 2] [1, 2] [5, 4, 1] [1, 2] = [9, 2] := by decide
theorem kn_eE : ldE [1, 1, 1] [1, 2] [5, 4, 1] [1, 1] = 0 := by decide
theorem kn_eR : evR [1, 1, 1] [1, 2] [5, 4, 1] [1, 1] = [2, 1, 1] := by decide
theorem kn_ri : rightO [2, 1, 1] = true := by decide
theorem kn_1 (W : World) (a b : Addr) (h1 : Lies W W.heap.size 1 (some a) 3 (vc [1, 1, 2])) (h2 : Lies W W.heap.size 1 (some b) 3 (vc [1, 3, 2])) : Calls Try.prog 12 #[.slice (some a) 3 3, .slice (some b) 3 3] W (MlPost 35 [(1, 1, 3)] 0 W) := by
  have h := moves_any (some a) 3 [1, 1, 2] (some b) 3 [1, 3, 2] W h1 h2 (by decide) (by decide)
  rw [kn_mR, kn_mE] at h
  exact h
theorem kn_2 (W : World) (a : Addr) (D : Option Addr) (d : Nat) (h1 : Lies W W.heap.size 1 (some a) 3 (vc [1, 1, 2])) (h2 : Lies W W.heap.size 3 D 1 (mc [(1, 1, 3)])) : Calls Try.prog 17 #[.slice (some a) 3 3, .slice D 1 d] W (OlPost [1, 3, 2] 0 W) := by
  have h := apply_any (some a) 3 [1, 1, 2] D d [(1, 1, 3)] W h1 h2 (by decide) (by decide)
  rw [kn_aR, kn_aX] at h
  exact h
theorem kn_3 (W : World) (a b c d : Addr) (h1 : Lies W W.heap.size 1 (some a) 3 (vc [1, 1, 2])) (h2 : Lies W W.heap.size 1 (some b) 2 (vc [1, 2])) (h3 : Lies W W.heap.size 1 (some c) 3 (vc [5, 4, 1])) (h4 : Lies W W.heap.size 1 (some d) 2 (vc [1, 2])) :
    Calls Try.prog 20 #[.slice (some a) 3 3, .slice (some b) 2 2, .slice (some c) 3 3, .slice (some d) 2 2] W (OlPost [9, 2] 0 W) := by
  have h := loads_any (some a) 3 [1, 1, 2] (some b) 2 [1, 2] (some c) 3 [5, 4, 1] (some d) 2 [1, 2] W h1 h2 h3 h4 (by decide) (by decide) (by decide) (by decide)
  rw [kn_lR, kn_lE] at h
  exact h
theorem kn_4 (W : World) (a b c d : Addr) (h1 : Lies W W.heap.size 1 (some a) 3 (vc [1, 1, 1])) (h2 : Lies W W.heap.size 1 (some b) 2 (vc [1, 2])) (h3 : Lies W W.heap.size 1 (some c) 3 (vc [5, 4, 1])) (h4 : Lies W W.heap.size 1 (some d) 2 (vc [1, 1])) :
    Calls Try.prog 22 #[.slice (some a) 3 3, .slice (some b) 2 2, .slice (some c) 3 3, .slice (some d) 2 2] W (OlPost [2, 1, 1] 0 W) := by
  have h := even_any (some a) 3 [1, 1, 1] (some b) 2 [1, 2] (some c) 3 [5, 4, 1] (some d) 2 [1, 1] W h1 h2 h3 h4 (by decide) (by decide) (by decide) (by decide)
  rw [kn_eR, kn_eE] at h
  exact h
theorem kn_5 (W : World) (D : Option Addr) (d : Nat) (b : Addr) (l : List Int) (n : Nat) (hl : l.length = n) (hn : n ≤ 3) (h1 : Lies W W.heap.size 1 D n (vc l)) (h2 : Lies W W.heap.size 1 (some b) n (vc l)) : Calls Try.prog 19 #[.slice D n d, .slice (some b) n n] W (fun e w' => e = .returned (.bool true) ∧ Below W.heap.size W w') := by
  subst hl
  have h := same_any D d l (some b) l.length l W h1 h2 (by omega) (by omega)
  rw [decide_eq_true rfl] at h
  exact h
theorem kn_6 (W : World) (D : Option Addr) (d : Nat) (h1 : Lies W W.heap.size 1 D 3 (vc [2, 1, 1])) : Calls Try.prog 15 #[.slice D 3 d] W (fun e w' => e = .returned (.bool true) ∧ W = w') := by
  have h := pright_any D d [2, 1, 1] W h1 (by decide)
  rw [kn_ri] at h
  exact h
theorem lies_of3 (w : World) (a b c : Int) (s : Nat) (hs : w.heap.size = s) : Lies (w.alloc (.cells #[.int .i64 a, .int .i64 b, .int .i64 c] 3)) (w.alloc (.cells #[.int .i64 a, .int .i64 b, .int .i64 c] 3)).heap.size 1 (some ⟨s, 0, none⟩) 3 (vc [a, b, c]) := by
  subst hs
  have h := lies_cells w (vc [a, b, c]) 3 3 1 rfl
  have hz : (w.alloc (.cells #[.int .i64 a, .int .i64 b, .int .i64 c] 3)).heap.size = w.heap.size + 1 := by simp
  rw [hz]
  exact h
theorem lies_of2 (w : World) (a b : Int) (s : Nat) (hs : w.heap.size = s) : Lies (w.alloc (.cells #[.int .i64 a, .int .i64 b] 3)) (w.alloc (.cells #[.int .i64 a, .int .i64 b] 3)).heap.size 1 (some ⟨s, 0, none⟩) 2 (vc [a, b]) := by
  subst hs
  have h := lies_cells w (vc [a, b]) 3 2 1 rfl
  have hz : (w.alloc (.cells #[.int .i64 a, .int .i64 b] 3)).heap.size = w.heap.size + 1 := by simp
  rw [hz]
  exact h
def three (w : World) (a b c : Int) : World := w.alloc (.cells #[.int .i64 a, .int .i64 b, .int .i64 c] 3)
def two (w : World) (a b : Int) : World := w.alloc (.cells #[.int .i64 a, .int .i64 b] 3)
theorem b3 (w : World) (a b c : Int) : Below w.heap.size w (w.alloc (.cells #[.int .i64 a, .int .i64 b, .int .i64 c] 3)) := below_alloc w _
theorem b2 (w : World) (a b : Int) : Below w.heap.size w (w.alloc (.cells #[.int .i64 a, .int .i64 b] 3)) := below_alloc w _
/-- Two lists laid for moves, and what is called with them. -/
theorem kn_m (w : World) : Calls Try.prog 12 #[.slice (some ⟨w.heap.size, 0, none⟩) 3 3, .slice (some ⟨w.heap.size + 1, 0, none⟩) 3 3] ((w.alloc (.cells #[.int .i64 1, .int .i64 1, .int .i64 2] 3)).alloc (.cells #[.int .i64 1, .int .i64 3, .int .i64 2] 3))
    (fun e w' => (∃ D d, e = .returned (.tuple #[.slice D 1 d, .int .i64 0]) ∧ Lies w' w'.heap.size 3 D 1 (mc [(1, 1, 3)])) ∧ Below w.heap.size w w') := by
  refine (kn_1 _ _ _ ((lies_of3 w 1 1 2 _ rfl).next (b3 _ 1 3 2)) (lies_of3 _ 1 3 2 _ (by simp))).mono ?_
  rintro e w' ⟨D, d, rfl, ho, hb⟩
  exact ⟨⟨D, d, rfl, Lies.of_own ho⟩, ((b3 w 1 1 2).trans ((b3 _ 1 3 2).mono (b3 w 1 1 2).size)).trans (hb.mono (by simp; omega))⟩
theorem kn_a (w : World) (D : Option Addr) (d : Nat) (hD : Lies w w.heap.size 3 D 1 (mc [(1, 1, 3)])) : Calls Try.prog 17 #[.slice (some ⟨w.heap.size, 0, none⟩) 3 3, .slice D 1 d] (w.alloc (.cells #[.int .i64 1, .int .i64 1, .int .i64 2] 3))
    (fun e w' => (∃ D d, e = .returned (.tuple #[.slice D 3 d, .int .i64 0]) ∧ Lies w' w'.heap.size 1 D 3 (vc [1, 3, 2])) ∧ Below w.heap.size w w') := by
  refine (kn_2 _ _ _ _ (lies_of3 w 1 1 2 _ rfl) (hD.next (b3 w 1 1 2))).mono ?_
  rintro e w' ⟨D, d, rfl, ho, hb⟩
  exact ⟨⟨D, d, rfl, Lies.of_own ho⟩, (b3 w 1 1 2).trans (hb.mono (by simp))⟩
theorem kn_l (w : World) : Calls Try.prog 20 #[.slice (some ⟨w.heap.size, 0, none⟩) 3 3, .slice (some ⟨w.heap.size + 1, 0, none⟩) 2 2, .slice (some ⟨w.heap.size + 1 + 1, 0, none⟩) 3 3, .slice (some ⟨w.heap.size + 1 + 1 + 1, 0, none⟩) 2 2]
    ((((w.alloc (.cells #[.int .i64 1, .int .i64 1, .int .i64 2] 3)).alloc (.cells #[.int .i64 1, .int .i64 2] 3)).alloc (.cells #[.int .i64 5, .int .i64 4, .int .i64 1] 3)).alloc (.cells #[.int .i64 1, .int .i64 2] 3))
    (fun e w' => (∃ D d, e = .returned (.tuple #[.slice D 2 d, .int .i64 0]) ∧ Lies w' w'.heap.size 1 D 2 (vc [9, 2])) ∧ Below w.heap.size w w') := by
  refine (kn_3 _ _ _ _ _ ((((lies_of3 w 1 1 2 _ rfl).next (b2 _ 1 2)).next (b3 _ 5 4 1)).next (b2 _ 1 2)) (((lies_of2 _ 1 2 _ (by simp)).next (b3 _ 5 4 1)).next (b2 _ 1 2)) ((lies_of3 _ 5 4 1 _ (by simp)).next (b2 _ 1 2)) (lies_of2 _ 1 2 _ (by simp))).mono ?_
  rintro e w' ⟨D, d, rfl, ho, hb⟩
  exact ⟨⟨D, d, rfl, Lies.of_own ho⟩, (((b3 w 1 1 2).trans ((b2 _ 1 2).mono (by simp))).trans ((b3 _ 5 4 1).mono (by simp; omega))).trans (((b2 _ 1 2).mono (by simp; omega)).trans (hb.mono (by simp; omega)))⟩
theorem kn_e (w : World) : Calls Try.prog 22 #[.slice (some ⟨w.heap.size, 0, none⟩) 3 3, .slice (some ⟨w.heap.size + 1, 0, none⟩) 2 2, .slice (some ⟨w.heap.size + 1 + 1, 0, none⟩) 3 3, .slice (some ⟨w.heap.size + 1 + 1 + 1, 0, none⟩) 2 2]
    ((((w.alloc (.cells #[.int .i64 1, .int .i64 1, .int .i64 1] 3)).alloc (.cells #[.int .i64 1, .int .i64 2] 3)).alloc (.cells #[.int .i64 5, .int .i64 4, .int .i64 1] 3)).alloc (.cells #[.int .i64 1, .int .i64 1] 3))
    (fun e w' => (∃ D d, e = .returned (.tuple #[.slice D 3 d, .int .i64 0]) ∧ Lies w' w'.heap.size 1 D 3 (vc [2, 1, 1])) ∧ Below w.heap.size w w') := by
  refine (kn_4 _ _ _ _ _ ((((lies_of3 w 1 1 1 _ rfl).next (b2 _ 1 2)).next (b3 _ 5 4 1)).next (b2 _ 1 1)) (((lies_of2 _ 1 2 _ (by simp)).next (b3 _ 5 4 1)).next (b2 _ 1 1)) ((lies_of3 _ 5 4 1 _ (by simp)).next (b2 _ 1 1)) (lies_of2 _ 1 1 _ (by simp))).mono ?_
  rintro e w' ⟨D, d, rfl, ho, hb⟩
  exact ⟨⟨D, d, rfl, Lies.of_own ho⟩, (((b3 w 1 1 1).trans ((b2 _ 1 2).mono (by simp))).trans ((b3 _ 5 4 1).mono (by simp; omega))).trans (((b2 _ 1 1).mono (by simp; omega)).trans (hb.mono (by simp; omega)))⟩
theorem kn_s3 (w : World) (D : Option Addr) (d : Nat) (a b c : Int) (hD : Lies w w.heap.size 1 D 3 (vc [a, b, c])) : Calls Try.prog 19 #[.slice D 3 d, .slice (some ⟨w.heap.size, 0, none⟩) 3 3] (w.alloc (.cells #[.int .i64 a, .int .i64 b, .int .i64 c] 3)) (fun e w' => e = .returned (.bool true) ∧ Below w.heap.size w w') :=
  (kn_5 _ D d _ [a, b, c] 3 rfl (by decide) (hD.next (b3 w a b c)) (lies_of3 w a b c _ rfl)).mono fun e w' h => ⟨h.1, (b3 w a b c).trans (h.2.mono (by simp))⟩
theorem kn_s2 (w : World) (D : Option Addr) (d : Nat) (a b : Int) (hD : Lies w w.heap.size 1 D 2 (vc [a, b])) : Calls Try.prog 19 #[.slice D 2 d, .slice (some ⟨w.heap.size, 0, none⟩) 2 2] (w.alloc (.cells #[.int .i64 a, .int .i64 b] 3)) (fun e w' => e = .returned (.bool true) ∧ Below w.heap.size w w') :=
  (kn_5 _ D d _ [a, b] 2 rfl (by decide) (hD.next (b2 w a b)) (lies_of2 w a b _ rfl)).mono fun e w' h => ⟨h.1, (b2 w a b).trans (h.2.mono (by simp))⟩
theorem lies_mv1 {w : World} {D : Option Addr} (h : Lies w w.heap.size 3 D 1 (mc [(1, 1, 3)])) : ∃ ad, D = some ad ∧ w.cell? ad = some (.int .i64 1) ∧ w.cell? ⟨ad.block, ad.off + 1, none⟩ = some (.int .i64 1) ∧ w.cell? ⟨ad.block, ad.off + 2, none⟩ = some (.int .i64 3) := by
  obtain ⟨ad, e, hb, e0, e1, e2⟩ := h.mv 0 (by decide)
  rw [show 0 * 3 = 0 from rfl, add_zero] at e0 e1 e2
  exact ⟨ad, e, e0, e1, e2⟩
set_option maxRecDepth 20000 in
set_option maxHeartbeats 4000000 in
theorem knows_any (w : World) : Calls Try.prog 11 #[] w fun e w' => e = .returned (.bool true) ∧ Below w.heap.size w w' := by
  have heq : ∀ W : World, (binOp .eql 35 (.agg #[.int .i64 1, .int .i64 1, .int .i64 3]) (.agg #[.int .i64 1, .int .i64 1, .int .i64 3])).run Try.prog W = .ok (.bool true) W := fun W => by kernel_rfl
  go_enter Try.func11, Try.ntmps11
  go_wp2_with fail
  refine (kn_m w).mono ?_
  rintro e w1 ⟨⟨D1, d1, rfl, hl1⟩, hb1⟩
  have HB1 := Lib.hid hb1
  have HL1 := Lib.hid hl1
  clear hb1 hl1
  go_wp2_with fail
  refine (kn_a w1 D1 d1 HL1.out).mono ?_
  rintro e w2 ⟨⟨D2, d2, rfl, hl2⟩, hb2⟩
  have HB2 := Lib.hid (HB1.out.trans (hb2.mono HB1.out.size))
  have HM2 := Lib.hid (HL1.out.next hb2)
  have HA2 := Lib.hid hl2
  clear hb2 hl2 HL1
  go_wp2_with fail
  refine (kn_l w2).mono ?_
  rintro e w3 ⟨⟨D3, d3, rfl, hl3⟩, hb3⟩
  have HB3 := Lib.hid (HB2.out.trans (hb3.mono HB2.out.size))
  have HM3 := Lib.hid (HM2.out.next hb3)
  have HA3 := Lib.hid (HA2.out.next hb3)
  have HO3 := Lib.hid hl3
  clear hb3 hl3 HM2 HA2
  go_wp2_with fail
  refine (kn_e w3).mono ?_
  rintro e w4 ⟨⟨D4, d4, rfl, hl4⟩, hb4⟩
  have HB4 := Lib.hid (HB3.out.trans (hb4.mono HB3.out.size))
  have HM4 := Lib.hid (HM3.out.next hb4)
  have HA4 := Lib.hid (HA3.out.next hb4)
  have HO4 := Lib.hid (HO3.out.next hb4)
  have HE4 := Lib.hid hl4
  clear hb4 hl4 HM3 HA3 HO3
  obtain ⟨ad, rfl, e0, e1, e2⟩ := lies_mv1 HM4.out
  go_wp2_with fail
  refine (kn_s3 w4 D2 d2 1 3 2 HA4.out).mono ?_
  rintro e w5 ⟨rfl, hb5⟩
  have HB5 := Lib.hid (HB4.out.trans (hb5.mono HB4.out.size))
  have HO5 := Lib.hid (HO4.out.next hb5)
  have HE5 := Lib.hid (HE4.out.next hb5)
  clear hb5 HO4 HE4 e0 e1 e2
  go_wp2_with fail
  refine (kn_s2 w5 D3 d3 9 2 HO5.out).mono ?_
  rintro e w6 ⟨rfl, hb6⟩
  have HB6 := Lib.hid (HB5.out.trans (hb6.mono HB5.out.size))
  have HE6 := Lib.hid (HE5.out.next hb6)
  clear hb6 HO5 HE5
  go_wp2_with fail
  refine (kn_s3 w6 D4 d4 2 1 1 HE6.out).mono ?_
  rintro e w7 ⟨rfl, hb7⟩
  have HB7 := Lib.hid (HB6.out.trans (hb7.mono HB6.out.size))
  have HE7 := Lib.hid (HE6.out.next hb7)
  clear hb7 HE6
  go_wp2_with fail
  refine (kn_6 w7 D4 d4 HE7.out).mono ?_
  rintro e w8 ⟨rfl, rfl⟩
  go_wp2_with fail
  go_ret
  exact ⟨rfl, HB7.out⟩
end Go.Proofs.Ytabbpccfdpphjaa
