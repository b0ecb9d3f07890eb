import Derived.Test.YtpgdddjjjfkneaaGreatDoorKa
import Derived.Test.YtpgdddjjjfkneaaGreatDoorChecked
import Derived.Deep.DeepMust
import Derived.BigQuiet
/-
  Contracts of checkEdge, cmp.Compare, cmp.Or, compare, great. No condition.
-/
namespace Go.Proofs.YtpgdddjjjfkneaaGreatDoor
open Go.RowKit
set_option linter.unusedVariables false

theorem checkEdge_any (N a b c : Int) (w : World) :
    Calls Tryz.prog 28 #[.int .i64 N, .int .i64 a, .int .i64 b, .int .i64 c] w fun e w' => e = .returned (.int .i64 (edge1 N a b c)) ∧ w = w' := by
  by_cases h : a < 0 ∨ N ≤ a ∨ b < 0 ∨ N ≤ b
  · have HV := Lib.hid (show edge1 N a b c = 4 by unfold edge1; rw [if_pos h])
    by_cases h1 : a < 0
    · clear h
      go_enter Tryz.func28, Tryz.ntmps28
      go_wp2
      go_ret
      exact ⟨ret_int HV.out.symm, rfl⟩
    · by_cases h2 : N ≤ a
      · clear h
        go_enter Tryz.func28, Tryz.ntmps28
        go_wp2
        go_ret
        exact ⟨ret_int HV.out.symm, rfl⟩
      · by_cases h3 : b < 0
        · clear h
          go_enter Tryz.func28, Tryz.ntmps28
          go_wp2
          go_ret
          exact ⟨ret_int HV.out.symm, rfl⟩
        · have h4 : N ≤ b := by omega
          clear h
          go_enter Tryz.func28, Tryz.ntmps28
          go_wp2
          go_ret
          exact ⟨ret_int HV.out.symm, rfl⟩
  · obtain ⟨h1, h2, h3, h4⟩ : ¬ a < 0 ∧ ¬ N ≤ a ∧ ¬ b < 0 ∧ ¬ N ≤ b := by omega
    by_cases h5 : c < 0 ∨ 4611686018427387904 < c
    · have HV := Lib.hid (show edge1 N a b c = 1 by unfold edge1; rw [if_neg h, if_pos h5])
      clear h
      by_cases h6 : c < 0
      · clear h5
        go_enter Tryz.func28, Tryz.ntmps28
        go_wp2
        go_ret
        exact ⟨ret_int HV.out.symm, rfl⟩
      · have h7 : 4611686018427387904 < c := by omega
        clear h5
        go_enter Tryz.func28, Tryz.ntmps28
        go_wp2
        go_ret
        exact ⟨ret_int HV.out.symm, rfl⟩
    · have HV := Lib.hid (show edge1 N a b c = 0 by unfold edge1; rw [if_neg h, if_neg h5])
      obtain ⟨h6, h7⟩ : ¬ c < 0 ∧ ¬ 4611686018427387904 < c := by omega
      clear h h5
      go_enter Tryz.func28, Tryz.ntmps28
      go_wp2
      go_ret
      exact ⟨ret_int HV.out.symm, rfl⟩
theorem compareInt_any (x y : Int) (w : World) : Calls Tryz.prog 51 #[.int .i64 x, .int .i64 y] w fun e w' => e = .returned (.int .i64 (Lib.compareInt x y)) ∧ w = w' := by
  rcases Int.lt_trichotomy x y with h | h | h
  · have HV := Lib.hid (compareInt_lt h)
    go_enter Tryz.func51, Tryz.ntmps51
    go_wp2
    go_ret
    exact ⟨ret_int HV.out.symm, rfl⟩
  · subst h
    have HV := Lib.hid (compareInt_eq x)
    go_enter Tryz.func51, Tryz.ntmps51
    go_wp2
    go_ret
    exact ⟨ret_int HV.out.symm, rfl⟩
  · have HV := Lib.hid (compareInt_gt h)
    have h2 : ¬ x < y := by omega
    go_enter Tryz.func51, Tryz.ntmps51
    go_wp2
    go_ret
    exact ⟨ret_int HV.out.symm, rfl⟩
theorem compareInt_still (x y : Int) (w : World) : Calls Tryz.prog 51 #[.int .i64 x, .int .i64 y] w fun e w' => e = .returned (.int .i64 (Lib.compareInt x y)) ∧ w' = w := (compareInt_any x y w).mono fun _ _ ⟨a, b⟩ => ⟨a, b.symm⟩
def orI (x y : Int) : Int := if x = 0 then y else x
def OrRel (x y : Int) (i : Value) : Prop := (i = .int .i64 0) ∨ (i = .int .i64 1 ∧ x = 0) ∨ (i = .int .i64 2 ∧ x = 0 ∧ y = 0)
theorem or_any (b : Nat) (x y : Int) (w : World) (h0 : w.cell? ⟨b, 0, none⟩ = some (.int .i64 x)) (h1 : w.cell? ⟨b, 1, none⟩ = some (.int .i64 y)) :
    Calls Tryz.prog 55 #[.slice (some ⟨b, 0, none⟩) 2 2] w fun e w' => e = .returned (.int .i64 (orI x y)) ∧ w = w' := by
  go_enter Tryz.func55, Tryz.ntmps55
  go_wp2
  go_loop [8] (fun i => OrRel x y i) (fun i => 2 - (intOf i).toNat)
  case atStart => exact .inl rfl
  case round =>
    rcases hrel with rfl | ⟨rfl, hx⟩ | ⟨rfl, hx, hy⟩
    · by_cases hx : x = 0
      · subst hx
        go_wp2
        go_round
        case rel => exact .inr (.inl ⟨rfl, rfl⟩)
        case measure => simp [intOf]
      · have HX := Lib.hid (show orI x y = x by unfold orI; rw [if_neg hx])
        go_wp2
        go_ret
        exact ⟨ret_int HX.out.symm, rfl⟩
    · have HX := Lib.hid (show orI x y = y by unfold orI; rw [if_pos hx])
      subst hx
      by_cases hy : y = 0
      · subst hy
        go_wp2
        go_round
        case rel => exact .inr (.inr ⟨rfl, rfl, rfl⟩)
        case measure => simp [intOf]
      · go_wp2
        go_ret
        exact ⟨ret_int HX.out.symm, rfl⟩
    · have HX := Lib.hid (show orI x y = 0 by unfold orI; rw [if_pos hx, hy])
      subst hx hy
      go_wp2
      go_ret
      exact ⟨ret_int HX.out.symm, rfl⟩
attribute [local irreducible] wpStill in
theorem compare_any (a b : Ed) (w : World) :
    Calls Tryz.prog 30 #[.agg #[.int .i64 a.1, .int .i64 a.2.1, .int .i64 a.2.2], .agg #[.int .i64 b.1, .int .i64 b.2.1, .int .i64 b.2.2]] w fun e w' => e = .returned (.int .i64 (cmpE a b)) ∧ Below w.heap.size w w' := by
  go_enter Tryz.func30, Tryz.ntmps30
  go_wp2_with fail
  refine still_tail 10 (by kernel_rfl) (by kernel_rfl) ?_
  simp only [List.take_succ_cons, List.take_zero, List.drop_succ_cons, List.drop_zero]
  iterate 4 still_step
  still_call (compareInt_still _ _ _)
  iterate 4 still_step
  still_call (compareInt_still _ _ _)
  refine wpStill_nil ?_
  go_wp2_with fail
  refine (or_any _ (Lib.compareInt a.1 b.1) (Lib.compareInt a.2.1 b.2.1) _ (by simp [go_sem]) (by simp [go_sem])).mono ?_
  rintro e w' ⟨rfl, rfl⟩
  go_wp2_with fail
  go_ret
  exact ⟨ret_int (by unfold orI cmpE; rfl), ((((Below.refl _ _).alloc (Nat.le_refl _) _).alloc (by simp) _).alloc (by simp; omega) _).drew⟩
/-- Edges as cells. -/
def ec (es : List Ed) : List Value := es.flatMap fun e => [.int .i64 e.1, .int .i64 e.2.1, .int .i64 e.2.2]
theorem ec_length (es : List Ed) : (ec es).length = es.length * 3 := by
  unfold ec
  induction es with
  | nil => rfl
  | cons e r ih => simp only [List.flatMap_cons, List.length_append, ih, List.length_cons, List.length_nil]; omega
theorem ec_append (a b : List Ed) : ec (a ++ b) = ec a ++ ec b := by unfold ec; simp
theorem ec_one (es : List Ed) : ∀ u ∈ ec es, u.oneCell' = true := by
  intro u hu
  unfold ec at hu
  obtain ⟨e, _, he⟩ := List.mem_flatMap.1 hu
  simp at he
  rcases he with rfl | rfl | rfl <;> rfl
theorem ec_at (es : List Ed) (k : Nat) (h : k < es.length) :
    (ec es)[k * 3]? = some (.int .i64 (eAt es k).1) ∧ (ec es)[k * 3 + 1]? = some (.int .i64 (eAt es k).2.1) ∧ (ec es)[k * 3 + 2]? = some (.int .i64 (eAt es k).2.2) := by
  induction es generalizing k with
  | nil => simp at h
  | cons e r ih =>
    cases k with
    | zero => simp [ec, eAt]
    | succ k =>
      have := ih k (by simpa using h)
      have e1 : (k + 1) * 3 = k * 3 + 3 := by omega
      have e2 : k * 3 + 3 + 1 = k * 3 + 1 + 3 := by omega
      have e3 : k * 3 + 3 + 2 = k * 3 + 2 + 3 := by omega
      rw [e1, e2, e3]
      exact this
theorem Lies.ed_len {w : World} {B : Nat} {A : Option Addr} {n : Nat} {es : List Ed} (h : Lies w B 3 A n (ec es)) : es.length = n := by
  have := h.1
  rw [ec_length] at this
  omega
/-- The cells of an edge. -/
theorem Lies.ed {w : World} {B : Nat} {A : Option Addr} {n : Nat} {es : List Ed} (h : Lies w B 3 A n (ec es)) (k : Nat) (hk : k < n) :
    ∃ ad, A = some ad ∧ ad.block < B ∧ w.cell? (ad.add (k * 3)) = some (.int .i64 (eAt es k).1) ∧ w.cell? ⟨(ad.add (k * 3)).block, (ad.add (k * 3)).off + 1, none⟩ = some (.int .i64 (eAt es k).2.1) ∧ w.cell? ⟨(ad.add (k * 3)).block, (ad.add (k * 3)).off + 2, none⟩ = some (.int .i64 (eAt es k).2.2) := by
  have hl := h.ed_len
  obtain ⟨a0, a1, a2⟩ := ec_at es k (by omega)
  obtain ⟨ad, e, hb, c0⟩ := h.2 _ _ a0
  obtain ⟨ad1, e1, _, c1⟩ := h.2 _ _ a1
  obtain ⟨ad2, e2, _, c2⟩ := h.2 _ _ a2
  rw [e] at e1 e2
  injection e1 with e1
  injection e2 with e2
  subst e1 e2
  rw [← add_add] at c1 c2
  exact ⟨ad, e, hb, c0, c1, c2⟩
end Go.Proofs.YtpgdddjjjfkneaaGreatDoor

/-
  The contract of Check: it tells what is wrong with a graph. No condition.
-/
namespace Go.Proofs.YtpgdddjjjfkneaaGreatDoor
open Go.RowKit
set_option linter.unusedVariables false

def CkRel (N : Int) (es : List Ed) (n : Nat) (w : World) (i : Value) (W : World) : Prop :=
  ∃ k : Nat, i = .int .i64 k ∧ k ≤ n ∧ firstErr N es k (es.length - k) = chk N es ∧ Below w.heap.size w W
attribute [local irreducible] wpStill in
theorem check_any (N : Int) (A : Option Addr) (n c : Nat) (es : List Ed) (w : World) (hA : Lies w w.heap.size 3 A n (ec es)) (hnc : n ≤ c) (hn : n ≤ maxLen) :
    Calls Tryz.prog 34 #[.agg #[.int .i64 N, .slice A n c]] w fun e w' => e = .returned (.int .i64 (chk N es)) ∧ Below w.heap.size w w' := by
  obtain rfl := hA.ed_len
  unfold maxLen at hn
  by_cases h1 : N < 1 ∨ 24 < N
  · have HV := Lib.hid (chk_bad N es h1)
    by_cases h2 : N < 1
    · clear h1
      go_enter Tryz.func34, Tryz.ntmps34
      go_wp2
      go_ret
      exact ⟨ret_int HV.out.symm, below_alloc _ _⟩
    · have h3 : 24 < N := by omega
      clear h1
      go_enter Tryz.func34, Tryz.ntmps34
      go_wp2
      go_ret
      exact ⟨ret_int HV.out.symm, below_alloc _ _⟩
  obtain ⟨h2, h3⟩ : ¬ N < 1 ∧ ¬ 24 < N := by omega
  by_cases h4 : 80 < es.length
  · have HV := Lib.hid (chk_many N es h1 h4)
    clear h1
    go_enter Tryz.func34, Tryz.ntmps34
    go_wp2
    go_ret
    exact ⟨ret_int HV.out.symm, below_alloc _ _⟩
  have HV := Lib.hid (chk_else N es h1 h4)
  clear h1
  go_enter Tryz.func34, Tryz.ntmps34
  go_wp2
  go_loopw [22] (fun i W => CkRel N es es.length w i W ∧ Below (w.heap.size + 1) (w.alloc (.cells #[.int .i64 N, .slice A es.length c] 27)) W) (fun i W => es.length - (intOf i).toNat)
  case atStart => exact ⟨⟨0, rfl, Nat.zero_le _, HV.out.symm, below_alloc _ _⟩, Below.refl _ _⟩
  case round =>
    obtain ⟨⟨k, rfl, hk, hf, hb⟩, hb1⟩ := hrel
    have HF := Lib.hid hf
    clear hf
    have c0 : wr.cell? ⟨w.heap.size, 0, none⟩ = some (.int .i64 N) := (hb1.cell (p := ⟨w.heap.size, 0, none⟩) (by simp)).trans (by simp [go_sem])
    have c1 : wr.cell? ⟨w.heap.size, 1, none⟩ = some (.slice A es.length c) := (hb1.cell (p := ⟨w.heap.size, 1, none⟩) (by simp)).trans (by simp [go_sem])
    have hz : w.heap.size + 1 ≤ wr.heap.size := by have := hb1.size; simpa using this
    have hAr := hA.below hb
    have c0a : ∀ o, (wr.alloc o).cell? ⟨w.heap.size, 0, none⟩ = some (.int .i64 N) := fun o => (World.cell?_alloc_lt wr o _ (by show w.heap.size < _; omega)).trans c0
    have c1a : ∀ o, (wr.alloc o).cell? ⟨w.heap.size, 1, none⟩ = some (.slice A es.length c) := fun o => (World.cell?_alloc_lt wr o _ (by show w.heap.size < _; omega)).trans c1
    by_cases hlt : k < es.length
    · have HS := Lib.hid (firstErr_step N es k hlt)
      obtain ⟨ad, rfl, hadb, e0, e1, e2⟩ := hAr.ed k hlt
      have hbn : ∀ o, Below w.heap.size w (wr.alloc o) := fun o => hb.alloc hb.size o
      by_cases hx : edge1 N (eAt es k).1 (eAt es k).2.1 (eAt es k).2.2 = 0
      · by_cases hk0 : k = 0
        · have HE := Lib.hid (show errAt N es k = 0 by unfold errAt; rw [if_pos hx, if_pos hk0])
          have HX := Lib.hid hx
          have hkz : ((k : Int) == 0) = true := by simpa using hk0
          clear hx hk0
          go_wp2_with ((go_at_call 28; (with_reducible refine (checkEdge_any _ _ _ _ _).mono ?_); rintro e w' ⟨rfl, rfl⟩; rw [HX.out]))
          go_roundw
          case rel => exact ⟨⟨k + 1, by go_num, by omega, by rw [← HF.out, HS.out, if_pos HE.out], hbn _⟩, hb1.alloc hz _⟩
          case measure => simp [intOf]; omega
        · obtain ⟨ad', e', _, p0, p1, p2⟩ := hAr.ed (k - 1) (by omega)
          injection e' with e'
          subst e'
          have hpk : ((k : Int) - 1).toNat = k - 1 := by omega
          have hp0 : (0 : Int) ≤ (k : Int) - 1 := by omega
          have hp1 : (k : Int) - 1 < (es.length : Int) := by omega
          have HX := Lib.hid hx
          have hkz : ((k : Int) == 0) = false := by simpa using hk0
          have p0a : ∀ o, (wr.alloc o).cell? (ad.add ((k - 1) * 3)) = some (.int .i64 (eAt es (k - 1)).1) := fun o => (World.cell?_alloc_lt wr o _ (by rw [block_add]; omega)).trans p0
          have p1a : ∀ o, (wr.alloc o).cell? ⟨(ad.add ((k - 1) * 3)).block, (ad.add ((k - 1) * 3)).off + 1, none⟩ = some (.int .i64 (eAt es (k - 1)).2.1) := fun o => (World.cell?_alloc_lt wr o _ (by show (ad.add _).block < _; rw [block_add]; omega)).trans p1
          have p2a : ∀ o, (wr.alloc o).cell? ⟨(ad.add ((k - 1) * 3)).block, (ad.add ((k - 1) * 3)).off + 2, none⟩ = some (.int .i64 (eAt es (k - 1)).2.2) := fun o => (World.cell?_alloc_lt wr o _ (by show (ad.add _).block < _; rw [block_add]; omega)).trans p2
          have HE0 := Lib.hid (show errAt N es k = if cmpE (eAt es k) (eAt es (k - 1)) = 0 then 5 else if cmpE (eAt es k) (eAt es (k - 1)) < 0 then 6 else 0 by unfold errAt; rw [if_pos hx, if_neg hk0])
          have hp2 : (1 : Int) ≤ (k : Int) := by omega
          have hwr : IntKind.i64.wrap ((k : Int) - 1) = (k : Int) - 1 := by rw [IntKind.wrap_i64]; omega
          clear hx hk0 p0 p1 p2
          go_wp2_with ((go_at_call 28; (with_reducible refine (checkEdge_any _ _ _ _ _).mono ?_); rintro e w' ⟨rfl, rfl⟩; rw [HX.out]))
          refine still_tail 7 (by kernel_rfl) (by kernel_rfl) ?_
          simp only [List.take_succ_cons, List.take_zero, List.drop_succ_cons, List.drop_zero]
          iterate 7 still_step
          refine wpStill_nil ?_
          go_wp2_with fail
          refine (compare_any (eAt es k) (eAt es (k - 1)) _).mono ?_
          rintro e w1 ⟨rfl, hb2⟩
          clear hwr hpk
          have hb3 : Below w.heap.size w w1 := (hbn _).drew.trans (hb2.mono (by have := (hbn (.cells #[] 0)).size; simp at this ⊢; omega))
          have hb4 : Below (w.heap.size + 1) (w.alloc (.cells #[.int .i64 N, .slice (some ad) es.length c] 27)) w1 := (hb1.alloc hz _).drew.trans (hb2.mono (by simp; omega))
          by_cases q0 : cmpE (eAt es k) (eAt es (k - 1)) = 0
          · have HR := Lib.hid (show chk N es = 5 by rw [← HF.out, HS.out, if_neg (by rw [HE0.out, if_pos q0]; decide), HE0.out, if_pos q0])
            have q1 : (cmpE (eAt es k) (eAt es (k - 1)) == 0) = true := by simpa using q0
            clear q0
            go_wp2_with fail
            go_ret
            exact ⟨ret_int HR.out.symm, hb3⟩
          · have q1 : (cmpE (eAt es k) (eAt es (k - 1)) == 0) = false := by simpa using q0
            by_cases q2 : cmpE (eAt es k) (eAt es (k - 1)) < 0
            · have HR := Lib.hid (show chk N es = 6 by rw [← HF.out, HS.out, if_neg (by rw [HE0.out, if_neg q0, if_pos q2]; decide), HE0.out, if_neg q0, if_pos q2])
              clear q0
              go_wp2_with fail
              go_ret
              exact ⟨ret_int HR.out.symm, hb3⟩
            · have HE := Lib.hid (show errAt N es k = 0 by rw [HE0.out, if_neg q0, if_neg q2])
              clear q0
              go_wp2_with fail
              go_roundw
              case rel => exact ⟨⟨k + 1, by go_num, by omega, by rw [← HF.out, HS.out, if_pos HE.out], hb3⟩, hb4⟩
              case measure => simp [intOf]; omega
      · have HX := Lib.hid (show errAt N es k = edge1 N (eAt es k).1 (eAt es k).2.1 (eAt es k).2.2 by unfold errAt; rw [if_neg hx])
        have HR := Lib.hid (show chk N es = edge1 N (eAt es k).1 (eAt es k).2.1 (eAt es k).2.2 by rw [← HF.out, HS.out, if_neg (by rw [HX.out]; exact hx), HX.out])
        have hx1 : (edge1 N (eAt es k).1 (eAt es k).2.1 (eAt es k).2.2 != 0) = true := by simpa using hx
        clear hx
        go_wp2_with ((go_at_call 28; (with_reducible refine (checkEdge_any _ _ _ _ _).mono ?_); rintro e w' ⟨rfl, rfl⟩))
        go_ret
        exact ⟨ret_int HR.out.symm, hbn _⟩
    · go_wp2_with fail
      go_ret
      exact ⟨ret_int (by rw [← HF.out]; exact (firstErr_end N es k (by omega)).symm), hb⟩
end Go.Proofs.YtpgdddjjjfkneaaGreatDoor

/-
  The contract of the document's own Check. No condition.
-/
namespace Go.Proofs.YtpgdddjjjfkneaaGreatDoor
open Go.RowKit
set_option linter.unusedVariables false

theorem edge1_four {N a b c : Int} (h : a < 0 ∨ N ≤ a ∨ b < 0 ∨ N ≤ b) : edge1 N a b c = 4 := by unfold edge1; rw [if_pos h]
theorem edge1_one {N a b c : Int} (h : ¬ (a < 0 ∨ N ≤ a ∨ b < 0 ∨ N ≤ b)) (h2 : c < 0 ∨ 4611686018427387904 < c) : edge1 N a b c = 1 := by unfold edge1; rw [if_neg h, if_pos h2]
theorem errAt_edge {N : Int} {es : List Ed} {k : Nat} {v : Int} (h : edge1 N (eAt es k).1 (eAt es k).2.1 (eAt es k).2.2 = v) (hv : v ≠ 0) : errAt N es k = v := by
  unfold errAt; rw [h, if_neg hv]
def RkRel (N : Int) (es : List Ed) (n : Nat) (w : World) (i : Value) (W : World) : Prop :=
  ∃ k : Nat, i = .int .i64 k ∧ k ≤ n ∧ firstErr N es k (es.length - k) = chk N es ∧ Below w.heap.size w W
set_option maxHeartbeats 1000000 in
set_option maxRecDepth 100000 in
theorem rcheck_any (N : Int) (A : Option Addr) (n c : Nat) (es : List Ed) (w : World) (hA : Lies w w.heap.size 3 A n (ec es)) (hnc : n ≤ c) (hn : n ≤ maxLen) :
    Calls Tryz.prog 16 #[.agg #[.int .i64 N, .slice A n c]] w fun e w' => e = .returned (.int .i64 (chk N es)) ∧ Below w.heap.size w w' := by
  obtain rfl := hA.ed_len
  unfold maxLen at hn
  by_cases h1 : N < 1 ∨ 24 < N
  · have HV := Lib.hid (chk_bad N es h1)
    by_cases h2 : N < 1
    · clear h1
      go_enter Tryz.func16, Tryz.ntmps16
      go_wp2
      go_ret
      exact ⟨ret_int HV.out.symm, below_alloc _ _⟩
    · have h3 : 24 < N := by omega
      clear h1
      go_enter Tryz.func16, Tryz.ntmps16
      go_wp2
      go_ret
      exact ⟨ret_int HV.out.symm, below_alloc _ _⟩
  obtain ⟨h2, h3⟩ : ¬ N < 1 ∧ ¬ 24 < N := by omega
  by_cases h4 : 80 < es.length
  · have HV := Lib.hid (chk_many N es h1 h4)
    clear h1
    go_enter Tryz.func16, Tryz.ntmps16
    go_wp2
    go_ret
    exact ⟨ret_int HV.out.symm, below_alloc _ _⟩
  have HV := Lib.hid (chk_else N es h1 h4)
  clear h1
  go_enter Tryz.func16, Tryz.ntmps16
  go_wp2
  go_loopw [3] (fun i W => RkRel N es es.length w i W ∧ Below (w.heap.size + 1) (w.alloc (.cells #[.int .i64 N, .slice A es.length c] 27)) W) (fun i W => es.length - (intOf i).toNat)
  case atStart => exact ⟨⟨0, rfl, Nat.zero_le _, HV.out.symm, below_alloc _ _⟩, Below.refl _ _⟩
  case round =>
    obtain ⟨⟨k, rfl, hk, hf, hb⟩, hb1⟩ := hrel
    have HF := Lib.hid hf
    clear hf
    have c0 : wr.cell? ⟨w.heap.size, 0, none⟩ = some (.int .i64 N) := (hb1.cell (p := ⟨w.heap.size, 0, none⟩) (by simp)).trans (by simp [go_sem])
    have c1 : wr.cell? ⟨w.heap.size, 1, none⟩ = some (.slice A es.length c) := (hb1.cell (p := ⟨w.heap.size, 1, none⟩) (by simp)).trans (by simp [go_sem])
    have hz : w.heap.size + 1 ≤ wr.heap.size := by have := hb1.size; simpa using this
    have hAr := hA.below hb
    have c0a : ∀ o, (wr.alloc o).cell? ⟨w.heap.size, 0, none⟩ = some (.int .i64 N) := fun o => (World.cell?_alloc_lt wr o _ (by show w.heap.size < _; omega)).trans c0
    have c1a : ∀ o, (wr.alloc o).cell? ⟨w.heap.size, 1, none⟩ = some (.slice A es.length c) := fun o => (World.cell?_alloc_lt wr o _ (by show w.heap.size < _; omega)).trans c1
    by_cases hlt : k < es.length
    · have HS := Lib.hid (firstErr_step N es k hlt)
      have bad : ∀ v, v ≠ 0 → errAt N es k = v → chk N es = v := fun v hv he => by rw [← HF.out, HS.out, if_neg (by rw [he]; exact hv), he]
      have good : errAt N es k = 0 → firstErr N es (k + 1) (es.length - (k + 1)) = chk N es := fun he => by rw [← HF.out, HS.out, if_pos he]
      have BAD := Lib.hid bad
      have GOOD := Lib.hid good
      clear bad good
      obtain ⟨ad, rfl, hadb, e0, e1, e2⟩ := hAr.ed k hlt
      have hbn : ∀ o, Below w.heap.size w (wr.alloc o) := fun o => hb.alloc hb.size o
      by_cases hx : (eAt es k).1 < 0 ∨ N ≤ (eAt es k).1 ∨ (eAt es k).2.1 < 0 ∨ N ≤ (eAt es k).2.1
      · have HR := Lib.hid (BAD.out 4 (by decide) (errAt_edge (edge1_four hx) (by decide)))
        by_cases x1 : (eAt es k).1 < 0
        · clear hx
          go_wp2_with fail
          go_ret
          exact ⟨ret_int HR.out.symm, hbn _⟩
        by_cases x2 : (eAt es k).2.1 < 0
        · clear hx
          go_wp2_with fail
          go_ret
          exact ⟨ret_int HR.out.symm, hbn _⟩
        by_cases x3 : N ≤ (eAt es k).1
        · clear hx
          go_wp2_with fail
          go_ret
          exact ⟨ret_int HR.out.symm, hbn _⟩
        · have x4 : N ≤ (eAt es k).2.1 := by omega
          clear hx
          go_wp2_with fail
          go_ret
          exact ⟨ret_int HR.out.symm, hbn _⟩
      · obtain ⟨x1, x2, x3, x4⟩ : ¬ (eAt es k).1 < 0 ∧ ¬ (eAt es k).2.1 < 0 ∧ ¬ N ≤ (eAt es k).1 ∧ ¬ N ≤ (eAt es k).2.1 := by omega
        by_cases hy : (eAt es k).2.2 < 0 ∨ 4611686018427387904 < (eAt es k).2.2
        · have HR := Lib.hid (BAD.out 1 (by decide) (errAt_edge (edge1_one hx hy) (by decide)))
          clear hx
          by_cases y1 : (eAt es k).2.2 < 0
          · clear hy
            go_wp2_with fail
            go_ret
            exact ⟨ret_int HR.out.symm, hbn _⟩
          · have y2 : 4611686018427387904 < (eAt es k).2.2 := by omega
            clear hy
            go_wp2_with fail
            go_ret
            exact ⟨ret_int HR.out.symm, hbn _⟩
        · obtain ⟨y1, y2⟩ : ¬ (eAt es k).2.2 < 0 ∧ ¬ 4611686018427387904 < (eAt es k).2.2 := by omega
          have hz0 : edge1 N (eAt es k).1 (eAt es k).2.1 (eAt es k).2.2 = 0 := by unfold edge1; rw [if_neg hx, if_neg hy]
          clear hx hy
          by_cases hk0 : k = 0
          · have HE := Lib.hid (show errAt N es k = 0 by unfold errAt; rw [if_pos hz0, if_pos hk0])
            have hkz : (k : Int) ≤ 0 := by omega
            clear hk0 hz0
            go_wp2_with fail
            go_roundw
            case rel => exact ⟨⟨k + 1, by go_num, by omega, GOOD.out HE.out, hbn _⟩, hb1.alloc hz _⟩
            case measure => simp [intOf]; omega
          · obtain ⟨ad', e', _, p0, p1, p2⟩ := hAr.ed (k - 1) (by omega)
            injection e' with e'
            subst e'
            have HE0 := Lib.hid (show errAt N es k = if cmpE (eAt es k) (eAt es (k - 1)) = 0 then 5 else if cmpE (eAt es k) (eAt es (k - 1)) < 0 then 6 else 0 by unfold errAt; rw [if_pos hz0, if_neg hk0])
            have hpk : ((k : Int) - 1).toNat = k - 1 := by omega
            have hp0 : (0 : Int) ≤ (k : Int) - 1 := by omega
            have hp1 : (k : Int) - 1 < (es.length : Int) := by omega
            have hkz : ¬ (k : Int) ≤ 0 := by omega
            have p0a : ∀ o, (wr.alloc o).cell? (ad.add ((k - 1) * 3)) = some (.int .i64 (eAt es (k - 1)).1) := fun o => (World.cell?_alloc_lt wr o _ (by rw [block_add]; omega)).trans p0
            have p1a : ∀ o, (wr.alloc o).cell? ⟨(ad.add ((k - 1) * 3)).block, (ad.add ((k - 1) * 3)).off + 1, none⟩ = some (.int .i64 (eAt es (k - 1)).2.1) := fun o => (World.cell?_alloc_lt wr o _ (by show (ad.add _).block < _; rw [block_add]; omega)).trans p1
            have p2a : ∀ o, (wr.alloc o).cell? ⟨(ad.add ((k - 1) * 3)).block, (ad.add ((k - 1) * 3)).off + 2, none⟩ = some (.int .i64 (eAt es (k - 1)).2.2) := fun o => (World.cell?_alloc_lt wr o _ (by show (ad.add _).block < _; rw [block_add]; omega)).trans p2
            have hbnn : ∀ o o', Below w.heap.size w ((wr.alloc o).alloc o') := fun o o' => (hbn o).alloc (by have := (hbn o).size; exact this) o'
            have hb1n : ∀ o o', Below (w.heap.size + 1) (w.alloc (.cells #[.int .i64 N, .slice (some ad) es.length c] 27)) ((wr.alloc o).alloc o') := fun o o' => (hb1.alloc hz o).alloc (by simp; omega) o'
            have HK0 := Lib.hid hz0
            clear hk0 hz0 p0 p1 p2
            by_cases q : (eAt es (k - 1)).1 = (eAt es k).1 ∧ (eAt es (k - 1)).2.1 = (eAt es k).2.1
            · have HR := Lib.hid (BAD.out 5 (by decide) (by rw [HE0.out, if_pos (cmpE_zero.2 ⟨q.1.symm, q.2.symm⟩)]))
              obtain ⟨q1, q2⟩ := q
              have r1 : ((eAt es (k - 1)).1 == (eAt es k).1) = true := by simpa using q1
              have r2 : ((eAt es (k - 1)).2.1 == (eAt es k).2.1) = true := by simpa using q2
              clear q1 q2
              go_wp2_with fail
              go_ret
              exact ⟨ret_int HR.out.symm, hbnn _ _⟩
            · have nz : ¬ cmpE (eAt es k) (eAt es (k - 1)) = 0 := fun h => q ⟨(cmpE_zero.1 h).1.symm, (cmpE_zero.1 h).2.symm⟩
              by_cases t : ltE (eAt es k) (eAt es (k - 1))
              · have HR := Lib.hid (BAD.out 6 (by decide) (by rw [HE0.out, if_neg nz, if_pos (cmpE_neg.2 t)]))
                clear nz
                by_cases q1 : (eAt es (k - 1)).1 = (eAt es k).1
                · have r1 : ((eAt es (k - 1)).1 == (eAt es k).1) = true := by simpa using q1
                  have r2 : ((eAt es (k - 1)).2.1 == (eAt es k).2.1) = false := by simpa using fun h => q ⟨q1, h⟩
                  have r3 : ¬ (eAt es k).1 < (eAt es (k - 1)).1 := by omega
                  have r4 : (eAt es k).2.1 < (eAt es (k - 1)).2.1 := by unfold ltE at t; omega
                  clear q q1 t
                  go_wp2_with fail
                  go_ret
                  exact ⟨ret_int HR.out.symm, hbnn _ _⟩
                · have r1 : ((eAt es (k - 1)).1 == (eAt es k).1) = false := by simpa using q1
                  have r3 : (eAt es k).1 < (eAt es (k - 1)).1 := by unfold ltE at t; omega
                  clear q q1 t
                  go_wp2_with fail
                  go_ret
                  exact ⟨ret_int HR.out.symm, hbnn _ _⟩
              · have HE := Lib.hid (show errAt N es k = 0 by rw [HE0.out, if_neg nz, if_neg (fun h => t (cmpE_neg.1 h))])
                clear nz
                by_cases q1 : (eAt es (k - 1)).1 = (eAt es k).1
                · have r1 : ((eAt es (k - 1)).1 == (eAt es k).1) = true := by simpa using q1
                  have r2 : ((eAt es (k - 1)).2.1 == (eAt es k).2.1) = false := by simpa using fun h => q ⟨q1, h⟩
                  have r3 : ¬ (eAt es k).1 < (eAt es (k - 1)).1 := by omega
                  have r4 : ¬ (eAt es k).2.1 < (eAt es (k - 1)).2.1 := by unfold ltE at t; omega
                  clear q q1 t
                  go_wp2_with fail
                  go_roundw
                  case rel => exact ⟨⟨k + 1, by go_num, by omega, GOOD.out HE.out, hbnn _ _⟩, hb1n _ _⟩
                  case measure => simp [intOf]; omega
                · have r1 : ((eAt es (k - 1)).1 == (eAt es k).1) = false := by simpa using q1
                  have r3 : ¬ (eAt es k).1 < (eAt es (k - 1)).1 := by unfold ltE at t; omega
                  clear q q1 t
                  go_wp2_with fail
                  go_roundw
                  case rel => exact ⟨⟨k + 1, by go_num, by omega, GOOD.out HE.out, hbnn _ _⟩, hb1n _ _⟩
                  case measure => simp [intOf]; omega
    · go_wp2_with fail
      go_ret
      exact ⟨ret_int (by rw [← HF.out]; exact (firstErr_end N es k (by omega)).symm), hb⟩
end Go.Proofs.YtpgdddjjjfkneaaGreatDoor

/-
  Contracts of Out, and of the document's own Out. No condition.
-/
namespace Go.Proofs.YtpgdddjjjfkneaaGreatDoor
open Go.RowKit
set_option linter.unusedVariables false

def okEd (N : Int) (e : Ed) : Prop := edge1 N e.1 e.2.1 e.2.2 = 0
theorem firstErr_zero (N : Int) (es : List Ed) : ∀ (n k : Nat), firstErr N es k n = 0 → ∀ j, k ≤ j → j < k + n → errAt N es j = 0
  | 0, k, _, j, h1, h2 => by omega
  | n + 1, k, h, j, h1, h2 => by
    unfold firstErr at h
    by_cases he : errAt N es k = 0
    · rw [if_pos he] at h
      by_cases hj : j = k
      · subst hj; exact he
      · exact firstErr_zero N es n (k + 1) h j (by omega) (by omega)
    · rw [if_neg he] at h
      exact absurd h he
theorem chk_zero {N : Int} {es : List Ed} (h : chk N es = 0) : 1 ≤ N ∧ N ≤ 24 ∧ es.length ≤ 80 ∧ ∀ k, k < es.length → errAt N es k = 0 := by
  unfold chk at h
  by_cases h1 : N < 1 ∨ 24 < N
  · rw [if_pos h1] at h; cases h
  · rw [if_neg h1] at h
    by_cases h2 : 80 < es.length
    · rw [if_pos h2] at h; cases h
    · rw [if_neg h2] at h
      exact ⟨by omega, by omega, by omega, fun k hk => firstErr_zero N es _ 0 h k (Nat.zero_le _) (by omega)⟩
theorem errAt_ok {N : Int} {es : List Ed} {k : Nat} (h : errAt N es k = 0) : okEd N (eAt es k) := by
  unfold errAt at h
  by_cases he : edge1 N (eAt es k).1 (eAt es k).2.1 (eAt es k).2.2 = 0
  · exact he
  · rw [if_neg he] at h; exact absurd h he
theorem eAt_get (es : List Ed) (k : Nat) (h : k < es.length) : eAt es k = es[k] := by simp [eAt, h]
theorem chk_ok {N : Int} {es : List Ed} (h : chk N es = 0) : ∀ e ∈ es, okEd N e := by
  intro e he
  obtain ⟨k, hk, rfl⟩ := List.mem_iff_getElem.1 he
  have := errAt_ok ((chk_zero h).2.2.2 k hk)
  rwa [eAt_get es k hk] at this
/-- The edges from a vertex. -/
def fromV (v : Int) (es : List Ed) : List Ed := es.filter fun e => e.1 == v
def outE (N : Int) (es : List Ed) (v : Int) : List Ed := if chk N es = 0 then fromV v es else []
theorem fromV_take (v : Int) (es : List Ed) (k : Nat) (h : k < es.length) : fromV v (es.take (k + 1)) = if (eAt es k).1 = v then fromV v (es.take k) ++ [eAt es k] else fromV v (es.take k) := by
  unfold fromV
  rw [List.take_succ_eq_append_getElem h, List.filter_append, eAt_get es k h]
  by_cases hv : es[k].1 = v
  · rw [if_pos hv, List.filter_cons, if_pos (by simpa using hv)]; rfl
  · rw [if_neg hv, List.filter_cons, if_neg (by simpa using hv)]; simp
theorem fromV_len (v : Int) (es : List Ed) : (fromV v es).length ≤ es.length := List.length_filter_le _ _
def OuRel (v : Int) (es : List Ed) (w : World) (out i : Value) (W : World) : Prop :=
  ∃ (k : Nat) (A : Option Addr) (c : Nat), i = .int .i64 k ∧ k ≤ es.length ∧ out = .slice A (fromV v (es.take k)).length c ∧ W.ownsRow w.heap.size 80 3 (.slice A (fromV v (es.take k)).length c) (fromV v (es.take k)).length (ec (fromV v (es.take k))) ∧ Below w.heap.size w W
def OuPost (l : List Ed) (w : World) (r : Ending) (w' : World) : Prop :=
  Below w.heap.size w w' ∧ ∃ A c, r = .returned (.slice A l.length c) ∧ w'.ownsRow w.heap.size 80 3 (.slice A l.length c) l.length (ec l)
set_option maxHeartbeats 1000000 in
theorem out_any (N : Int) (A : Option Addr) (n c : Nat) (es : List Ed) (v : Int) (w : World) (hA : Lies w w.heap.size 3 A n (ec es)) (hnc : n ≤ c) (hn : n ≤ maxLen) :
    Calls Tryz.prog 104 #[.agg #[.int .i64 N, .slice A n c], .int .i64 v] w (OuPost (outE N es v) w) := by
  obtain rfl := hA.ed_len
  have hA0 := hA.next (below_alloc w (.cells #[.int .i64 N, .slice A es.length c] 27))
  by_cases hok : chk N es = 0
  · have HO := Lib.hid (show outE N es v = fromV v es by unfold outE; rw [if_pos hok])
    obtain ⟨n1, n2, n3, _⟩ := chk_zero hok
    have HOK := Lib.hid hok
    clear hok
    obtain ⟨i0, hi0, hz0, hzs, hzb⟩ := info_parts (show (Tryz.prog.info? 80).map (fun i => (i.zero, i.size, i.bytes)) = some (some (.agg #[.int .i64 0, .int .i64 0, .int .i64 0]), 3, 24) by kernel_rfl)
    have HI0 := Lib.hid hi0
    have HZ0 := Lib.hid hz0
    have HZS := Lib.hid hzs
    have HZB := Lib.hid hzb
    clear hi0 hz0 hzs hzb
    go_enter Tryz.func104, Tryz.ntmps104
    go_wp2_with fail
    refine (check_any N A es.length c es _ hA0 hnc hn).mono ?_
    rintro e w1 ⟨rfl, hb1⟩
    rw [HOK.out]
    have hb01 : Below w.heap.size w w1 := (below_alloc _ _).trans (hb1.mono (by simp))
    have c1 : w1.cell? ⟨w.heap.size, 1, none⟩ = some (.slice A es.length c) := (hb1.cell (p := ⟨w.heap.size, 1, none⟩) (by simp)).trans (by simp [go_sem])
    clear hb1 hA0
    go_wp2_with fail
    go_loopw [5, 14] (fun o i W => OuRel v es w o i W) (fun o i W => es.length - (intOf i).toNat)
    case atStart => exact ⟨0, none, 0, rfl, Nat.zero_le _, rfl, World.ownsRow_nil _ _ _ _, hb01⟩
    case round =>
      obtain ⟨k, A1, c1', rfl, hk, rfl, hown, hb⟩ := hrel
      have HOWN := Lib.hid hown
      clear hown c1
      have hAr := hA.below hb
      by_cases hlt : k < es.length
      · obtain ⟨ad, rfl, hadb, e0, e1, e2⟩ := hAr.ed k hlt
        have hbn : ∀ o, Below w.heap.size w (wr.alloc o) := fun o => hb.alloc hb.size o
        by_cases hv : (eAt es k).1 = v
        · have HF := Lib.hid (show fromV v (es.take (k + 1)) = fromV v (es.take k) ++ [eAt es k] by rw [fromV_take v es k hlt, if_pos hv])
          have hlen := fromV_len v (es.take k)
          rw [List.length_take] at hlen
          have hv1 : ((eAt es k).1 == v) = true := by simpa using hv
          clear hv
          obtain ⟨m, hm⟩ : ∃ m, m = (fromV v (es.take k)).length := ⟨_, rfl⟩
          rw [← hm] at HOWN hlen ⊢
          have HM := Lib.hid hm
          have hm80 : m ≤ 80 := by omega
          clear hm hlen
          obtain ⟨o, ho⟩ : ∃ o : Obj, o = .cells #[.int .i64 (eAt es k).1, .int .i64 (eAt es k).2.1, .int .i64 (eAt es k).2.2] 80 := ⟨_, rfl⟩
          have hown2 := own_next (own_next HOWN.out (below_alloc wr o)) (below_alloc (wr.alloc o) o)
          have hl2 : Lies ((wr.alloc o).alloc o) ((wr.alloc o).heap.size + 1) 3 (some ⟨(wr.alloc o).heap.size, 0, none⟩) 1 (ec [eAt es k]) := by
            rw [ho]
            refine ⟨rfl, fun j u hj => ⟨_, rfl, Nat.lt_succ_self _, ?_⟩⟩
            have : (⟨(wr.alloc (.cells #[.int .i64 (eAt es k).1, .int .i64 (eAt es k).2.1, .int .i64 (eAt es k).2.2] 80)).heap.size, 0, none⟩ : Addr).add j = ⟨(wr.alloc (.cells #[.int .i64 (eAt es k).1, .int .i64 (eAt es k).2.1, .int .i64 (eAt es k).2.2] 80)).heap.size, j, none⟩ := by unfold Addr.add; split <;> simp_all
            rw [this, cell_of_row _ _ j _ 80 (0, 0) (heap_alloc_new _ _)]
            simpa [ec] using hj
          rw [ho] at hown2 hl2
          have HO2 := Lib.hid hown2
          have HL2 := Lib.hid hl2
          clear hown2 hl2 ho
          go_wp2_with (at_builtin; go_must (refine wpList_app _ rfl (.tmp 22) (.tmp 24) 25 rfl w.heap.size 80 i0 _ 3 24 Tryz.underlying25 HI0.out HZ0.out HZS.out HZB.out rfl (by decide) A1 m c1' _ rfl HO2.out _ _ 1 1 (ec [eAt es k]) (by simp [Act.eval]) HL2.out (ec_one _) (m + 1) (ec (fromV v (es.take (k + 1)))) rfl (by rw [HF.out, ec_append]) (by unfold maxLen; omega) (by omega) (by have := hb.size; simp; omega) ?_))
          intro A2 c2 w2 ho2 hb2
          have hb02 : Below w.heap.size w w2 := ((hbn _).alloc (by have := hb.size; simp; omega) _).trans hb2
          have HM2 := Lib.hid (show m + 1 = (fromV v (es.take (k + 1))).length by rw [HF.out, List.length_append, ← HM.out]; rfl)
          have HO3 := Lib.hid ho2
          clear ho2 hb2
          go_wp2_with fail
          go_roundw
          case rel => exact ⟨k + 1, A2, c2, by go_num, by omega, by rw [HM2.out], by rw [← HM2.out]; exact HO3.out, hb02⟩
          case measure => simp [intOf]; omega
        · have HF := Lib.hid (show fromV v (es.take (k + 1)) = fromV v (es.take k) by rw [fromV_take v es k hlt, if_neg hv])
          have hv1 : ((eAt es k).1 == v) = false := by simpa using hv
          have HO2 := Lib.hid (fun o => own_next HOWN.out (below_alloc wr o))
          clear hv
          go_wp2_with fail
          go_roundw
          case rel => exact ⟨k + 1, A1, c1', by go_num, by omega, by rw [HF.out], by rw [HF.out]; exact HO2.out _, hbn _⟩
          case measure => simp [intOf]; omega
      · have HK := Lib.hid (show es.take k = es from List.take_of_length_le (by omega))
        rw [HK.out] at HOWN ⊢
        go_wp2_with fail
        go_ret
        rw [HO.out]
        exact ⟨hb, A1, c1', rfl, HOWN.out⟩
  · have HO := Lib.hid (show outE N es v = [] by unfold outE; rw [if_neg hok])
    have hok1 : (chk N es != 0) = true := by simpa using hok
    clear hok
    go_enter Tryz.func104, Tryz.ntmps104
    go_wp2_with fail
    refine (check_any N A es.length c es _ hA0 hnc hn).mono ?_
    rintro e w1 ⟨rfl, hb1⟩
    have hb01 : Below w.heap.size w w1 := (below_alloc _ _).trans (hb1.mono (by simp))
    clear hb1 hA0
    go_wp2_with fail
    go_ret
    rw [HO.out]
    exact ⟨hb01, none, 0, rfl, World.ownsRow_nil _ _ _ _⟩
end Go.Proofs.YtpgdddjjjfkneaaGreatDoor


