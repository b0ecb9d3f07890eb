/-
  Contracts of checkEdge, cmp.Compare, cmp.Or, compare, great. No condition.
-/
import Derived.Test.YtkmflofokgkekaaMath
import Derived.Test.YtkmflofokgkekaaBase
import Derived.Test.YtkmflofokgkekaaChecked
namespace Go.Proofs.Ytkmflofokgkekaa
open Go.RowKit
set_option linter.unusedVariables false

theorem checkEdge_any (N a b c : Int) (w : World) :
    Calls Try.prog 51 #[.int .i64 N, .int .i64 a, .int .i64 b, .int .i64 c] w fun e w' => e = .returned (.int .i64 (edge1 N a b c)) ∧ w = w' := by
  by_cases h : a < 0 ∨ N ≤ a ∨ b < 0 ∨ N ≤ b
  · have HV := Lib.hid (show edge1 N a b c = 4 by unfold edge1; rw [if_pos h])
    by_cases h1 : a < 0
    · clear h
      go_enter Try.func51, Try.ntmps51
      go_wp2
      go_ret
      exact ⟨ret_int HV.out.symm, rfl⟩
    · by_cases h2 : N ≤ a
      · clear h
        go_enter Try.func51, Try.ntmps51
        go_wp2
        go_ret
        exact ⟨ret_int HV.out.symm, rfl⟩
      · by_cases h3 : b < 0
        · clear h
          go_enter Try.func51, Try.ntmps51
          go_wp2
          go_ret
          exact ⟨ret_int HV.out.symm, rfl⟩
        · have h4 : N ≤ b := by omega
          clear h
          go_enter Try.func51, Try.ntmps51
          go_wp2
          go_ret
          exact ⟨ret_int HV.out.symm, rfl⟩
  · obtain ⟨h1, h2, h3, h4⟩ : ¬ a < 0 ∧ ¬ N ≤ a ∧ ¬ b < 0 ∧ ¬ N ≤ b := by omega
    by_cases h5 : c < 0 ∨ 4611686018427387904 < c
    · have HV := Lib.hid (show edge1 N a b c = 1 by unfold edge1; rw [if_neg h, if_pos h5])
      clear h
      by_cases h6 : c < 0
      · clear h5
        go_enter Try.func51, Try.ntmps51
        go_wp2
        go_ret
        exact ⟨ret_int HV.out.symm, rfl⟩
      · have h7 : 4611686018427387904 < c := by omega
        clear h5
        go_enter Try.func51, Try.ntmps51
        go_wp2
        go_ret
        exact ⟨ret_int HV.out.symm, rfl⟩
    · have HV := Lib.hid (show edge1 N a b c = 0 by unfold edge1; rw [if_neg h, if_neg h5])
      obtain ⟨h6, h7⟩ : ¬ c < 0 ∧ ¬ 4611686018427387904 < c := by omega
      clear h h5
      go_enter Try.func51, Try.ntmps51
      go_wp2
      go_ret
      exact ⟨ret_int HV.out.symm, rfl⟩

theorem compareInt_any (x y : Int) (w : World) : Calls Try.prog 81 #[.int .i64 x, .int .i64 y] w fun e w' => e = .returned (.int .i64 (Lib.compareInt x y)) ∧ w = w' := by
  rcases Int.lt_trichotomy x y with h | h | h
  · have HV := Lib.hid (compareInt_lt h)
    go_enter Try.func81, Try.ntmps81
    go_wp2
    go_ret
    exact ⟨ret_int HV.out.symm, rfl⟩
  · subst h
    have HV := Lib.hid (compareInt_eq x)
    go_enter Try.func81, Try.ntmps81
    go_wp2
    go_ret
    exact ⟨ret_int HV.out.symm, rfl⟩
  · have HV := Lib.hid (compareInt_gt h)
    have h2 : ¬ x < y := by omega
    go_enter Try.func81, Try.ntmps81
    go_wp2
    go_ret
    exact ⟨ret_int HV.out.symm, rfl⟩

theorem compareInt_still (x y : Int) (w : World) : Calls Try.prog 81 #[.int .i64 x, .int .i64 y] w fun e w' => e = .returned (.int .i64 (Lib.compareInt x y)) ∧ w' = w := (compareInt_any x y w).mono fun _ _ ⟨a, b⟩ => ⟨a, b.symm⟩

def orI (x y : Int) : Int := if x = 0 then y else x
def OrRel (x y : Int) (i : Value) : Prop := (i = .int .i64 0) ∨ (i = .int .i64 1 ∧ x = 0) ∨ (i = .int .i64 2 ∧ x = 0 ∧ y = 0)

theorem or_any (b : Nat) (x y : Int) (w : World) (h0 : w.cell? ⟨b, 0, none⟩ = some (.int .i64 x)) (h1 : w.cell? ⟨b, 1, none⟩ = some (.int .i64 y)) :
    Calls Try.prog 80 #[.slice (some ⟨b, 0, none⟩) 2 2] w fun e w' => e = .returned (.int .i64 (orI x y)) ∧ w = w' := by
  go_enter Try.func80, Try.ntmps80
  go_wp2
  go_loop [8] (fun i => OrRel x y i) (fun i => 2 - (intOf i).toNat)
  case atStart => exact .inl rfl
  case round =>
    rcases hrel with rfl | ⟨rfl, hx⟩ | ⟨rfl, hx, hy⟩
    · by_cases hx : x = 0
      · subst hx
        go_wp2
        go_round
        case rel => exact .inr (.inl ⟨rfl, rfl⟩)
        case measure => simp [intOf]
      · have HX := Lib.hid (show orI x y = x by unfold orI; rw [if_neg hx])
        go_wp2
        go_ret
        exact ⟨ret_int HX.out.symm, rfl⟩
    · have HX := Lib.hid (show orI x y = y by unfold orI; rw [if_pos hx])
      subst hx
      by_cases hy : y = 0
      · subst hy
        go_wp2
        go_round
        case rel => exact .inr (.inr ⟨rfl, rfl, rfl⟩)
        case measure => simp [intOf]
      · go_wp2
        go_ret
        exact ⟨ret_int HX.out.symm, rfl⟩
    · have HX := Lib.hid (show orI x y = 0 by unfold orI; rw [if_pos hx, hy])
      subst hx hy
      go_wp2
      go_ret
      exact ⟨ret_int HX.out.symm, rfl⟩

attribute [local irreducible] wpStill in
theorem compare_any (a b : Ed) (w : World) :
    Calls Try.prog 52 #[.agg #[.int .i64 a.1, .int .i64 a.2.1, .int .i64 a.2.2], .agg #[.int .i64 b.1, .int .i64 b.2.1, .int .i64 b.2.2]] w fun e w' => e = .returned (.int .i64 (cmpE a b)) ∧ Below w.heap.size w w' := by
  go_enter Try.func52, Try.ntmps52
  go_wp2_with fail
  refine still_tail 10 (by kernel_rfl) (by kernel_rfl) ?_
  simp only [List.take_succ_cons, List.take_zero, List.drop_succ_cons, List.drop_zero]
  iterate 4 still_step
  still_call (compareInt_still _ _ _)
  iterate 4 still_step
  still_call (compareInt_still _ _ _)
  refine wpStill_nil ?_
  go_wp2_with fail
  refine (or_any _ (Lib.compareInt a.1 b.1) (Lib.compareInt a.2.1 b.2.1) _ (by simp [go_sem]) (by simp [go_sem])).mono ?_
  rintro e w' ⟨rfl, rfl⟩
  go_wp2_with fail
  go_ret
  exact ⟨ret_int (by unfold orI cmpE; rfl), ((((Below.refl _ _).alloc (Nat.le_refl _) _).alloc (by simp) _).alloc (by simp; omega) _).drew⟩

/-- Edges as cells. -/
def ec (es : List Ed) : List Value := es.flatMap fun e => [.int .i64 e.1, .int .i64 e.2.1, .int .i64 e.2.2]

theorem ec_length (es : List Ed) : (ec es).length = es.length * 3 := by
  unfold ec
  induction es with
  | nil => rfl
  | cons e r ih => simp only [List.flatMap_cons, List.length_append, ih, List.length_cons, List.length_nil]; omega
theorem ec_append (a b : List Ed) : ec (a ++ b) = ec a ++ ec b := by unfold ec; simp
theorem ec_one (es : List Ed) : ∀ u ∈ ec es, u.oneCell' = true := by
  intro u hu
  unfold ec at hu
  obtain ⟨e, _, he⟩ := List.mem_flatMap.1 hu
  simp at he
  rcases he with rfl | rfl | rfl <;> rfl
theorem ec_take (es : List Ed) (k : Nat) : (ec es).take (k * 3) = ec (es.take k) := by
  induction es generalizing k with
  | nil => simp [ec]
  | cons e r ih =>
    cases k with
    | zero => simp [ec]
    | succ k =>
      have : (k + 1) * 3 = k * 3 + 3 := by omega
      rw [this, List.take_succ_cons]
      show List.take (k * 3 + 3) (_ :: _ :: _ :: ec r) = _ :: _ :: _ :: ec (r.take k)
      rw [← ih]; rfl
theorem ec_drop (es : List Ed) (k : Nat) : (ec es).drop (k * 3) = ec (es.drop k) := by
  induction es generalizing k with
  | nil => simp [ec]
  | cons e r ih =>
    cases k with
    | zero => simp [ec]
    | succ k =>
      have : (k + 1) * 3 = k * 3 + 3 := by omega
      rw [this, List.drop_succ_cons, ← ih]; rfl
theorem ec_at (es : List Ed) (k : Nat) (h : k < es.length) :
    (ec es)[k * 3]? = some (.int .i64 (eAt es k).1) ∧ (ec es)[k * 3 + 1]? = some (.int .i64 (eAt es k).2.1) ∧ (ec es)[k * 3 + 2]? = some (.int .i64 (eAt es k).2.2) := by
  induction es generalizing k with
  | nil => simp at h
  | cons e r ih =>
    cases k with
    | zero => simp [ec, eAt]
    | succ k =>
      have := ih k (by simpa using h)
      have e1 : (k + 1) * 3 = k * 3 + 3 := by omega
      have e2 : k * 3 + 3 + 1 = k * 3 + 1 + 3 := by omega
      have e3 : k * 3 + 3 + 2 = k * 3 + 2 + 3 := by omega
      rw [e1, e2, e3]
      exact this

theorem Lies.ed_len {w : World} {B : Nat} {A : Option Addr} {n : Nat} {es : List Ed} (h : Lies w B 3 A n (ec es)) : es.length = n := by
  have := h.1
  rw [ec_length] at this
  omega

/-- The cells of an edge. -/
theorem Lies.ed {w : World} {B : Nat} {A : Option Addr} {n : Nat} {es : List Ed} (h : Lies w B 3 A n (ec es)) (k : Nat) (hk : k < n) :
    ∃ ad, A = some ad ∧ ad.block < B ∧ w.cell? (ad.add (k * 3)) = some (.int .i64 (eAt es k).1) ∧ w.cell? ⟨(ad.add (k * 3)).block, (ad.add (k * 3)).off + 1, none⟩ = some (.int .i64 (eAt es k).2.1) ∧ w.cell? ⟨(ad.add (k * 3)).block, (ad.add (k * 3)).off + 2, none⟩ = some (.int .i64 (eAt es k).2.2) := by
  have hl := h.ed_len
  obtain ⟨a0, a1, a2⟩ := ec_at es k (by omega)
  obtain ⟨ad, e, hb, c0⟩ := h.2 _ _ a0
  obtain ⟨ad1, e1, _, c1⟩ := h.2 _ _ a1
  obtain ⟨ad2, e2, _, c2⟩ := h.2 _ _ a2
  rw [e] at e1 e2
  injection e1 with e1
  injection e2 with e2
  subst e1 e2
  rw [← add_add] at c1 c2
  exact ⟨ad, e, hb, c0, c1, c2⟩

theorem great_any (N : Int) (A : Option Addr) (n c : Nat) (w : World) (b : Bool) (hb : b = decide (200 < n)) :
    Calls Try.prog 10 #[.agg #[.int .i64 N, .slice A n c]] w fun e w' => e = .returned (.bool b) ∧ Below w.heap.size w w' := by
  by_cases h : 200 < n
  · obtain rfl : b = true := by rw [hb]; simpa using h
    clear hb
    go_enter Try.func10, Try.ntmps10
    go_wp2
    go_ret
    exact ⟨by show Ending.returned (Value.bool (decide ((200:Int) < (n:Int)))) = _; rw [decide_eq_true (by omega)], below_alloc _ _⟩
  · obtain rfl : b = false := by rw [hb]; simpa using h
    clear hb
    go_enter Try.func10, Try.ntmps10
    go_wp2
    go_ret
    exact ⟨by show Ending.returned (Value.bool (decide ((200:Int) < (n:Int)))) = _; rw [decide_eq_false (by omega)], below_alloc _ _⟩

end Go.Proofs.Ytkmflofokgkekaa
