/-
  Messages as pairs of numbers and as cells; their order; the contracts of cmp.Compare, cmp.Or and compare. No condition.
-/
import Derived.Test.YtkmflofokgkekaaSym
import Derived.Test.YtkmflofokgkekaaBase
import Derived.Test.YtkmflofokgkekaaProE
import Derived.Test.YtkmflofokgkekaaChecked
import Derived.Shelf.SlSortFuncK.RowK2
import Derived.Shelf.SlSortCmp.QuietGrown
import Derived.Deep.LoopGhost
import Derived.Lib.SmallJoins
namespace Go.Proofs.Ytkmflofokgkekaa
open Go.RowKit Go.Sort
set_option linter.unusedVariables false

def me (m : Ms) : List Value := [.int .i64 m.1, .int .i64 m.2]

def c3 (a b : Int) : Int := if a < b then -1 else if b < a then 1 else 0
theorem c3_lt {a b : Int} (h : a < b) : c3 a b = -1 := by unfold c3; rw [if_pos h]
theorem c3_gt {a b : Int} (h : b < a) : c3 a b = 1 := by unfold c3; rw [if_neg (by omega), if_pos h]
theorem c3_eq (a : Int) : c3 a a = 0 := by unfold c3; simp

/-- The order of two messages, as a number. -/
def cmpM (a b : Ms) : Int := orI (c3 a.1 b.1) (c3 a.2 b.2)
/-- Does one stand ahead of the other? -/
def ltM (a b : Ms) : Bool := decide (cmpM a b < 0)

theorem ltM_iff (a b : Ms) : ltM a b = true ↔ (a.1 < b.1 ∨ (a.1 = b.1 ∧ a.2 < b.2)) := by
  unfold ltM cmpM orI c3
  rw [decide_eq_true_iff]
  repeat' split
  all_goals first | (constructor <;> intro h <;> omega) | omega
theorem ltM_not (a b : Ms) : ltM a b = false ↔ ¬ (a.1 < b.1 ∨ (a.1 = b.1 ∧ a.2 < b.2)) := by
  rw [← ltM_iff]; cases ltM a b <;> simp
theorem ltM_swo : SWO ltM where
  irrefl x := by rw [ltM_not]; omega
  trans x y z h1 h2 := by rw [ltM_iff] at *; omega
  ntrans x y z h1 h2 := by rw [ltM_not] at *; omega
theorem ltM_total (x y : Ms) (h1 : ltM x y = false) (h2 : ltM y x = false) : x = y := by
  rw [ltM_not] at h1 h2
  have : x.1 = y.1 ∧ x.2 = y.2 := by omega
  exact Prod.ext this.1 this.2

theorem compareI_any (x y : Int) (w : World) : Calls Try.prog 81 #[.int .i64 x, .int .i64 y] w fun e w' => e = .returned (.int .i64 (c3 x y)) ∧ w = w' := by
  rcases Int.lt_trichotomy x y with h | h | h
  · have HV := Lib.hid (c3_lt h)
    go_enter Try.func81, Try.ntmps81
    go_wp2
    go_ret
    exact ⟨ret_int HV.out.symm, rfl⟩
  · subst h
    have HV := Lib.hid (c3_eq x)
    go_enter Try.func81, Try.ntmps81
    go_wp2
    go_ret
    exact ⟨ret_int HV.out.symm, rfl⟩
  · have HV := Lib.hid (c3_gt h)
    have h2 : ¬ x < y := by omega
    go_enter Try.func81, Try.ntmps81
    go_wp2
    go_ret
    exact ⟨ret_int HV.out.symm, rfl⟩
theorem compareJ_any (x y : Int) (w : World) : Calls Try.prog 93 #[.int .i64 x, .int .i64 y] w fun e w' => e = .returned (.int .i64 (c3 x y)) ∧ w = w' := by
  rcases Int.lt_trichotomy x y with h | h | h
  · have HV := Lib.hid (c3_lt h)
    go_enter Try.func93, Try.ntmps93
    go_wp2
    go_ret
    exact ⟨ret_int HV.out.symm, rfl⟩
  · subst h
    have HV := Lib.hid (c3_eq x)
    go_enter Try.func93, Try.ntmps93
    go_wp2
    go_ret
    exact ⟨ret_int HV.out.symm, rfl⟩
  · have HV := Lib.hid (c3_gt h)
    have h2 : ¬ x < y := by omega
    go_enter Try.func93, Try.ntmps93
    go_wp2
    go_ret
    exact ⟨ret_int HV.out.symm, rfl⟩
theorem compareI_still (x y : Int) (w : World) : Calls Try.prog 81 #[.int .i64 x, .int .i64 y] w fun e w' => e = .returned (.int .i64 (c3 x y)) ∧ w' = w := (compareI_any x y w).mono fun _ _ ⟨a, b⟩ => ⟨a, b.symm⟩
theorem compareJ_still (x y : Int) (w : World) : Calls Try.prog 93 #[.int .i64 x, .int .i64 y] w fun e w' => e = .returned (.int .i64 (c3 x y)) ∧ w' = w := (compareJ_any x y w).mono fun _ _ ⟨a, b⟩ => ⟨a, b.symm⟩

theorem grown3 (w : World) (A B C : Obj) : (((w.alloc A).alloc B).alloc C).drew = grow (w.drewN 1) (#[A] ++ #[B] ++ #[C]) := by
  rw [alloc_eq_grow, alloc_eq_grow, alloc_eq_grow, grow_grow, grow_grow]; rfl

attribute [local irreducible] wpStill in
theorem mcompare_any (a b : Ms) (w : World) :
    Calls Try.prog 87 #[.agg #[.int .i64 a.1, .int .i64 a.2], .agg #[.int .i64 b.1, .int .i64 b.2]] w fun e w' => e = .returned (.int .i64 (cmpM a b)) ∧ ∃ q os, w' = grow (w.drewN q) os := by
  go_enter Try.func87, Try.ntmps87
  go_wp2_with fail
  refine still_tail 10 (by kernel_rfl) (by kernel_rfl) ?_
  simp only [List.take_succ_cons, List.take_zero, List.drop_succ_cons, List.drop_zero]
  iterate 4 still_step
  still_call (compareI_still _ _ _)
  iterate 4 still_step
  still_call (compareJ_still _ _ _)
  refine wpStill_nil ?_
  go_wp2_with fail
  refine (or_any _ (c3 a.1 b.1) (c3 a.2 b.2) _ (by simp [go_sem]) (by simp [go_sem])).mono ?_
  rintro e w' ⟨rfl, rfl⟩
  go_wp2_with fail
  go_ret
  exact ⟨rfl, 1, _, grown3 _ _ _ _⟩

end Go.Proofs.Ytkmflofokgkekaa
