/-
  Contracts of Fold of the package prog, and of the document's own: what two numbers are folded into, and the error. No condition but that the numbers are of 64 bits.
-/
import Derived.Test.YtoadileebdejbaaBase
import Derived.Test.YtoadileebdejbaaChecked
import Derived.WalkKit
import Derived.ProofKit
import Derived.OpenShut
import Derived.IntWalk
import Derived.Laws.EntriesVeiled
import Derived.Lib.Hide
namespace Go.Proofs.Ytoadileebdejbaa
open Go.ChangeShapes Go.WideShapes Go.ChangeAt Go.RowKit
set_option linter.unusedVariables false

def fits (n : Int) : Bool := decide (-9223372036854775808 ≤ n ∧ n ≤ 9223372036854775807)
/-- What is told of a number: itself, or 0 if it is none of 64 bits. -/
def told (n : Int) : Int := if fits n then n else 0
theorem fits_yes {n : Int} (h1 : -9223372036854775808 ≤ n) (h2 : n ≤ 9223372036854775807) : fits n = true := by simp [fits, h1, h2]
theorem fits_no {n : Int} (h : n < -9223372036854775808 ∨ 9223372036854775807 < n) : fits n = false := by simp [fits]; omega
theorem told_yes {n : Int} (h1 : -9223372036854775808 ≤ n) (h2 : n ≤ 9223372036854775807) : told n = n := by simp [told, fits_yes h1 h2]
theorem told_no {n : Int} (h : n < -9223372036854775808 ∨ 9223372036854775807 < n) : told n = 0 := by simp [told, fits_no h]

set_option maxHeartbeats 400000 in
theorem add_yes (a b : Int) (w : World) (a1 : -9223372036854775808 ≤ a) (a2 : a ≤ 9223372036854775807) (b1 : -9223372036854775808 ≤ b) (b2 : b ≤ 9223372036854775807)
    (h1 : -9223372036854775808 ≤ a + b) (h2 : a + b ≤ 9223372036854775807) :
    Calls Try.prog 53 #[.int .i64 a, .int .i64 b] w fun e w' => e = .returned (.tuple #[.int .i64 (a + b), .bool true]) ∧ w = w' := by
  by_cases hb : 0 < b
  · go_enter Try.func53, Try.ntmps53
    go_wp2
    all_goals first
      | (go_ret2; exact ⟨rfl, rfl⟩)
      | (exfalso; simp_all; omega)
  · go_enter Try.func53, Try.ntmps53
    go_wp2
    all_goals first
      | (go_ret2; exact ⟨rfl, rfl⟩)
      | (exfalso; simp_all; omega)

set_option maxHeartbeats 400000 in
theorem add_no (a b : Int) (w : World) (a1 : -9223372036854775808 ≤ a) (a2 : a ≤ 9223372036854775807) (b1 : -9223372036854775808 ≤ b) (b2 : b ≤ 9223372036854775807)
    (h1 : a + b < -9223372036854775808 ∨ 9223372036854775807 < a + b) :
    Calls Try.prog 53 #[.int .i64 a, .int .i64 b] w fun e w' => e = .returned (.tuple #[.int .i64 0, .bool false]) ∧ w = w' := by
  rcases h1 with h1 | h1
  · have hb : ¬ 0 < b := by omega
    have hx : a < wrap64 (a + b) := by unfold wrap64; omega
    go_enter Try.func53, Try.ntmps53
    go_wp2
    all_goals (go_ret2; exact ⟨rfl, rfl⟩)
  · have hb : 0 < b := by omega
    have hx : ¬ a < wrap64 (a + b) := by unfold wrap64; omega
    go_enter Try.func53, Try.ntmps53
    go_wp2
    all_goals (go_ret2; exact ⟨rfl, rfl⟩)

set_option maxHeartbeats 400000 in
theorem radd_yes (a b : Int) (w : World) (a1 : -9223372036854775808 ≤ a) (a2 : a ≤ 9223372036854775807) (b1 : -9223372036854775808 ≤ b) (b2 : b ≤ 9223372036854775807)
    (h1 : -9223372036854775808 ≤ a + b) (h2 : a + b ≤ 9223372036854775807) :
    Calls Try.prog 35 #[.int .i64 a, .int .i64 b] w fun e w' => e = .returned (.tuple #[.int .i64 (a + b), .bool true]) ∧ w = w' := by
  by_cases hb : 0 < b
  · have hb' : ¬ b < 0 := by omega
    go_enter Try.func35, Try.ntmps35
    go_wp2
    all_goals (go_ret2; exact ⟨rfl, rfl⟩)
  · by_cases hb' : b < 0
    all_goals
      go_enter Try.func35, Try.ntmps35
      go_wp2
      all_goals (go_ret2; exact ⟨rfl, rfl⟩)

set_option maxHeartbeats 400000 in
theorem radd_no (a b : Int) (w : World) (a1 : -9223372036854775808 ≤ a) (a2 : a ≤ 9223372036854775807) (b1 : -9223372036854775808 ≤ b) (b2 : b ≤ 9223372036854775807)
    (h1 : a + b < -9223372036854775808 ∨ 9223372036854775807 < a + b) :
    Calls Try.prog 35 #[.int .i64 a, .int .i64 b] w fun e w' => e = .returned (.tuple #[.int .i64 0, .bool false]) ∧ w = w' := by
  rcases h1 with h1 | h1
  · have hb : ¬ 0 < b := by omega
    have hb' : b < 0 := by omega
    go_enter Try.func35, Try.ntmps35
    go_wp2
    all_goals (go_ret2; exact ⟨rfl, rfl⟩)
  · have hb : 0 < b := by omega
    have hb' : ¬ b < 0 := by omega
    go_enter Try.func35, Try.ntmps35
    go_wp2
    all_goals (go_ret2; exact ⟨rfl, rfl⟩)

theorem add_any (a b : Int) (w : World) (a1 : -9223372036854775808 ≤ a) (a2 : a ≤ 9223372036854775807) (b1 : -9223372036854775808 ≤ b) (b2 : b ≤ 9223372036854775807) :
    Calls Try.prog 53 #[.int .i64 a, .int .i64 b] w fun e w' => e = .returned (.tuple #[.int .i64 (told (a + b)), .bool (fits (a + b))]) ∧ w = w' := by
  by_cases h : -9223372036854775808 ≤ a + b ∧ a + b ≤ 9223372036854775807
  · rw [told_yes h.1 h.2, fits_yes h.1 h.2]; exact add_yes a b w a1 a2 b1 b2 h.1 h.2
  · rw [told_no (by omega), fits_no (by omega)]; exact add_no a b w a1 a2 b1 b2 (by omega)

theorem radd_any (a b : Int) (w : World) (a1 : -9223372036854775808 ≤ a) (a2 : a ≤ 9223372036854775807) (b1 : -9223372036854775808 ≤ b) (b2 : b ≤ 9223372036854775807) :
    Calls Try.prog 35 #[.int .i64 a, .int .i64 b] w fun e w' => e = .returned (.tuple #[.int .i64 (told (a + b)), .bool (fits (a + b))]) ∧ w = w' := by
  by_cases h : -9223372036854775808 ≤ a + b ∧ a + b ≤ 9223372036854775807
  · rw [told_yes h.1 h.2, fits_yes h.1 h.2]; exact radd_yes a b w a1 a2 b1 b2 h.1 h.2
  · rw [told_no (by omega), fits_no (by omega)]; exact radd_no a b w a1 a2 b1 b2 (by omega)

/-- A number of 64 bits. -/
def bd (a : Int) : Prop := -9223372036854775808 ≤ a ∧ a ≤ 9223372036854775807

def lessI (a b : Int) : Int := if b < a then b else a
def greatI (a b : Int) : Int := if a < b then b else a
/-- What two numbers are folded into. -/
def foldX (p a b : Int) : Int := if p = 5 then told (a + b) else if p = 4 then greatI a b else lessI a b
def foldB (p a b : Int) : Bool := if p = 5 then fits (a + b) else true

theorem told_bd (n : Int) : bd (told n) := by
  unfold told
  by_cases h : fits n = true
  · rw [if_pos h]
    unfold fits at h
    unfold bd
    simpa using h
  · rw [if_neg h]; exact ⟨by decide, by decide⟩
theorem lessI_bd {a b : Int} (ha : bd a) (hb : bd b) : bd (lessI a b) := by unfold lessI; split <;> assumption
theorem greatI_bd {a b : Int} (ha : bd a) (hb : bd b) : bd (greatI a b) := by unfold greatI; split <;> assumption
theorem foldX_bd {p a b : Int} (ha : bd a) (hb : bd b) : bd (foldX p a b) := by
  unfold foldX
  split
  · exact told_bd _
  · split
    · exact greatI_bd ha hb
    · exact lessI_bd ha hb
theorem below_eq {w w' : World} (h : w = w') : Below w.heap.size w w' := by subst h; exact Below.refl _ _
theorem ret_tb {a b : Int} {c d : Bool} (h : a = b) (g : c = d) : Ending.returned (.tuple #[.int .i64 a, .bool c]) = .returned (.tuple #[.int .i64 b, .bool d]) := by rw [h, g]
theorem ret_b {a b : Bool} (h : a = b) : Ending.returned (.bool a) = .returned (.bool b) := by rw [h]

theorem less_any (a b : Int) (w : World) : Calls Try.prog 41 #[.int .i64 a, .int .i64 b] w fun e w' => e = .returned (.tuple #[.int .i64 (lessI a b), .bool true]) ∧ w = w' := by
  go_enter Try.func41, Try.ntmps41
  go_wp2
  · go_ret2
    exact ⟨ret_tb (by unfold lessI; rw [if_pos (by assumption)]) rfl, rfl⟩
  · go_ret2
    exact ⟨ret_tb (by unfold lessI; rw [if_neg (by omega)]) rfl, rfl⟩
theorem greater_any (a b : Int) (w : World) : Calls Try.prog 51 #[.int .i64 a, .int .i64 b] w fun e w' => e = .returned (.tuple #[.int .i64 (greatI a b), .bool true]) ∧ w = w' := by
  go_enter Try.func51, Try.ntmps51
  go_wp2
  · go_ret2
    exact ⟨ret_tb (by unfold greatI; rw [if_pos (by assumption)]) rfl, rfl⟩
  · go_ret2
    exact ⟨ret_tb (by unfold greatI; rw [if_neg (by omega)]) rfl, rfl⟩

/-- A program's row: what its fold answers. -/
structure Prg (p : Int) (k1 : Nat) : Prop where
  c1 : ∀ a W, (callFunc k1 a).run Try.prog W = .ok (.enter k1 a) W
  fold : ∀ a b W, bd a → bd b → Calls Try.prog k1 #[.int .i64 a, .int .i64 b] W fun e W' => e = .returned (.tuple #[.int .i64 (foldX p a b), .bool (foldB p a b)]) ∧ W = W'

/-- What programOf answers for a number of a program. -/
def OfPost (p : Int) (w : World) (e : Ending) (w' : World) : Prop :=
  Below w.heap.size w w' ∧ ∃ k0 k1 k2 k3 k4 k5 y, e = .returned (.tuple #[.agg #[.func (.func k0) #[] #[], .func (.func k1) #[] #[], .func (.func k2) #[] y, .func (.func k3) #[] #[], .func (.func k4) #[] #[], .func (.func k5) #[] #[]], .bool true]) ∧
    Prg p k1

theorem prg1 : Prg 1 41 := ⟨Try.call41, fun a b W _ _ => less_any a b W⟩
theorem prg2 : Prg 2 41 := ⟨Try.call41, fun a b W _ _ => less_any a b W⟩
theorem prg3 : Prg 3 41 := ⟨Try.call41, fun a b W _ _ => less_any a b W⟩
theorem prg4 : Prg 4 51 := ⟨Try.call51, fun a b W _ _ => greater_any a b W⟩
theorem prg5 : Prg 5 53 := ⟨Try.call53, fun a b W ha hb => add_any a b W ha.1 ha.2 hb.1 hb.2⟩

theorem of1 (w : World) : Calls Try.prog 34 #[.int .i64 1] w (OfPost 1 w) := by
  go_enter Try.func34, Try.ntmps34
  go_wp2
  refine bodyPost_ret (v := .tuple #[.agg #[.func (.func 40) #[] #[], .func (.func 41) #[] #[], .func (.func 60) #[] #[.pointer (some ⟨w.heap.size + 1, 0, none⟩)], .func (.func 43) #[] #[], .func (.func 44) #[] #[], .func (.func 45) #[] #[]], .bool true]) (by simp [results, Try.results34, go_sem]) rfl ?_
  exact ⟨((Below.refl _ _).alloc (Nat.le_refl _) _).alloc (by simp) _, _, _, _, _, _, _, _, rfl, prg1⟩
theorem of2 (w : World) : Calls Try.prog 34 #[.int .i64 2] w (OfPost 2 w) := by
  go_enter Try.func34, Try.ntmps34
  go_wp2
  refine bodyPost_ret (v := .tuple #[.agg #[.func (.func 46) #[] #[], .func (.func 41) #[] #[], .func (.func 60) #[] #[.pointer (some ⟨w.heap.size + 1, 0, none⟩)], .func (.func 47) #[] #[], .func (.func 48) #[] #[], .func (.func 45) #[] #[]], .bool true]) (by simp [results, Try.results34, go_sem]) rfl ?_
  exact ⟨((Below.refl _ _).alloc (Nat.le_refl _) _).alloc (by simp) _, _, _, _, _, _, _, _, rfl, prg2⟩
theorem of3 (w : World) : Calls Try.prog 34 #[.int .i64 3] w (OfPost 3 w) := by
  go_enter Try.func34, Try.ntmps34
  go_wp2
  refine bodyPost_ret (v := .tuple #[.agg #[.func (.func 40) #[] #[], .func (.func 41) #[] #[], .func (.func 60) #[] #[.pointer (some ⟨w.heap.size + 1, 0, none⟩)], .func (.func 43) #[] #[], .func (.func 49) #[] #[], .func (.func 45) #[] #[]], .bool true]) (by simp [results, Try.results34, go_sem]) rfl ?_
  exact ⟨((Below.refl _ _).alloc (Nat.le_refl _) _).alloc (by simp) _, _, _, _, _, _, _, _, rfl, prg3⟩
theorem of4 (w : World) : Calls Try.prog 34 #[.int .i64 4] w (OfPost 4 w) := by
  go_enter Try.func34, Try.ntmps34
  go_wp2
  refine bodyPost_ret (v := .tuple #[.agg #[.func (.func 50) #[] #[], .func (.func 51) #[] #[], .func (.func 60) #[] #[.pointer (some ⟨w.heap.size + 1, 0, none⟩)], .func (.func 47) #[] #[], .func (.func 48) #[] #[], .func (.func 45) #[] #[]], .bool true]) (by simp [results, Try.results34, go_sem]) rfl ?_
  exact ⟨((Below.refl _ _).alloc (Nat.le_refl _) _).alloc (by simp) _, _, _, _, _, _, _, _, rfl, prg4⟩
theorem of5 (w : World) : Calls Try.prog 34 #[.int .i64 5] w (OfPost 5 w) := by
  go_enter Try.func34, Try.ntmps34
  go_wp2
  refine bodyPost_ret (v := .tuple #[.agg #[.func (.func 52) #[] #[], .func (.func 53) #[] #[], .func (.func 54) #[] #[], .func (.func 55) #[] #[], .func (.func 56) #[] #[], .func (.func 57) #[] #[]], .bool true]) (by simp [results, Try.results34, go_sem]) rfl ?_
  exact ⟨below_alloc _ _, _, _, _, _, _, _, _, rfl, prg5⟩
theorem of_yes (p : Int) (w : World) (h1 : 1 ≤ p) (h2 : p ≤ 5) : Calls Try.prog 34 #[.int .i64 p] w (OfPost p w) := by
  obtain rfl | rfl | rfl | rfl | rfl : p = 1 ∨ p = 2 ∨ p = 3 ∨ p = 4 ∨ p = 5 := by omega
  · exact of1 w
  · exact of2 w
  · exact of3 w
  · exact of4 w
  · exact of5 w
theorem of_no (p : Int) (w : World) (h : p < 1 ∨ 5 < p) : Calls Try.prog 34 #[.int .i64 p] w fun e w' =>
    e = .returned (.tuple #[.agg #[.nilFunc, .nilFunc, .nilFunc, .nilFunc, .nilFunc, .nilFunc], .bool false]) ∧ Below w.heap.size w w' := by
  have h1 : (p == 1) = false := by simp; omega
  have h2 : (p == 2) = false := by simp; omega
  have h3 : (p == 3) = false := by simp; omega
  have h4 : (p == 4) = false := by simp; omega
  have h5 : (p == 5) = false := by simp; omega
  clear h
  go_enter Try.func34, Try.ntmps34
  go_wp2
  refine bodyPost_ret (v := .tuple #[.agg #[.nilFunc, .nilFunc, .nilFunc, .nilFunc, .nilFunc, .nilFunc], .bool false]) (by simp [results, Try.results34, go_sem]) rfl ?_
  exact ⟨rfl, below_alloc _ _⟩

theorem ret_ii {a b c d : Int} (h : a = b) (g : c = d) : Ending.returned (.tuple #[.int .i64 a, .int .i64 c]) = .returned (.tuple #[.int .i64 b, .int .i64 d]) := by rw [h, g]

/-- What Fold answers. -/
def fdX (p a b : Int) : Int := if 1 ≤ p ∧ p ≤ 5 then (if foldB p a b then foldX p a b else 0) else 0
def fdE (p a b : Int) : Int := if 1 ≤ p ∧ p ≤ 5 then (if foldB p a b then 0 else 8) else 1

set_option maxHeartbeats 1000000 in
theorem fold_any (p a b : Int) (w : World) (ha : bd a) (hb : bd b) :
    Calls Try.prog 26 #[.int .i64 p, .int .i64 a, .int .i64 b] w fun e w' => e = .returned (.tuple #[.int .i64 (fdX p a b), .int .i64 (fdE p a b)]) ∧ Below w.heap.size w w' := by
  by_cases hp : 1 ≤ p ∧ p ≤ 5
  · by_cases hf : foldB p a b = true
    · have HR := Lib.hid (show fdX p a b = foldX p a b ∧ fdE p a b = 0 by unfold fdX fdE; rw [if_pos hp, if_pos hf, if_pos hp, if_pos hf]; exact ⟨rfl, rfl⟩)
      have HP := Lib.hid hp
      have HF := Lib.hid hf
      clear hf hp
      go_enter Try.func26, Try.ntmps26
      go_wp2_with fail
      refine (of_yes p _ HP.out.1 HP.out.2).mono ?_
      rintro e w1 ⟨hb1, k0, k1, k2, k3, k4, k5, y, rfl, hP⟩
      have HPR := Lib.hid hP
      have hc1 := hP.c1
      have H2 := Lib.hid (hb1.trans ((below_alloc w1 (.cells #[.func (.func k0) #[] #[], .func (.func k1) #[] #[], .func (.func k2) #[] y, .func (.func k3) #[] #[], .func (.func k4) #[] #[], .func (.func k5) #[] #[]] 62)).mono hb1.size))
      clear hP hb1
      go_wp2_with fail
      refine (HPR.out.fold a b _ ha hb).mono ?_
      rintro e w3 ⟨rfl, rfl⟩
      rw [HF.out]
      go_wp2_with fail
      go_ret2
      exact ⟨ret_ii HR.out.1.symm HR.out.2.symm, H2.out⟩
    · have hf' : foldB p a b = false := by simpa using hf
      have HR := Lib.hid (show fdX p a b = 0 ∧ fdE p a b = 8 by unfold fdX fdE; rw [if_pos hp, if_neg hf, if_pos hp, if_neg hf]; exact ⟨rfl, rfl⟩)
      have HP := Lib.hid hp
      have HF := Lib.hid hf'
      clear hf hp hf'
      go_enter Try.func26, Try.ntmps26
      go_wp2_with fail
      refine (of_yes p _ HP.out.1 HP.out.2).mono ?_
      rintro e w1 ⟨hb1, k0, k1, k2, k3, k4, k5, y, rfl, hP⟩
      have HPR := Lib.hid hP
      have hc1 := hP.c1
      have H2 := Lib.hid (hb1.trans ((below_alloc w1 (.cells #[.func (.func k0) #[] #[], .func (.func k1) #[] #[], .func (.func k2) #[] y, .func (.func k3) #[] #[], .func (.func k4) #[] #[], .func (.func k5) #[] #[]] 62)).mono hb1.size))
      clear hP hb1
      go_wp2_with fail
      refine (HPR.out.fold a b _ ha hb).mono ?_
      rintro e w3 ⟨rfl, rfl⟩
      rw [HF.out]
      go_wp2_with fail
      go_ret2
      exact ⟨ret_ii HR.out.1.symm HR.out.2.symm, H2.out⟩
  · have HR := Lib.hid (show fdX p a b = 0 ∧ fdE p a b = 1 by unfold fdX fdE; rw [if_neg hp, if_neg hp]; exact ⟨rfl, rfl⟩)
    have HP := Lib.hid (show p < 1 ∨ 5 < p by omega)
    clear hp
    go_enter Try.func26, Try.ntmps26
    go_wp2_with fail
    refine (of_no p _ HP.out).mono ?_
    rintro e w1 ⟨rfl, hb1⟩
    have H2 := Lib.hid (hb1.trans ((below_alloc w1 (.cells #[.nilFunc, .nilFunc, .nilFunc, .nilFunc, .nilFunc, .nilFunc] 62)).mono hb1.size))
    clear hb1
    go_wp2_with fail
    go_ret2
    exact ⟨ret_ii HR.out.1.symm HR.out.2.symm, H2.out⟩

set_option maxHeartbeats 1000000 in
theorem rfold_any (p a b : Int) (w : World) (ha : bd a) (hb : bd b) :
    Calls Try.prog 27 #[.int .i64 p, .int .i64 a, .int .i64 b] w fun e w' => e = .returned (.tuple #[.int .i64 (fdX p a b), .int .i64 (fdE p a b)]) ∧ w = w' := by
  by_cases hp : 1 ≤ p ∧ p ≤ 5
  · by_cases h5 : p = 5
    · subst h5
      by_cases hf : fits (a + b) = true
      · have HR := Lib.hid (show fdX 5 a b = told (a + b) ∧ fdE 5 a b = 0 by
          have e1 : foldB 5 a b = true := hf
          unfold fdX fdE
          rw [if_pos hp, if_pos e1, if_pos hp, if_pos e1]; exact ⟨rfl, rfl⟩)
        clear hp
        have HF := Lib.hid hf
        clear hf
        go_enter Try.func27, Try.ntmps27
        go_wp2_with fail
        refine (radd_any a b _ ha.1 ha.2 hb.1 hb.2).mono ?_
        rintro e w' ⟨rfl, rfl⟩
        rw [HF.out]
        go_wp2_with fail
        go_ret2
        exact ⟨ret_ii HR.out.1.symm HR.out.2.symm, rfl⟩
      · have hf' : fits (a + b) = false := by simpa using hf
        have HR := Lib.hid (show fdX 5 a b = 0 ∧ fdE 5 a b = 8 by
          have e1 : ¬ foldB 5 a b = true := hf
          unfold fdX fdE
          rw [if_pos hp, if_neg e1, if_pos hp, if_neg e1]; exact ⟨rfl, rfl⟩)
        clear hp hf
        have HF := Lib.hid hf'
        clear hf'
        go_enter Try.func27, Try.ntmps27
        go_wp2_with fail
        refine (radd_any a b _ ha.1 ha.2 hb.1 hb.2).mono ?_
        rintro e w' ⟨rfl, rfl⟩
        rw [HF.out]
        go_wp2_with fail
        go_ret2
        exact ⟨ret_ii HR.out.1.symm HR.out.2.symm, rfl⟩
    · have HR := Lib.hid (show fdX p a b = (if p = 4 then greatI a b else lessI a b) ∧ fdE p a b = 0 by
        have e1 : foldB p a b = true := by unfold foldB; rw [if_neg h5]
        unfold fdX fdE
        rw [if_pos hp, if_pos e1, if_pos hp, if_pos e1]
        unfold foldX
        rw [if_neg h5]; exact ⟨rfl, rfl⟩)
      have h5' : (p == 5) = false := by simpa using h5
      obtain ⟨p1, p2⟩ : ¬ p < 1 ∧ ¬ 5 < p := by omega
      clear h5 hp
      by_cases h4 : p = 4
      · subst h4
        by_cases h : b < a
        · go_enter Try.func27, Try.ntmps27
          go_wp2_with fail
          go_ret2
          exact ⟨ret_ii (by rw [HR.out.1]; simp only [if_true]; unfold greatI; rw [if_neg (by omega)]) HR.out.2.symm, rfl⟩
        · go_enter Try.func27, Try.ntmps27
          go_wp2_with fail
          go_ret2
          exact ⟨ret_ii (by rw [HR.out.1]; simp only [if_true]; unfold greatI; split <;> omega) HR.out.2.symm, rfl⟩
      · have h4' : (p == 4) = false := by simpa using h4
        have H4 := Lib.hid h4
        clear h4
        by_cases h : a < b
        · go_enter Try.func27, Try.ntmps27
          go_wp2_with fail
          go_ret2
          exact ⟨ret_ii (by rw [HR.out.1, if_neg H4.out]; unfold lessI; rw [if_neg (by omega)]) HR.out.2.symm, rfl⟩
        · go_enter Try.func27, Try.ntmps27
          go_wp2_with fail
          go_ret2
          exact ⟨ret_ii (by rw [HR.out.1, if_neg H4.out]; unfold lessI; split <;> omega) HR.out.2.symm, rfl⟩
  · have HR := Lib.hid (show fdX p a b = 0 ∧ fdE p a b = 1 by unfold fdX fdE; rw [if_neg hp, if_neg hp]; exact ⟨rfl, rfl⟩)
    by_cases h1 : p < 1
    · clear hp
      go_enter Try.func27, Try.ntmps27
      go_wp2_with fail
      go_ret2
      exact ⟨ret_ii HR.out.1.symm HR.out.2.symm, rfl⟩
    · have h2 : 5 < p := by omega
      clear hp
      go_enter Try.func27, Try.ntmps27
      go_wp2_with fail
      go_ret2
      exact ⟨ret_ii HR.out.1.symm HR.out.2.symm, rfl⟩

theorem lessI_sym (a b : Int) : lessI a b = lessI b a := by unfold lessI; split <;> split <;> omega
theorem greatI_sym (a b : Int) : greatI a b = greatI b a := by unfold greatI; split <;> split <;> omega
theorem lessI_assoc (a b c : Int) : lessI (lessI a b) c = lessI a (lessI b c) := by unfold lessI; repeat' split <;> omega
theorem greatI_assoc (a b c : Int) : greatI (greatI a b) c = greatI a (greatI b c) := by unfold greatI; repeat' split <;> omega
theorem foldX_sym (p a b : Int) : foldX p a b = foldX p b a := by unfold foldX; rw [Int.add_comm, lessI_sym, greatI_sym]
theorem foldB_sym (p a b : Int) : foldB p a b = foldB p b a := by unfold foldB; rw [Int.add_comm]
theorem fdX_sym (p a b : Int) : fdX p a b = fdX p b a := by unfold fdX; rw [foldX_sym, foldB_sym]
theorem fdE_sym (p a b : Int) : fdE p a b = fdE p b a := by unfold fdE; rw [foldB_sym]
theorem fdE_zero {p a b : Int} (h : fdE p a b = 0) : (1 ≤ p ∧ p ≤ 5) ∧ foldB p a b = true := by
  unfold fdE at h
  by_cases hp : 1 ≤ p ∧ p ≤ 5
  · rw [if_pos hp] at h
    by_cases hf : foldB p a b = true
    · exact ⟨hp, hf⟩
    · rw [if_neg hf] at h; cases h
  · rw [if_neg hp] at h; cases h
theorem fdX_of {p a b : Int} (h : fdE p a b = 0) : fdX p a b = foldX p a b := by
  obtain ⟨hp, hf⟩ := fdE_zero h
  unfold fdX
  rw [if_pos hp, if_pos hf]
theorem told_of {n : Int} (h : fits n = true) : told n = n := by unfold told; rw [if_pos h]
end Go.Proofs.Ytoadileebdejbaa
