/-
  Plain mathematics of graphs, their edges and their texts. No condition.
-/
import Derived.Lib.ItoaNum
import Derived.Lib.Small
import Derived.Lib.Strings
namespace Go.Proofs.Ytkmflofokgkekaa
set_option linter.unusedVariables false

/-- An edge: From, To, W. -/
abbrev Ed := Int × Int × Int
def noEd : Ed := (0, 0, 0)
/-- The edge at a place. -/
def eAt (es : List Ed) (k : Nat) : Ed := es.getD k noEd

/-- What is wrong with an edge by itself. -/
def edge1 (N a b c : Int) : Int := if a < 0 ∨ N ≤ a ∨ b < 0 ∨ N ≤ b then 4 else if c < 0 ∨ 4611686018427387904 < c then 1 else 0

/-- The order of two edges. -/
def cmpE (a b : Ed) : Int := if Lib.compareInt a.1 b.1 = 0 then Lib.compareInt a.2.1 b.2.1 else Lib.compareInt a.1 b.1

/-- What is wrong with the edge at place k. -/
def errAt (N : Int) (es : List Ed) (k : Nat) : Int :=
  if edge1 N (eAt es k).1 (eAt es k).2.1 (eAt es k).2.2 = 0 then
    if k = 0 then 0 else if cmpE (eAt es k) (eAt es (k - 1)) = 0 then 5 else if cmpE (eAt es k) (eAt es (k - 1)) < 0 then 6 else 0
  else edge1 N (eAt es k).1 (eAt es k).2.1 (eAt es k).2.2

/-- The first thing that is wrong, from place k on, n places. -/
def firstErr (N : Int) (es : List Ed) : Nat → Nat → Int
  | _, 0 => 0
  | k, n + 1 => if errAt N es k = 0 then firstErr N es (k + 1) n else errAt N es k

/-- What is wrong with a graph. -/
def chk (N : Int) (es : List Ed) : Int := if N < 1 ∨ 24 < N then 1 else if 80 < es.length then 3 else firstErr N es 0 es.length

theorem firstErr_step (N : Int) (es : List Ed) (k : Nat) (h : k < es.length) :
    firstErr N es k (es.length - k) = if errAt N es k = 0 then firstErr N es (k + 1) (es.length - (k + 1)) else errAt N es k := by
  have : es.length - k = (es.length - (k + 1)) + 1 := by omega
  rw [this]; rfl

theorem firstErr_end (N : Int) (es : List Ed) (k : Nat) (h : es.length ≤ k) : firstErr N es k (es.length - k) = 0 := by
  have : es.length - k = 0 := by omega
  rw [this]; rfl

theorem chk_bad (N : Int) (es : List Ed) (h : N < 1 ∨ 24 < N) : chk N es = 1 := by unfold chk; rw [if_pos h]
theorem chk_many (N : Int) (es : List Ed) (h : ¬ (N < 1 ∨ 24 < N)) (h2 : 80 < es.length) : chk N es = 3 := by unfold chk; rw [if_neg h, if_pos h2]
theorem chk_else (N : Int) (es : List Ed) (h : ¬ (N < 1 ∨ 24 < N)) (h2 : ¬ 80 < es.length) : chk N es = firstErr N es 0 (es.length - 0) := by unfold chk; rw [if_neg h, if_neg h2]; rfl

theorem compareInt_lt {a b : Int} (h : a < b) : Lib.compareInt a b = -1 := by unfold Lib.compareInt; rw [if_pos h]
theorem compareInt_gt {a b : Int} (h : b < a) : Lib.compareInt a b = 1 := by unfold Lib.compareInt; rw [if_neg (by omega), if_pos h]
theorem compareInt_eq (a : Int) : Lib.compareInt a a = 0 := by unfold Lib.compareInt; simp
theorem compareInt_zero {a b : Int} : Lib.compareInt a b = 0 ↔ a = b := by
  unfold Lib.compareInt
  by_cases h1 : a < b
  · rw [if_pos h1]; omega
  · rw [if_neg h1]
    by_cases h2 : a > b
    · rw [if_pos h2]; omega
    · rw [if_neg h2]; omega

/-- The graph's edges are in order there. -/
def ltE (a b : Ed) : Prop := a.1 < b.1 ∨ (a.1 = b.1 ∧ a.2.1 < b.2.1)
instance (a b : Ed) : Decidable (ltE a b) := inferInstanceAs (Decidable (_ ∨ _))
def keyE (a b : Ed) : Prop := a.1 = b.1 ∧ a.2.1 = b.2.1

theorem cmpE_zero {a b : Ed} : cmpE a b = 0 ↔ a.1 = b.1 ∧ a.2.1 = b.2.1 := by
  unfold cmpE
  by_cases h : Lib.compareInt a.1 b.1 = 0
  · rw [if_pos h, compareInt_zero]
    rw [compareInt_zero] at h
    exact ⟨fun x => ⟨h, x⟩, fun x => x.2⟩
  · rw [if_neg h]
    constructor
    · intro x; exact absurd x h
    · intro x; exact compareInt_zero.2 x.1
theorem cmpE_neg {a b : Ed} : cmpE a b < 0 ↔ ltE a b := by
  unfold cmpE ltE Lib.compareInt
  by_cases h1 : a.1 < b.1
  · simp [h1]
  · by_cases h2 : a.1 > b.1
    · simp [h1, h2]; omega
    · have h3 : a.1 = b.1 := by omega
      simp [h3]
      by_cases h4 : a.2.1 < b.2.1
      · simp [h4]
      · by_cases h5 : b.2.1 < a.2.1
        · simp [h4, h5]
        · simp [h4, h5]

theorem edge1_bounds (N a b c : Int) : edge1 N a b c = 0 ∨ edge1 N a b c = 1 ∨ edge1 N a b c = 4 := by
  unfold edge1
  split
  · simp
  · split <;> simp
theorem edge1_zero {N a b c : Int} : edge1 N a b c = 0 ↔ (0 ≤ a ∧ a < N ∧ 0 ≤ b ∧ b < N ∧ 0 ≤ c ∧ c ≤ 4611686018427387904) := by
  unfold edge1
  by_cases h : a < 0 ∨ N ≤ a ∨ b < 0 ∨ N ≤ b
  · rw [if_pos h]; constructor
    · intro x; cases x
    · intro x; omega
  · rw [if_neg h]
    by_cases h2 : c < 0 ∨ 4611686018427387904 < c
    · rw [if_pos h2]; constructor
      · intro x; cases x
      · intro x; omega
    · rw [if_neg h2]; constructor
      · intro _; omega
      · intro _; rfl

end Go.Proofs.Ytkmflofokgkekaa
