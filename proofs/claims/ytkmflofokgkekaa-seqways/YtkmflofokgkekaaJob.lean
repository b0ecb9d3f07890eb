/-
  Plain mathematics of jobs and turns: values at the beginning, folds, what a vertex's value becomes, whether it sends, what goes along an edge. No condition.
-/
import Derived.Test.YtkmflofokgkekaaMath
import Derived.Test.YtkmflofokgkekaaNumD
namespace Go.Proofs.Ytkmflofokgkekaa
open Go.ChangeShapes Go.WideShapes Go.ChangeAt Go.RowKit
set_option linter.unusedVariables false

/-- What is wrong with a job for a graph. -/
def badJ (N p s l q : Int) : Prop := p < 1 ∨ 5 < p ∨ s < 0 ∨ N ≤ s ∨ l < 0 ∨ 40 < l ∨ q < 1 ∨ 6 < q
instance (N p s l q : Int) : Decidable (badJ N p s l q) := inferInstanceAs (Decidable (_ ∨ _))
def jchk (N : Int) (es : List Ed) (p s l q : Int) : Int := if chk N es = 0 then (if badJ N p s l q then 1 else 0) else chk N es

theorem jchk_graph {N : Int} {es : List Ed} {p s l q : Int} (h : ¬ chk N es = 0) : jchk N es p s l q = chk N es := by unfold jchk; rw [if_neg h]
theorem jchk_bad {N : Int} {es : List Ed} {p s l q : Int} (h : chk N es = 0) (hb : badJ N p s l q) : jchk N es p s l q = 1 := by unfold jchk; rw [if_pos h, if_pos hb]
theorem jchk_good {N : Int} {es : List Ed} {p s l q : Int} (h : chk N es = 0) (hb : ¬ badJ N p s l q) : jchk N es p s l q = 0 := by unfold jchk; rw [if_pos h, if_neg hb]
theorem jchk_zero {N : Int} {es : List Ed} {p s l q : Int} (h : jchk N es p s l q = 0) : chk N es = 0 ∧ ¬ badJ N p s l q := by
  unfold jchk at h
  by_cases h1 : chk N es = 0
  · rw [if_pos h1] at h
    by_cases h2 : badJ N p s l q
    · rw [if_pos h2] at h; cases h
    · exact ⟨h1, h2⟩
  · rw [if_neg h1] at h; exact absurd h h1

/-- A number of 64 bits. -/
def bd (a : Int) : Prop := -9223372036854775808 ≤ a ∧ a ≤ 9223372036854775807

/-- A vertex's mark, as the program reckons it. -/
def markI (v : Int) : Int := (wrap64 (wrap64 (wrap64 (31 * v) * v) + 7)).tmod 1009

/-- The value at the beginning. -/
def startI (p s v : Int) : Int := if p = 2 then v else if p = 4 then markI v else if p = 5 then 1000000 else if v = s then 0 else 9223372036854775807

def lessI (a b : Int) : Int := if b < a then b else a
def greatI (a b : Int) : Int := if a < b then b else a
/-- What two numbers are folded into. -/
def foldX (p a b : Int) : Int := if p = 5 then told (a + b) else if p = 4 then greatI a b else lessI a b
def foldB (p a b : Int) : Bool := if p = 5 then fits (a + b) else true

def cameI (got : Int) (sm : Bool) : Int := if sm then got else 0
/-- The value behind a turn. -/
def valX (p st val got : Int) (sm : Bool) : Int :=
  if p = 5 then (if st = 0 then val else if quoB (cameI got sm) 85 100 = true then told (150000 + quoV (cameI got sm) 85 100) else 0)
  else if sm then foldX p val got else val
def valB (p st val got : Int) (sm : Bool) : Bool :=
  if p = 5 then (if st = 0 then true else if quoB (cameI got sm) 85 100 = true then fits (150000 + quoV (cameI got sm) 85 100) else false)
  else true

/-- Does it send? -/
def sendB (p s st v val now : Int) : Bool :=
  if p = 5 then decide (st < 10) else if p = 2 ∨ p = 4 then (now != val || st == 0) else (now != val || (st == 0 && v == s))

/-- What goes along an edge. -/
def alX (p now : Int) (e : Ed) (m : Int) : Int := if p = 1 then told (now + e.2.2) else if p = 3 then told (now + 1) else if p = 5 then quoV now 1 m else now
def alB (p now : Int) (e : Ed) (m : Int) : Bool := if p = 1 then fits (now + e.2.2) else if p = 3 then fits (now + 1) else if p = 5 then quoB now 1 m else true

/-- Does it rest? -/
def restB (p st : Int) : Bool := if p = 5 then decide (10 ≤ st) else true

theorem told_bd (n : Int) : bd (told n) := by
  unfold told
  by_cases h : fits n = true
  · rw [if_pos h]
    unfold fits at h
    unfold bd
    simpa using h
  · rw [if_neg h]; exact ⟨by decide, by decide⟩
theorem wrap64_bd (n : Int) : bd (wrap64 n) := by unfold wrap64 bd; omega
theorem quoV_bd (a b d : Int) : bd (quoV a b d) := by
  unfold quoV
  split
  · exact wrap64_bd _
  · exact ⟨by decide, by decide⟩
theorem lessI_bd {a b : Int} (ha : bd a) (hb : bd b) : bd (lessI a b) := by unfold lessI; split <;> assumption
theorem greatI_bd {a b : Int} (ha : bd a) (hb : bd b) : bd (greatI a b) := by unfold greatI; split <;> assumption
theorem foldX_bd {p a b : Int} (ha : bd a) (hb : bd b) : bd (foldX p a b) := by
  unfold foldX
  split
  · exact told_bd _
  · split
    · exact greatI_bd ha hb
    · exact lessI_bd ha hb
theorem valX_bd {p st val got : Int} {sm : Bool} (ha : bd val) (hb : bd got) : bd (valX p st val got sm) := by
  unfold valX
  split
  · split
    · exact ha
    · split
      · exact told_bd _
      · exact ⟨by decide, by decide⟩
  · split
    · exact foldX_bd ha hb
    · exact ha
theorem cameI_bd {got : Int} {sm : Bool} (hb : bd got) : bd (cameI got sm) := by
  unfold cameI; split
  · exact hb
  · exact ⟨by decide, by decide⟩

/-- Messages: To, V. -/
abbrev Ms := Int × Int
def mAt (ms : List Ms) (k : Nat) : Ms := ms.getD k (0, 0)
/-- Messages as cells. -/
def mc (ms : List Ms) : List Value := ms.flatMap fun e => [.int .i64 e.1, .int .i64 e.2]

/-- What goes along the edges. -/
def msgL (p now m : Int) (es : List Ed) : List Ms := es.map fun e => (e.2.1, alX p now e m)
def msgB (p now m : Int) (es : List Ed) : Bool := es.all fun e => alB p now e m

end Go.Proofs.Ytkmflofokgkekaa
