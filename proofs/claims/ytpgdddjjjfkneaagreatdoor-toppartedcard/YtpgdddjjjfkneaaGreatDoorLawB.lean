import Derived.Test.YtpgdddjjjfkneaaGreatDoorWf
import Derived.Test.YtpgdddjjjfkneaaGreatDoorDoor
import Derived.BigQuiet
import Derived.BigRegion
import Derived.Deep.RegionHeld3
/-
  The walk of WorkHomes: what Do tells under a number goes to vertices of that home, rising. No condition.
-/
namespace Go.Proofs.YtpgdddjjjfkneaaGreatDoor
open Go.ChangeShapes Go.WideShapes Go.ChangeAt Go.RowKit
set_option linter.unusedVariables false

theorem doR_bad {N : Int} {es : List Ed} {p s l q : Int} {x : Pt} (h : ¬ (doR N es p s l q x).2.2 = 0) : doR N es p s l q x = (noPt, [], (doR N es p s l q x).2.2) := by
  unfold doR at h ⊢
  by_cases h1 : jchk N es p s l q = 0
  · rw [if_pos h1] at h ⊢
    by_cases h2 : rightP N es p s l q x = true
    · rw [if_pos h2] at h ⊢
      by_cases h3 : x.step = 40
      · rw [if_pos h3]
      · rw [if_neg h3] at h ⊢
        by_cases h4 : errL (tP N es p s l q x) x.vals.length = 0
        · rw [if_pos h4] at h ⊢
          by_cases h5 : doC N es p s l q x = 0
          · rw [if_pos h5] at h; exact absurd rfl h
          · rw [if_neg h5]
        · rw [if_neg h4]
    · rw [if_neg h2]
  · rw [if_neg h1]
theorem doR_good {N : Int} {es : List Ed} {p s l q P : Int} {S : St} (h : (doR N es p s l q (mkP P S)).2.2 = 0) : rightP N es p s l q (mkP P S) = true ∧ ¬ S.step = 40 ∧ doC N es p s l q (mkP P S) = 0 ∧ doR N es p s l q (mkP P S) = (mkP P (nextS N es p s l q P S), (List.range q.toNat).map (foR p q.toNat (doS N es p s l q (mkP P S))), 0) := by
  unfold doR at h ⊢
  by_cases h1 : jchk N es p s l q = 0
  · rw [if_pos h1] at h ⊢
    by_cases h2 : rightP N es p s l q (mkP P S) = true
    · rw [if_pos h2] at h ⊢
      by_cases h3 : (mkP P S).step = 40
      · rw [if_pos h3] at h; exact absurd h (by decide)
      · rw [if_neg h3] at h ⊢
        by_cases h4 : errL (tP N es p s l q (mkP P S)) (mkP P S).vals.length = 0
        · rw [if_pos h4] at h ⊢
          by_cases h5 : doC N es p s l q (mkP P S) = 0
          · rw [if_pos h5]; exact ⟨h2, h3, h5, rfl⟩
          · rw [if_neg h5] at h; exact absurd h h5
        · rw [if_neg h4] at h; exact absurd h h4
    · rw [if_neg h2] at h; exact absurd h (by decide)
  · rw [if_neg h1] at h; exact absurd h h1
end Go.Proofs.YtpgdddjjjfkneaaGreatDoor


