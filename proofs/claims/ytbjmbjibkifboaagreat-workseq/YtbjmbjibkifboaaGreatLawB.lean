import Derived.Test.YtbjmbjibkifboaaGreatWf
import Derived.Test.YtbjmbjibkifboaaGreatDoor
import Derived.BigQuiet
import Derived.BigRegion
import Derived.Deep.RegionHeld3
/-
  The walk of WorkHomes: what Do tells under a number goes to vertices of that home, rising. No condition.
-/
namespace Go.Proofs.YtbjmbjibkifboaaGreat
open Go.ChangeShapes Go.WideShapes Go.ChangeAt Go.RowKit
set_option linter.unusedVariables false

theorem doR_bad {N : Int} {es : List Ed} {p s l q : Int} {x : Pt} (h : ¬ (doR N es p s l q x).2.2 = 0) : doR N es p s l q x = (noPt, [], (doR N es p s l q x).2.2) := by
  unfold doR at h ⊢
  by_cases h1 : jchk N es p s l q = 0
  · rw [if_pos h1] at h ⊢
    by_cases h2 : rightP N es p s l q x = true
    · rw [if_pos h2] at h ⊢
      by_cases h3 : x.step = 40
      · rw [if_pos h3]
      · rw [if_neg h3] at h ⊢
        by_cases h4 : errL (tP N es p s l q x) x.vals.length = 0
        · rw [if_pos h4] at h ⊢
          by_cases h5 : doC N es p s l q x = 0
          · rw [if_pos h5] at h; exact absurd rfl h
          · rw [if_neg h5]
        · rw [if_neg h4]
    · rw [if_neg h2]
  · rw [if_neg h1]
theorem doR_good {N : Int} {es : List Ed} {p s l q P : Int} {S : St} (h : (doR N es p s l q (mkP P S)).2.2 = 0) : rightP N es p s l q (mkP P S) = true ∧ ¬ S.step = 40 ∧ doC N es p s l q (mkP P S) = 0 ∧ doR N es p s l q (mkP P S) = (mkP P (nextS N es p s l q P S), (List.range q.toNat).map (foR p q.toNat (doS N es p s l q (mkP P S))), 0) := by
  unfold doR at h ⊢
  by_cases h1 : jchk N es p s l q = 0
  · rw [if_pos h1] at h ⊢
    by_cases h2 : rightP N es p s l q (mkP P S) = true
    · rw [if_pos h2] at h ⊢
      by_cases h3 : (mkP P S).step = 40
      · rw [if_pos h3] at h; exact absurd h (by decide)
      · rw [if_neg h3] at h ⊢
        by_cases h4 : errL (tP N es p s l q (mkP P S)) (mkP P S).vals.length = 0
        · rw [if_pos h4] at h ⊢
          by_cases h5 : doC N es p s l q (mkP P S) = 0
          · rw [if_pos h5]; exact ⟨h2, h3, h5, rfl⟩
          · rw [if_neg h5] at h; exact absurd h h5
        · rw [if_neg h4] at h; exact absurd h h4
    · rw [if_neg h2] at h; exact absurd h (by decide)
  · rw [if_neg h1] at h; exact absurd h h1
/-- What was folded of home k: rising, to its own vertices. -/
theorem outs_of {N : Int} {es : List Ed} {p s l q P : Int} {S : St} (hr : rightP N es p s l q (mkP P S) = true) (hok : Ok S) (hc : doC N es p s l q (mkP P S) = 0) {k : Nat} (hk : k < q.toNat) :
    (∀ m ∈ foR p q.toNat (doS N es p s l q (mkP P S)) k, (0 ≤ m.1 ∧ m.1 < N) ∧ m.1.toNat % q.toNat = k) ∧ Ris (foR p q.toNat (doS N es p s l q (mkP P S)) k) ∧ (foR p q.toNat (doS N es p s l q (mkP P S)) k).length ≤ 2000 := by
  have hj := (rightP_of hr).1
  have hp : 1 ≤ p ∧ p ≤ 5 := (badJ_not (jchk_zero hj).2).1
  have h0 : fdC p (toK q.toNat k (doS N es p s l q (mkP P S))) = 0 := firstE_zero hc k hk
  obtain ⟨y, hy⟩ := (fdC_zero hp _).1 h0
  have hb : ∀ e ∈ toK q.toNat k (doS N es p s l q (mkP P S)), bd e.2 := fun e he => sentP_bd hok _ e (toK_mem.1 he).1
  have hlen : (foR p q.toNat (doS N es p s l q (mkP P S)) k).length ≤ 2000 := by
    have h1 := fdR_len p (toK q.toNat k (doS N es p s l q (mkP P S)))
    have h2 : (toK q.toNat k (doS N es p s l q (mkP P S))).length ≤ (doS N es p s l q (mkP P S)).length := List.length_filter_le _ _
    have h3 := sentL_len (tP N es p s l q (mkP P S)) (tP_len _) S.vals.length
    have h4 := rightP_small hr
    have h5 : (doS N es p s l q (mkP P S)).length ≤ 80 * S.vals.length := h3
    show (fdR p _).length ≤ 2000
    omega
  refine ⟨fun m hm => ?_, ?_, hlen⟩
  · have hm : m ∈ fdR p (toK q.toNat k (doS N es p s l q (mkP P S))) := hm
    rw [fdR_some hp hy] at hm
    obtain ⟨m', hm1, hm2⟩ := fold_mem hb hy m hm
    obtain ⟨h1, h2⟩ := toK_mem.1 hm1
    have h3 := sentP_to (N := N) (es := es) (p := p) (s := s) (l := l) (q := q) (mkP P S) _ m' h1
    unfold toHome at h2
    simp at h2
    rw [← hm2]
    exact ⟨h3, h2.2⟩
  · show Ris (fdR p _)
    rw [fdR_some hp hy]
    exact (fold_some hb hy).1
end Go.Proofs.YtbjmbjibkifboaaGreat

