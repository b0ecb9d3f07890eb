import Derived.Test.YtpgdddjjjfkneaaGreatDoorWkM
import Derived.Test.YtpgdddjjjfkneaaGreatDoorPtB
/-
  Plain mathematics of a partition's superstep: what its vertices send, and how much. No condition.
-/
namespace Go.Proofs.YtpgdddjjjfkneaaGreatDoor
open Go.RowKit Go.Sort
set_option linter.unusedVariables false

section
variable {N : Int} {es : List Ed} {p s l q P : Int} {S : St}
theorem rightP_of (h : rightP N es p s l q (mkP P S) = true) : jchk N es p s l q = 0 ∧ (0 ≤ P ∧ P < q) ∧ (0 ≤ S.step ∧ S.step ≤ 40) ∧ S.vals.length = (verts N.toNat q.toNat P.toNat).length ∧ S.rest.length = (verts N.toNat q.toNat P.toNat).length ∧ risB N (-1) S.inn = true ∧ S.inn.all (toHome q.toNat P.toNat) = true := by
  unfold rightP mkP at h
  simp only [Bool.and_eq_true, decide_eq_true_eq] at h
  exact ⟨h.1, h.2.1, h.2.2.1, h.2.2.2.1, h.2.2.2.2.1, h.2.2.2.2.2.1, h.2.2.2.2.2.2⟩
theorem verts_len (n a k : Nat) : (verts n a k).length ≤ n := by
  unfold verts; exact Nat.le_trans (List.length_filter_le _ _) (by simp)
theorem rightP_small (h : rightP N es p s l q (mkP P S) = true) : 1 ≤ q ∧ q ≤ 6 ∧ S.vals.length ≤ 24 ∧ S.rest.length = S.vals.length ∧ 1 ≤ N ∧ N ≤ 24 := by
  obtain ⟨hj, hP, hs, hv, hr, _⟩ := rightP_of h
  have hb := badJ_not (jchk_zero hj).2
  have hN := jchk_N hj
  have := verts_len N.toNat q.toNat P.toNat
  omega
theorem rightP_at (h : rightP N es p s l q (mkP P S) = true) {i : Nat} (hi : i < S.vals.length) : P.toNat + i * q.toNat < N.toNat := by
  obtain ⟨hj, hP, hs, hv, hr, _⟩ := rightP_of h
  have hb := badJ_not (jchk_zero hj).2
  have hi' : i < (verts N.toNat q.toNat P.toNat).length := by omega
  have h1 := (verts_spec N.toNat q.toNat P.toNat (by omega) (by omega) (by omega)).2 i hi'
  have h2 := (verts_mem (n := N.toNat) (q := q.toNat) (k := P.toNat)).1 (List.getElem_mem hi')
  rw [h1] at h2
  exact h2.1
theorem tP_bd (h : Ok S) (i : Nat) : bd (tP N es p s l q (mkP P S) i).1 ∧ ∀ e ∈ (tP N es p s l q (mkP P S) i).2.1, bd e.2 := by
  unfold tP turnP
  split
  · exact ⟨h.vAt i, fun e he => by simp at he⟩
  · exact turnR_bd (h.vAt i) (atV_bd h.m _)
theorem tP_len (x : Pt) (i : Nat) : (tP N es p s l q x i).2.1.length ≤ 80 := by
  unfold tP turnP
  split
  · simp
  · exact turnR_len ..
theorem tP_to (x : Pt) (i : Nat) : ∀ m ∈ (tP N es p s l q x i).2.1, 0 ≤ m.1 ∧ m.1 < N := by
  intro m hm
  unfold tP turnP at hm
  split at hm
  · simp at hm
  · exact turn_to m hm
theorem sentP_bd (h : Ok S) (k : Nat) : ∀ e ∈ sentL (tP N es p s l q (mkP P S)) k, bd e.2 := by
  intro e he
  obtain ⟨v, _, hv⟩ := sentL_mem.1 he
  exact (tP_bd h v).2 e hv
/-- The partition behind the turns. -/
def nextS (N : Int) (es : List Ed) (p s l q P : Int) (S : St) : St := ⟨S.step + 1, valsL (tP N es p s l q (mkP P S)) S.vals.length, restL (tP N es p s l q (mkP P S)) S.vals.length, []⟩
theorem nextS_x : mkP P (nextS N es p s l q P S) = doX N es p s l q (mkP P S) := rfl
theorem nextS_ok (h : Ok S) (hs : S.step ≤ 40) : Ok (nextS N es p s l q P S) := by
  have h3 := h.st
  have h4 := h.lv
  refine ⟨?_, ?_, ?_, ?_, ?_, ?_⟩
  · unfold nextS bd at *; dsimp only; omega
  · intro x hx
    unfold nextS valsL at hx
    obtain ⟨v, _, rfl⟩ := List.mem_map.1 hx
    exact (tP_bd h v).1
  · intro e he; unfold nextS at he; simp at he
  · unfold nextS; dsimp only; rw [valsL_len]; exact h4
  · unfold nextS; dsimp only; rw [restL_len]; exact h4
  · unfold nextS; simp
theorem turnP_rest {x : Pt} {v i : Nat} (h1 : rAt x.rest i = true) (h2 : atB x.inn v = false) : turnP N es p s l q x v i = (vAt x.vals i, [], true, 0) := by
  unfold turnP; rw [h1, h2]; rfl
theorem turnP_turn {x : Pt} {v i : Nat} (h : rAt x.rest i = false ∨ atB x.inn v = true) : turnP N es p s l q x v i = turnR N es p s l q x.step v (vAt x.vals i) (atV x.inn v) (atB x.inn v) := by
  unfold turnP
  rw [if_neg]
  rcases h with h | h <;> simp [h]
end
end Go.Proofs.YtpgdddjjjfkneaaGreatDoor


