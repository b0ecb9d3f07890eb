/-
  Plain mathematics of runs with another limit, and of a superstep of a quiet state. No condition.
-/
import Derived.Test.YtkmflofokgkekaaSqH
namespace Go.Proofs.Ytkmflofokgkekaa
open Go.RowKit
set_option linter.unusedVariables false

theorem jchk_lim {N : Int} {es : List Ed} {p s l l' q : Int} (h : jchk N es p s l q = 0) (h1 : l ≤ l') (h2 : l' ≤ 40) : jchk N es p s l' q = 0 := by
  obtain ⟨hc, hb⟩ := jchk_zero h
  apply jchk_good hc
  unfold badJ at hb ⊢
  omega
theorem turnR_lim {N : Int} {es : List Ed} {p s l l' q st v val got : Int} {sm : Bool} (h : jchk N es p s l q = 0) (h' : jchk N es p s l' q = 0) : turnR N es p s l q st v val got sm = turnR N es p s l' q st v val got sm := by
  have e : vchk N es p s l q v = vchk N es p s l' q v := by unfold vchk; rw [h, h']
  unfold turnR
  rw [e]
theorem stepR_lim {N : Int} {es : List Ed} {p s l l' q : Int} {S : St} (h : jchk N es p s l q = 0) (h' : jchk N es p s l' q = 0) : stepR N es p s l q S = stepR N es p s l' q S := by
  have e : turnS N es p s l q S = turnS N es p s l' q S := by
    funext v
    unfold turnS
    rw [turnR_lim h h']
  unfold stepR superR rightB
  rw [e, h, h']
theorem onwR_lim {N : Int} {es : List Ed} {p s l l' q : Int} {S : St} (h : jchk N es p s l q = 0) (h' : jchk N es p s l' q = 0) (h1 : quietB S = true ∨ (¬ S.step = l ∧ ¬ S.step = l')) : onwR N es p s l' q S = onwR N es p s l q S := by
  unfold onwR
  by_cases hq : quietB S = true
  · simp only [if_pos hq]
  · rcases h1 with h1 | ⟨a, b⟩
    · exact absurd h1 hq
    · simp only [if_neg hq, if_neg a, if_neg b, stepR_lim h h']
theorem stAt_lim {N : Int} {es : List Ed} {p s l l' q : Int} (h : jchk N es p s l q = 0) (h' : jchk N es p s l' q = 0) (hl : l ≤ l') (k : Nat) : ∀ {S : St}, stAt N es p s l q k = some S → stAt N es p s l' q k = some S := by
  induction k with
  | zero => intro S hS; exact hS
  | succ k ih =>
    intro S hS
    have hle := stAt_le (badJ_not (jchk_zero h).2 |>.2.2.1 |> (fun x => by omega)) (k + 1) hS
    obtain ⟨S0, h0, h1, rfl⟩ := stAt_prev hS
    have hs := stAt_step k h0
    obtain ⟨a1, a2, a3, a4⟩ := onw_zero h1
    have e : onwR N es p s l' q S0 = onwR N es p s l q S0 := onwR_lim h h' (.inr ⟨a2, by omega⟩)
    have := stAt_next (ih h0) (by rw [e]; exact h1)
    rw [e] at this
    exact this
/-- With a greater limit: a run that came to its limit comes at least as far; any other one ends as it did. -/
theorem ends_lim {N : Int} {es : List Ed} {p s l l' q kd st kd' st' : Int} {vs vs' : List Int} (hj : jchk N es p s l q = 0) (hl : l ≤ l') (h40 : l' ≤ 40) (h : IsAns N es p s l q kd st vs) (h' : IsAns N es p s l' q kd' st' vs') :
    (kd = 3 → st ≤ st') ∧ (¬ kd = 3 → kd' = kd ∧ st' = st ∧ vs' = vs) := by
  have hj' := jchk_lim hj hl h40
  rcases h with ⟨hn, _⟩ | ⟨_, k, S, hk, h0, e1, e2, e3⟩
  · exact absurd hj hn
  have hk' := stAt_lim hj hj' hl k hk
  have hs := stAt_step k hk
  refine ⟨fun _ => ?_, fun h3 => ?_⟩
  · rcases h' with ⟨hn, _⟩ | ⟨_, m, T, hm, g0, f1, f2, f3⟩
    · exact absurd hj' hn
    have hs' := stAt_step m hm
    have : k ≤ m := by
      apply Classical.byContradiction
      intro hlt
      rw [stAt_end hm g0 k (by omega)] at hk'
      cases hk'
    omega
  · have hle := stAt_le (by have := badJ_not (jchk_zero hj).2; omega) k hk
    have e : onwR N es p s l' q S = onwR N es p s l q S := by
      apply onwR_lim hj hj'
      by_cases hq : quietB S = true
      · exact .inl hq
      · have hne : ¬ S.step = l := by
          intro he
          apply h3
          rw [e1]
          unfold onwR
          rw [if_neg hq, if_pos he]
        exact .inr ⟨hne, by omega⟩
    have ha : IsAns N es p s l' q kd st vs := .inr ⟨hj', k, S, hk', by rw [e]; exact h0, by rw [e]; exact e1, e2, e3⟩
    exact ans_uniq h' ha
theorem ans_kind {N : Int} {es : List Ed} {p s l q kd st : Int} {vs : List Int} (h : IsAns N es p s l q kd st vs) : (¬ jchk N es p s l q = 0 ∧ kd = 4) ∨ (jchk N es p s l q = 0 ∧ ¬ kd = 4 ∧ (kd = 1 ∨ kd = 2 ∨ kd = 3) ∧ 0 ≤ st ∧ st ≤ l) := by
  rcases h with ⟨hn, e, _⟩ | ⟨hj, k, S, hk, h0, e1, e2, e3⟩
  · exact .inl ⟨hn, e⟩
  · have hle := stAt_le (by have := badJ_not (jchk_zero hj).2; omega) k hk
    have hs := stAt_step k hk
    rcases onw_kind N es p s l q S with h | h | h | h
    · exact absurd h h0
    · exact .inr ⟨hj, by omega, by omega, by omega, by omega⟩
    · exact .inr ⟨hj, by omega, by omega, by omega, by omega⟩
    · exact .inr ⟨hj, by omega, by omega, by omega, by omega⟩

/-- Of a state that is quiet a superstep changes nothing but Step. -/
theorem steady {N : Int} {es : List Ed} {p s l q st : Int} {vs : List Int} {m : Nat} (hm : N = m) (hr : rightB N es p s l q ⟨st, vs, List.replicate m true, []⟩ = true) (h40 : ¬ st = 40) :
    stepR N es p s l q ⟨st, vs, List.replicate m true, []⟩ = (⟨st + 1, vs, List.replicate m true, []⟩, 0) := by
  obtain ⟨hj, _, hv, _, _⟩ := right_of hr
  dsimp only at hv
  have hp := (badJ_not (jchk_zero hj).2).1
  have hlen : vs.length = m := by omega
  have hT : ∀ k, k < m → turnS N es p s l q ⟨st, vs, List.replicate m true, []⟩ k = (vAt vs k, [], true, 0) := by
    intro k hk
    unfold turnS
    have e1 : rAt (List.replicate m true) k = true := by rw [rAt_get _ _ (by simpa using hk)]; simp
    have e2 : atB ([] : List Ms) k = false := rfl
    simp only [e1, e2]
    rfl
  have hE : ∀ k, k ≤ m → errL (turnS N es p s l q ⟨st, vs, List.replicate m true, []⟩) k = 0 := by
    intro k
    induction k with
    | zero => intro _; rfl
    | succ k ih => intro hk; exact firstE_ok (ih (by omega)) (by show (turnS N es p s l q _ k).2.2.2 = 0; rw [hT k (by omega)])
  have hSn : ∀ k, k ≤ m → sentL (turnS N es p s l q ⟨st, vs, List.replicate m true, []⟩) k = [] := by
    intro k
    induction k with
    | zero => intro _; rfl
    | succ k ih => intro hk; rw [sentL_succ, ih (by omega), hT k (by omega)]; rfl
  have hV : valsL (turnS N es p s l q ⟨st, vs, List.replicate m true, []⟩) m = vs := by
    apply List.ext_getElem
    · rw [valsL_len, hlen]
    · intro i h1 h2
      have := valsL_at (turnS N es p s l q ⟨st, vs, List.replicate m true, []⟩) m i (by omega)
      rw [vAt_get _ _ h1, hT i (by omega)] at this
      rw [this]
      exact vAt_get _ _ h2
  have hR : restL (turnS N es p s l q ⟨st, vs, List.replicate m true, []⟩) m = List.replicate m true := by
    apply List.ext_getElem
    · rw [restL_len]; simp
    · intro i h1 h2
      have hi : i < m := by rw [restL_len] at h1; exact h1
      have := restL_at (turnS N es p s l q ⟨st, vs, List.replicate m true, []⟩) m i hi
      rw [rAt_get _ _ h1, hT i hi] at this
      rw [this]; simp
  have hF : fdC p ([] : List Ms) = 0 ∧ fdR p ([] : List Ms) = [] := by
    unfold fdC fdR
    rw [if_pos hp, if_pos hp]
    exact ⟨rfl, rfl⟩
  have hn : N.toNat = m := by omega
  unfold stepR
  rw [if_pos hj, if_pos hr, if_neg h40]
  unfold superR
  rw [hn, hE m (Nat.le_refl _), hSn m (Nat.le_refl _), hV, hR, hF.1, hF.2]
  rfl
theorem steady_quiet {st : Int} {vs : List Int} {m : Nat} : quietB ⟨st, vs, List.replicate m true, []⟩ = true := by
  unfold quietB allB; simp

end Go.Proofs.Ytkmflofokgkekaa
