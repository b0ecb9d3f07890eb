import Derived.Test.YtcaccjfnibjbpaaKe
import Derived.Test.YtcaccjfnibjbpaaKm
/-
  Plain mathematics of runs on one machine: states, which are right and quiet, a superstep, a run's states. No condition.
-/
namespace Go.Proofs.Ytcaccjfnibjbpaa
open Go.RowKit
set_option linter.unusedVariables false

/-- A state: Step, Vals, Rest, In. -/
structure St where
  step : Int
  vals : List Int
  rest : List Bool
  inn : List Ms
def noSt : St := ⟨0, [], [], []⟩
def vAt (l : List Int) (k : Nat) : Int := l.getD k 0
def rAt (l : List Bool) (k : Nat) : Bool := l.getD k false
theorem vAt_get (l : List Int) (k : Nat) (h : k < l.length) : vAt l k = l[k] := by unfold vAt; simp [List.getD, List.getElem?_eq_getElem h]
theorem rAt_get (l : List Bool) (k : Nat) (h : k < l.length) : rAt l k = l[k] := by unfold rAt; simp [List.getD, List.getElem?_eq_getElem h]
/-- Messages to vertices alone, each to a greater one than the one ahead. -/
def risB (N : Int) : Int → List Ms → Bool
  | _, [] => true
  | a, m :: r => decide (a < m.1) && (decide (m.1 < N) && risB N m.1 r)
theorem ris_to (N a : Int) (l : List Ms) (h : risB N a l = true) : ∀ m ∈ l, a < m.1 ∧ m.1 < N := by
  induction l generalizing a with
  | nil => intro m hm; simp at hm
  | cons x r ih =>
    unfold risB at h
    simp only [Bool.and_eq_true, decide_eq_true_eq] at h
    intro m hm
    rcases List.mem_cons.1 hm with rfl | hm
    · exact ⟨h.1, h.2.1⟩
    · have := ih _ h.2.2 m hm; omega
theorem ris_ris (N a : Int) (l : List Ms) (h : risB N a l = true) : Ris l := by
  induction l generalizing a with
  | nil => exact List.Pairwise.nil
  | cons x r ih =>
    unfold risB at h
    simp only [Bool.and_eq_true, decide_eq_true_eq] at h
    exact List.Pairwise.cons (fun m hm => (ris_to N _ r h.2.2 m hm).1) (ih _ h.2.2)
def allB (l : List Bool) : Bool := l.all fun b => b
def quietB (S : St) : Bool := decide (S.inn.length = 0) && allB S.rest
def rightB (N : Int) (es : List Ed) (p s l q : Int) (S : St) : Bool :=
  decide (jchk N es p s l q = 0) && (decide (0 ≤ S.step ∧ S.step ≤ 40) && (decide ((S.vals.length : Int) = N) && (decide ((S.rest.length : Int) = N) && risB N (-1) S.inn)))
theorem right_of {N : Int} {es : List Ed} {p s l q : Int} {S : St} (h : rightB N es p s l q S = true) :
    jchk N es p s l q = 0 ∧ (0 ≤ S.step ∧ S.step ≤ 40) ∧ (S.vals.length : Int) = N ∧ (S.rest.length : Int) = N ∧ risB N (-1) S.inn = true := by
  unfold rightB at h
  simp only [Bool.and_eq_true, decide_eq_true_eq] at h
  exact h
theorem right_is {N : Int} {es : List Ed} {p s l q : Int} {S : St} (h : jchk N es p s l q = 0 ∧ (0 ≤ S.step ∧ S.step ≤ 40) ∧ (S.vals.length : Int) = N ∧ (S.rest.length : Int) = N ∧ risB N (-1) S.inn = true) : rightB N es p s l q S = true := by
  unfold rightB
  simp only [Bool.and_eq_true, decide_eq_true_eq]
  exact h
/-- What a vertex does in a superstep of a state. -/
def turnS (N : Int) (es : List Ed) (p s l q : Int) (S : St) (v : Nat) : Int × List Ms × Bool × Int :=
  if (rAt S.rest v && !atB S.inn v) = true then (vAt S.vals v, [], true, 0) else turnR N es p s l q S.step v (vAt S.vals v) (atV S.inn v) (atB S.inn v)
/-- The first error of the first k. -/
def firstE (f : Nat → Int) : Nat → Int
  | 0 => 0
  | k + 1 => if firstE f k = 0 then f k else firstE f k
theorem firstE_stay (f : Nat → Int) (k n : Nat) (h : ¬ firstE f k = 0) (hk : k ≤ n) : firstE f n = firstE f k := by
  induction n with
  | zero =>
    obtain rfl : k = 0 := by omega
    rfl
  | succ n ih =>
    by_cases e : k = n + 1
    · rw [e]
    · have := ih (by omega)
      show (if firstE f n = 0 then f n else firstE f n) = firstE f k
      rw [this, if_neg h]
theorem firstE_bad {f : Nat → Int} {k n : Nat} (h : firstE f k = 0) (hk : k < n) (he : ¬ f k = 0) : firstE f n = f k := by
  have h1 : firstE f (k + 1) = f k := by show (if firstE f k = 0 then f k else firstE f k) = f k; rw [if_pos h]
  rw [firstE_stay f (k + 1) n (by rw [h1]; exact he) (by omega), h1]
theorem firstE_ok {f : Nat → Int} {k : Nat} (h : firstE f k = 0) (he : f k = 0) : firstE f (k + 1) = 0 := by
  show (if firstE f k = 0 then f k else firstE f k) = 0; rw [if_pos h, he]
theorem firstE_zero {f : Nat → Int} {n : Nat} (h : firstE f n = 0) : ∀ k, k < n → f k = 0 := by
  intro k hk
  by_cases h0 : firstE f k = 0
  · by_cases he : f k = 0
    · exact he
    · exact absurd ((firstE_bad h0 hk he).symm.trans h) he
  · exact absurd ((firstE_stay f k n h0 (by omega)).symm.trans h) h0
def valsL (T : Nat → Int × List Ms × Bool × Int) (k : Nat) : List Int := (List.range k).map fun v => (T v).1
def restL (T : Nat → Int × List Ms × Bool × Int) (k : Nat) : List Bool := (List.range k).map fun v => (T v).2.2.1
def sentL (T : Nat → Int × List Ms × Bool × Int) (k : Nat) : List Ms := (List.range k).flatMap fun v => (T v).2.1
def errL (T : Nat → Int × List Ms × Bool × Int) (k : Nat) : Int := firstE (fun v => (T v).2.2.2) k
theorem valsL_succ (T : Nat → Int × List Ms × Bool × Int) (k : Nat) : valsL T (k + 1) = valsL T k ++ [(T k).1] := by unfold valsL; simp [List.range_succ]
theorem restL_succ (T : Nat → Int × List Ms × Bool × Int) (k : Nat) : restL T (k + 1) = restL T k ++ [(T k).2.2.1] := by unfold restL; simp [List.range_succ]
theorem sentL_succ (T : Nat → Int × List Ms × Bool × Int) (k : Nat) : sentL T (k + 1) = sentL T k ++ (T k).2.1 := by unfold sentL; simp [List.range_succ]
theorem valsL_len (T : Nat → Int × List Ms × Bool × Int) (k : Nat) : (valsL T k).length = k := by unfold valsL; simp
theorem restL_len (T : Nat → Int × List Ms × Bool × Int) (k : Nat) : (restL T k).length = k := by unfold restL; simp
theorem sentL_len (T : Nat → Int × List Ms × Bool × Int) (h : ∀ v, (T v).2.1.length ≤ 80) (k : Nat) : (sentL T k).length ≤ 80 * k := by
  induction k with
  | zero => simp [sentL]
  | succ k ih => rw [sentL_succ, List.length_append]; have := h k; omega
theorem valsL_at (T : Nat → Int × List Ms × Bool × Int) (n k : Nat) (h : k < n) : vAt (valsL T n) k = (T k).1 := by
  rw [vAt_get _ _ (by rw [valsL_len]; exact h)]; unfold valsL; simp
theorem restL_at (T : Nat → Int × List Ms × Bool × Int) (n k : Nat) (h : k < n) : rAt (restL T n) k = (T k).2.2.1 := by
  rw [rAt_get _ _ (by rw [restL_len]; exact h)]; unfold restL; simp
theorem sentL_mem {T : Nat → Int × List Ms × Bool × Int} {n : Nat} {m : Ms} : m ∈ sentL T n ↔ ∃ v, v < n ∧ m ∈ (T v).2.1 := by
  unfold sentL; simp [List.mem_flatMap]
/-- What a superstep of a right state comes to. -/
def superR (N : Int) (es : List Ed) (p s l q : Int) (S : St) : St × Int :=
  if errL (turnS N es p s l q S) N.toNat = 0 then
    if fdC p (sentL (turnS N es p s l q S) N.toNat) = 0 then
      (⟨S.step + 1, valsL (turnS N es p s l q S) N.toNat, restL (turnS N es p s l q S) N.toNat, fdR p (sentL (turnS N es p s l q S) N.toNat)⟩, 0)
    else (noSt, fdC p (sentL (turnS N es p s l q S) N.toNat))
  else (noSt, errL (turnS N es p s l q S) N.toNat)
def stepR (N : Int) (es : List Ed) (p s l q : Int) (S : St) : St × Int :=
  if jchk N es p s l q = 0 then
    if rightB N es p s l q S = true then (if S.step = 40 then (noSt, 6) else superR N es p s l q S) else (noSt, 1)
  else (noSt, jchk N es p s l q)
def beginS (N p s : Int) : St := ⟨0, (List.range N.toNat).map fun (v : Nat) => startI p s v, List.replicate N.toNat false, []⟩
/-- The next state and 0, or the kind with which the run ends here. -/
def onwR (N : Int) (es : List Ed) (p s l q : Int) (S : St) : St × Int :=
  if quietB S = true then (noSt, 1) else if S.step = l then (noSt, 3) else if (stepR N es p s l q S).2 = 0 then ((stepR N es p s l q S).1, 0) else (noSt, 2)
/-- The run's state of Step k. -/
def stAt (N : Int) (es : List Ed) (p s l q : Int) : Nat → Option St
  | 0 => some (beginS N p s)
  | k + 1 => match stAt N es p s l q k with
    | some S => if (onwR N es p s l q S).2 = 0 then some (onwR N es p s l q S).1 else none
    | none => none
/-- Numbers of 64 bits, and not too many of all. -/
structure Ok (S : St) : Prop where
  st : bd S.step
  v : ∀ x ∈ S.vals, bd x
  m : ∀ e ∈ S.inn, bd e.2
  lv : S.vals.length ≤ 1000000
  lr : S.rest.length ≤ 1000000
  lm : S.inn.length ≤ 1000000
theorem bd0 : bd 0 := ⟨by decide, by decide⟩
theorem Ok.no : Ok noSt := ⟨bd0, fun _ h => by simp [noSt] at h, fun _ h => by simp [noSt] at h, by simp [noSt], by simp [noSt], by simp [noSt]⟩
theorem Ok.vAt {S : St} (h : Ok S) (k : Nat) : bd (vAt S.vals k) := by
  by_cases hk : k < S.vals.length
  · rw [vAt_get _ _ hk]; exact h.v _ (List.getElem_mem hk)
  · unfold Go.Proofs.Ytcaccjfnibjbpaa.vAt; rw [List.getD_eq_getElem?_getD, List.getElem?_eq_none (by omega)]; exact bd0
theorem atV_bd {l : List Ms} (h : ∀ e ∈ l, bd e.2) (v : Int) : bd (atV l v) := by
  unfold atV
  cases hf : l.find? fun m => decide (m.1 = v) with
  | none => exact bd0
  | some m => exact h m (List.mem_of_find?_eq_some hf)
theorem alX_bd {p now : Int} {e : Ed} {m : Int} (h : bd now) : bd (alX p now e m) := by
  unfold alX
  split
  · exact told_bd _
  · split
    · exact told_bd _
    · split
      · exact quoV_bd _ _ _
      · exact h
theorem turnR_bd {N : Int} {es : List Ed} {p s l q st v val got : Int} {sm : Bool} (hv : bd val) (hg : bd got) :
    bd (turnR N es p s l q st v val got sm).1 ∧ ∀ e ∈ (turnR N es p s l q st v val got sm).2.1, bd e.2 := by
  have hx := valX_bd (p := p) (st := st) (sm := sm) hv hg
  have h0 : ∀ (x : Int) (b : Bool) (e : Int), bd x → bd ((x, ([] : List Ms), b, e) : Int × List Ms × Bool × Int).1 ∧ ∀ m ∈ ((x, ([] : List Ms), b, e) : Int × List Ms × Bool × Int).2.1, bd m.2 := fun x b e h => ⟨h, fun m hm => by simp at hm⟩
  unfold turnR
  split
  · split
    · exact h0 _ _ _ bd0
    · split
      · split
        · split
          · refine ⟨hx, fun m hm => ?_⟩
            simp only [msgL, List.mem_map] at hm
            obtain ⟨e, _, rfl⟩ := hm
            exact alX_bd hx
          · exact h0 _ _ _ bd0
        · exact h0 _ _ _ hx
      · exact h0 _ _ _ bd0
  · exact h0 _ _ _ bd0
theorem turnR_len (N : Int) (es : List Ed) (p s l q st v val got : Int) (sm : Bool) : (turnR N es p s l q st v val got sm).2.1.length ≤ 80 := by
  unfold turnR
  split
  · rename_i hv
    have := out_len N es v (chk_zero (jchk_zero (vchk_zero hv).1).1).2.2.1
    split
    · simp
    · split
      · split
        · split
          · simpa [msgL] using this
          · simp
        · simp
      · simp
  · simp
theorem turnS_bd {N : Int} {es : List Ed} {p s l q : Int} {S : St} (h : Ok S) (v : Nat) : bd (turnS N es p s l q S v).1 ∧ ∀ e ∈ (turnS N es p s l q S v).2.1, bd e.2 := by
  unfold turnS
  split
  · exact ⟨h.vAt v, fun e he => by simp at he⟩
  · exact turnR_bd (h.vAt v) (atV_bd h.m _)
theorem turnS_len (N : Int) (es : List Ed) (p s l q : Int) (S : St) (v : Nat) : (turnS N es p s l q S v).2.1.length ≤ 80 := by
  unfold turnS
  split
  · simp
  · exact turnR_len ..
theorem sentL_bd {N : Int} {es : List Ed} {p s l q : Int} {S : St} (h : Ok S) (k : Nat) : ∀ e ∈ sentL (turnS N es p s l q S) k, bd e.2 := by
  intro e he
  obtain ⟨v, _, hv⟩ := sentL_mem.1 he
  exact (turnS_bd h v).2 e hv
theorem fl_len (p : Int) (r : List Ms) : ∀ (m : Ms) (y : List Ms), fl p m r = some y → y.length ≤ r.length + 1 := by
  induction r with
  | nil => intro m y h; simp only [fl, Option.some.injEq] at h; subst h; simp
  | cons x r ih =>
    intro m y h
    by_cases hx : x.1 = m.1
    · by_cases he : fdE p m.2 x.2 = 0
      · rw [fl_same hx he] at h
        have := ih _ _ h
        simp; omega
      · rw [fl_none hx he] at h; cases h
    · rw [fl_next hx] at h
      cases hf : fl p x r with
      | none => rw [hf] at h; cases h
      | some z =>
        rw [hf] at h
        injection h with h
        subst h
        have := ih _ _ hf
        simp; omega
theorem fdR_len (p : Int) (l : List Ms) : (fdR p l).length ≤ l.length + 1 := by
  unfold fdR
  split
  · cases hl : msort l with
    | nil => simp [fdL]
    | cons m r =>
      have hlen := msort_len l
      rw [hl] at hlen
      cases hf : fdL p (m :: r) with
      | none => simp
      | some y =>
        have := fl_len p r m y hf
        simp at hlen ⊢
        omega
  · simp
theorem fdR_bd {p : Int} {l : List Ms} (h : ∀ e ∈ l, bd e.2) : ∀ e ∈ fdR p l, bd e.2 := by
  unfold fdR
  split
  · cases hf : fdL p (msort l) with
    | none => intro e he; simp at he
    | some y => exact (fold_some h hf).2.2
  · intro e he; simp at he
theorem super_ok {N : Int} {es : List Ed} {p s l q : Int} {S : St} (h : Ok S) (hN : N ≤ 24) (hs : S.step ≤ 40) : Ok (superR N es p s l q S).1 := by
  unfold superR
  split
  · split
    · have h1 := sentL_len (turnS N es p s l q S) (turnS_len N es p s l q S) N.toNat
      have h2 := fdR_len p (sentL (turnS N es p s l q S) N.toNat)
      have h3 := h.st
      refine ⟨?_, ?_, fdR_bd (sentL_bd h _), ?_, ?_, ?_⟩
      · unfold bd at h3 ⊢; dsimp only; omega
      · intro x hx
        simp only [valsL, List.mem_map] at hx
        obtain ⟨v, _, rfl⟩ := hx
        exact (turnS_bd h v).1
      · show (valsL _ _).length ≤ _; rw [valsL_len]; omega
      · show (restL _ _).length ≤ _; rw [restL_len]; omega
      · dsimp only; omega
    · exact Ok.no
  · exact Ok.no
theorem jchk_N {N : Int} {es : List Ed} {p s l q : Int} (h : jchk N es p s l q = 0) : 1 ≤ N ∧ N ≤ 24 := ⟨(chk_zero (jchk_zero h).1).1, (chk_zero (jchk_zero h).1).2.1⟩
theorem step_ok {N : Int} {es : List Ed} {p s l q : Int} {S : St} (h : Ok S) : Ok (stepR N es p s l q S).1 := by
  unfold stepR
  split
  · rename_i hj
    split
    · rename_i hr
      split
      · exact Ok.no
      · exact super_ok h (jchk_N hj).2 (right_of hr).2.1.2
    · exact Ok.no
  · exact Ok.no
theorem onw_ok {N : Int} {es : List Ed} {p s l q : Int} {S : St} (h : Ok S) : Ok (onwR N es p s l q S).1 := by
  unfold onwR
  split
  · exact Ok.no
  · split
    · exact Ok.no
    · split
      · exact step_ok h
      · exact Ok.no
theorem startI_bd (p s v : Int) (h : bd v) : bd (startI p s v) := by
  unfold startI
  split
  · exact h
  · split
    · unfold markI
      have := wrap64_bd (wrap64 (wrap64 (31 * v) * v) + 7)
      unfold bd
      have h1 := Int.tmod_lt_of_pos (wrap64 (wrap64 (wrap64 (31 * v) * v) + 7)) (show (0 : Int) < 1009 by decide)
      have h2 := Int.lt_tmod_of_pos (wrap64 (wrap64 (wrap64 (31 * v) * v) + 7)) (show (0 : Int) < 1009 by decide)
      omega
    · split
      · exact ⟨by decide, by decide⟩
      · split
        · exact bd0
        · exact ⟨by decide, by decide⟩
theorem begin_ok {N p s : Int} (hN : N ≤ 24) : Ok (beginS N p s) := by
  refine ⟨bd0, ?_, fun e he => by simp [beginS] at he, ?_, ?_, by simp [beginS]⟩
  · intro x hx
    simp only [beginS, List.mem_map, List.mem_range] at hx
    obtain ⟨v, hv, rfl⟩ := hx
    exact startI_bd _ _ _ ⟨by omega, by omega⟩
  · simp [beginS]; omega
  · simp [beginS]; omega
/-! The run. -/
theorem stAt_next {N : Int} {es : List Ed} {p s l q : Int} {k : Nat} {S : St} (h : stAt N es p s l q k = some S) (h0 : (onwR N es p s l q S).2 = 0) : stAt N es p s l q (k + 1) = some (onwR N es p s l q S).1 := by
  show (match stAt N es p s l q k with | some S => if (onwR N es p s l q S).2 = 0 then some (onwR N es p s l q S).1 else none | none => none) = _
  rw [h]; simp only [h0, if_true]
theorem stAt_end {N : Int} {es : List Ed} {p s l q : Int} {k : Nat} {S : St} (h : stAt N es p s l q k = some S) (h0 : ¬ (onwR N es p s l q S).2 = 0) : ∀ n, k < n → stAt N es p s l q n = none := by
  intro n hn
  induction n with
  | zero => omega
  | succ n ih =>
    show (match stAt N es p s l q n with | some S => if (onwR N es p s l q S).2 = 0 then some (onwR N es p s l q S).1 else none | none => none) = _
    by_cases e : n = k
    · subst e; rw [h]; simp only [h0, if_false]
    · rw [ih (by omega)]
theorem stAt_prev {N : Int} {es : List Ed} {p s l q : Int} {k : Nat} {S : St} (h : stAt N es p s l q (k + 1) = some S) : ∃ S0, stAt N es p s l q k = some S0 ∧ (onwR N es p s l q S0).2 = 0 ∧ S = (onwR N es p s l q S0).1 := by
  have h' : (match stAt N es p s l q k with | some S => if (onwR N es p s l q S).2 = 0 then some (onwR N es p s l q S).1 else none | none => none) = some S := h
  cases hk : stAt N es p s l q k with
  | none => rw [hk] at h'; cases h'
  | some S0 =>
    rw [hk] at h'
    by_cases h0 : (onwR N es p s l q S0).2 = 0
    · simp only [h0, if_true] at h'
      injection h' with h'
      exact ⟨S0, rfl, h0, h'.symm⟩
    · simp only [h0, if_false] at h'
      cases h'
theorem onw_zero {N : Int} {es : List Ed} {p s l q : Int} {S : St} (h : (onwR N es p s l q S).2 = 0) : quietB S = false ∧ ¬ S.step = l ∧ (stepR N es p s l q S).2 = 0 ∧ (onwR N es p s l q S).1 = (stepR N es p s l q S).1 := by
  unfold onwR at h ⊢
  by_cases h1 : quietB S = true
  · rw [if_pos h1] at h; cases h
  · rw [if_neg h1] at h ⊢
    by_cases h2 : S.step = l
    · rw [if_pos h2] at h; cases h
    · rw [if_neg h2] at h ⊢
      by_cases h3 : (stepR N es p s l q S).2 = 0
      · rw [if_pos h3] at h ⊢
        exact ⟨by simpa using h1, h2, h3, rfl⟩
      · rw [if_neg h3] at h; cases h
theorem step_zero {N : Int} {es : List Ed} {p s l q : Int} {S : St} (h : (stepR N es p s l q S).2 = 0) : jchk N es p s l q = 0 ∧ rightB N es p s l q S = true ∧ ¬ S.step = 40 ∧ stepR N es p s l q S = superR N es p s l q S := by
  unfold stepR at h ⊢
  by_cases h1 : jchk N es p s l q = 0
  · rw [if_pos h1] at h ⊢
    by_cases h2 : rightB N es p s l q S = true
    · rw [if_pos h2] at h ⊢
      by_cases h3 : S.step = 40
      · rw [if_pos h3] at h; cases h
      · rw [if_neg h3] at h ⊢
        exact ⟨h1, h2, h3, rfl⟩
    · rw [if_neg h2] at h; cases h
  · rw [if_neg h1] at h; exact absurd h h1
theorem super_zero {N : Int} {es : List Ed} {p s l q : Int} {S : St} (h : (superR N es p s l q S).2 = 0) :
    errL (turnS N es p s l q S) N.toNat = 0 ∧ fdC p (sentL (turnS N es p s l q S) N.toNat) = 0 ∧
    (superR N es p s l q S).1 = ⟨S.step + 1, valsL (turnS N es p s l q S) N.toNat, restL (turnS N es p s l q S) N.toNat, fdR p (sentL (turnS N es p s l q S) N.toNat)⟩ := by
  unfold superR at h ⊢
  by_cases h1 : errL (turnS N es p s l q S) N.toNat = 0
  · rw [if_pos h1] at h ⊢
    by_cases h2 : fdC p (sentL (turnS N es p s l q S) N.toNat) = 0
    · rw [if_pos h2] at h ⊢
      exact ⟨h1, h2, rfl⟩
    · rw [if_neg h2] at h; exact absurd h h2
  · rw [if_neg h1] at h; exact absurd h h1
theorem onw_next {N : Int} {es : List Ed} {p s l q : Int} {S : St} (h : (onwR N es p s l q S).2 = 0) : (onwR N es p s l q S).1 = (superR N es p s l q S).1 ∧ (superR N es p s l q S).2 = 0 ∧ rightB N es p s l q S = true := by
  obtain ⟨_, _, h3, h4⟩ := onw_zero h
  obtain ⟨_, h5, _, h6⟩ := step_zero h3
  exact ⟨by rw [h4, h6], by rw [← h6]; exact h3, h5⟩
theorem stAt_step {N : Int} {es : List Ed} {p s l q : Int} (k : Nat) : ∀ {S : St}, stAt N es p s l q k = some S → S.step = k := by
  induction k with
  | zero => intro S h; injection h with h; subst h; rfl
  | succ k ih =>
    intro S h
    obtain ⟨S0, h0, h1, rfl⟩ := stAt_prev h
    obtain ⟨h2, h3, _⟩ := onw_next h1
    rw [h2, (super_zero h3).2.2]
    have := ih h0
    simp only [this]; omega
theorem stAt_ok {N : Int} {es : List Ed} {p s l q : Int} (hN : N ≤ 24) (k : Nat) : ∀ {S : St}, stAt N es p s l q k = some S → Ok S := by
  induction k with
  | zero => intro S h; injection h with h; subst h; exact begin_ok hN
  | succ k ih =>
    intro S h
    obtain ⟨S0, h0, h1, rfl⟩ := stAt_prev h
    exact onw_ok (ih h0)
/-- A run ends once. -/
theorem end_uniq {N : Int} {es : List Ed} {p s l q : Int} {k k' : Nat} {S S' : St} (h : stAt N es p s l q k = some S) (h0 : ¬ (onwR N es p s l q S).2 = 0) (h' : stAt N es p s l q k' = some S') (h0' : ¬ (onwR N es p s l q S').2 = 0) : k = k' ∧ S = S' := by
  have e : k = k' := by
    rcases Nat.lt_trichotomy k k' with hl | hl | hl
    · rw [stAt_end h h0 k' hl] at h'; cases h'
    · exact hl
    · rw [stAt_end h' h0' k hl] at h; cases h
  subst e
  rw [h] at h'
  injection h' with h'
  exact ⟨rfl, h'⟩
end Go.Proofs.Ytcaccjfnibjbpaa

/-
  Plain mathematics of shortest ways: what a run of Sssp keeps from its first superstep on, and what follows when it is quiet. No condition.
-/
namespace Go.Proofs.Ytcaccjfnibjbpaa
open Go.RowKit
set_option linter.unusedVariables false

def far : Int := 9223372036854775807
end Go.Proofs.Ytcaccjfnibjbpaa

/-
  Plain mathematics of partitions: homes, the vertices of a home, partitions that are right, parting and joining. No condition.
-/
namespace Go.Proofs.Ytcaccjfnibjbpaa
open Go.RowKit
set_option linter.unusedVariables false

/-- A partition: P, Step, Vals, Rest, In. -/
structure Pt where
  P : Int
  step : Int
  vals : List Int
  rest : List Bool
  inn : List Ms
def noPt : Pt := ⟨0, 0, [], [], []⟩
/-- The vertices of home k, of n, with q parts. -/
def verts (n q k : Nat) : List Nat := (List.range n).filter fun v => v % q == k
theorem verts_succ (n q k : Nat) : verts (n + 1) q k = if n % q = k then verts n q k ++ [n] else verts n q k := by
  unfold verts
  rw [List.range_succ, List.filter_append]
  by_cases h : n % q = k
  · rw [if_pos h]; simp [h]
  · rw [if_neg h]; simp [h]
theorem verts_mem {n q k v : Nat} : v ∈ verts n q k ↔ v < n ∧ v % q = k := by unfold verts; simp
/-- They are k, k + q, k + 2 q .. -/
theorem verts_spec (n q k : Nat) (h1 : 1 ≤ q) (h6 : q ≤ 6) (hk : k < q) : (verts n q k).length = (n + (q - 1 - k)) / q ∧ ∀ i (h : i < (verts n q k).length), (verts n q k)[i] = k + i * q := by
  induction n with
  | zero =>
    refine ⟨?_, fun i h => by simp [verts] at h⟩
    show 0 = (0 + (q - 1 - k)) / q
    rw [Nat.div_eq_of_lt (by omega)]
  | succ n ih =>
    obtain ⟨il, ie⟩ := ih
    by_cases hn : n % q = k
    · have e := verts_succ n q k
      rw [if_pos hn] at e
      have hlen : (verts (n + 1) q k).length = (verts n q k).length + 1 := by rw [e]; simp
      have hq : (verts n q k).length = n / q := by
        rw [il]
        rcases (by omega : q = 1 ∨ q = 2 ∨ q = 3 ∨ q = 4 ∨ q = 5 ∨ q = 6) with rfl | rfl | rfl | rfl | rfl | rfl <;> omega
      refine ⟨?_, fun i h => ?_⟩
      · rw [hlen, hq]
        rcases (by omega : q = 1 ∨ q = 2 ∨ q = 3 ∨ q = 4 ∨ q = 5 ∨ q = 6) with rfl | rfl | rfl | rfl | rfl | rfl <;> omega
      · by_cases hi : i < (verts n q k).length
        · have : (verts (n + 1) q k)[i] = (verts n q k)[i] := by simp only [e]; exact List.getElem_append_left hi
          rw [this]; exact ie i hi
        · have hi' : i = (verts n q k).length := by omega
          subst hi'
          have : (verts (n + 1) q k)[(verts n q k).length] = n := by simp [e]
          rw [this, hq]
          have := Nat.div_add_mod n q
          rw [Nat.mul_comm] at this
          omega
    · have e := verts_succ n q k
      rw [if_neg hn] at e
      refine ⟨?_, fun i h => ?_⟩
      · rw [e, il]
        rcases (by omega : q = 1 ∨ q = 2 ∨ q = 3 ∨ q = 4 ∨ q = 5 ∨ q = 6) with rfl | rfl | rfl | rfl | rfl | rfl <;> omega
      · simp only [e]; exact ie i (by rw [e] at h; exact h)
/-- v stands at place v / q of its home's. -/
theorem verts_at {n q v : Nat} (h1 : 1 ≤ q) (h6 : q ≤ 6) (hv : v < n) : ∃ h : v / q < (verts n q (v % q)).length, (verts n q (v % q))[v / q] = v := by
  obtain ⟨hl, he⟩ := verts_spec n q (v % q) h1 h6 (Nat.mod_lt _ (by omega))
  have hlt : v / q < (verts n q (v % q)).length := by
    rw [hl]
    rcases (by omega : q = 1 ∨ q = 2 ∨ q = 3 ∨ q = 4 ∨ q = 5 ∨ q = 6) with rfl | rfl | rfl | rfl | rfl | rfl <;> omega
  refine ⟨hlt, ?_⟩
  rw [he _ hlt]
  have := Nat.div_add_mod v q
  rw [Nat.mul_comm] at this
  omega
theorem sum_one (a q : Nat) : ((List.range q).map fun k => if a = k then 1 else 0).sum = if a < q then 1 else 0 := by
  induction q with
  | zero => simp
  | succ q ih =>
    rw [List.range_succ, List.map_append, List.sum_append, ih]
    simp only [List.map_cons, List.map_nil, List.sum_cons, List.sum_nil]
    split <;> split <;> split <;> omega
theorem sum_add (f g : Nat → Nat) (l : List Nat) : (l.map fun k => f k + g k).sum = (l.map f).sum + (l.map g).sum := by
  induction l with
  | nil => rfl
  | cons x r ih => simp only [List.map_cons, List.sum_cons, ih]; omega
/-- All homes together have all vertices. -/
theorem verts_sum (n q : Nat) (h1 : 1 ≤ q) : ((List.range q).map fun k => (verts n q k).length).sum = n := by
  induction n with
  | zero =>
    have : ∀ k, (verts 0 q k).length = 0 := fun k => rfl
    simp only [this]
    generalize List.range q = r
    induction r with
    | nil => rfl
    | cons x r ih => simp only [List.map_cons, List.sum_cons, ih]
  | succ n ih =>
    have : ∀ k, (verts (n + 1) q k).length = (verts n q k).length + if n % q = k then 1 else 0 := by
      intro k
      rw [verts_succ]
      split <;> simp
    simp only [this]
    rw [sum_add, ih, sum_one, if_pos (Nat.mod_lt _ (by omega))]
/-- Is a message to a vertex of home k? -/
def toHome (q k : Nat) (m : Ms) : Bool := decide (0 ≤ m.1) && (m.1.toNat % q == k)
/-- The partition k of a state. -/
def cutP (n q : Nat) (S : St) (k : Nat) : Pt := ⟨k, S.step, (verts n q k).map (vAt S.vals), (verts n q k).map (rAt S.rest), S.inn.filter (toHome q k)⟩
def rightP (N : Int) (es : List Ed) (p s l q : Int) (x : Pt) : Bool :=
  decide (jchk N es p s l q = 0) && (decide (0 ≤ x.P ∧ x.P < q) && (decide (0 ≤ x.step ∧ x.step ≤ 40) && (decide (x.vals.length = (verts N.toNat q.toNat x.P.toNat).length) && (decide (x.rest.length = (verts N.toNat q.toNat x.P.toNat).length) && (risB N (-1) x.inn && x.inn.all (toHome q.toNat x.P.toNat))))))
def splitR (N : Int) (es : List Ed) (p s l q : Int) (S : St) : List Pt × Int :=
  if jchk N es p s l q = 0 then (if rightB N es p s l q S = true then ((List.range q.toNat).map (cutP N.toNat q.toNat S), 0) else ([], 1)) else ([], jchk N es p s l q)
def pAt (l : List Pt) (k : Nat) : Pt := l.getD k noPt
theorem pAt_get (l : List Pt) (k : Nat) (h : k < l.length) : pAt l k = l[k] := by unfold pAt; simp [List.getD, List.getElem?_eq_getElem h]
/-- May these be joined? -/
def joinB (N : Int) (es : List Ed) (p s l q : Int) (L : List Pt) : Bool :=
  decide ((L.length : Int) = q) && (List.range L.length).all fun i => decide ((pAt L i).P = i) && (decide ((pAt L i).step = (pAt L 0).step) && rightP N es p s l q (pAt L i))
def joinS (n q : Nat) (L : List Pt) : St :=
  ⟨(pAt L 0).step, (List.range n).map fun v => vAt (pAt L (v % q)).vals (v / q), (List.range n).map fun v => rAt (pAt L (v % q)).rest (v / q), (List.range n).flatMap fun (v : Nat) => (pAt L (v % q)).inn.filter fun m => m.1 == (v : Int)⟩
def joinR (N : Int) (es : List Ed) (p s l q : Int) (L : List Pt) : St × Int :=
  if jchk N es p s l q = 0 then (if joinB N es p s l q L = true then (joinS N.toNat q.toNat L, 0) else (noSt, 1)) else (noSt, jchk N es p s l q)
/-! Rising messages, one vertex after the other. -/
theorem filter_lt {l : List Ms} (h : Ris l) (n : Int) : (l.filter fun m => decide (m.1 < n)) ++ (l.filter fun m => m.1 == n) = l.filter fun m => decide (m.1 < n + 1) := by
  induction l with
  | nil => rfl
  | cons x r ih =>
    obtain ⟨hx, hr⟩ := List.pairwise_cons.1 h
    have ih := ih hr
    by_cases h1 : x.1 < n
    · rw [List.filter_cons_of_pos (by simpa using h1), List.filter_cons_of_neg (by simp; omega), List.filter_cons_of_pos (by simp; omega), List.cons_append, ih]
    · by_cases h2 : x.1 = n
      · have e1 : (r.filter fun m => decide (m.1 < n)) = [] := List.filter_eq_nil_iff.2 fun m hm => by have := hx m hm; simp; omega
        have e2 : (r.filter fun m => m.1 == n) = [] := List.filter_eq_nil_iff.2 fun m hm => by have := hx m hm; simp; omega
        have e3 : (r.filter fun m => decide (m.1 < n + 1)) = [] := List.filter_eq_nil_iff.2 fun m hm => by have := hx m hm; simp; omega
        rw [List.filter_cons_of_neg (by simpa using h1), List.filter_cons_of_pos (by simpa using h2), List.filter_cons_of_pos (by simp; omega), e1, e2, e3]
        rfl
      · rw [List.filter_cons_of_neg (by simpa using h1), List.filter_cons_of_neg (by simpa using h2), List.filter_cons_of_neg (by simp; omega), ih]
theorem flat_ris {l : List Ms} (h : Ris l) (h0 : ∀ m ∈ l, 0 ≤ m.1) (n : Nat) : ((List.range n).flatMap fun (v : Nat) => l.filter fun m => m.1 == (v : Int)) = l.filter fun m => decide (m.1 < (n : Int)) := by
  induction n with
  | zero =>
    have : (l.filter fun m => decide (m.1 < ((0 : Nat) : Int))) = [] := List.filter_eq_nil_iff.2 fun m hm => by have := h0 m hm; simp; omega
    rw [this]; rfl
  | succ n ih =>
    rw [List.range_succ, List.flatMap_append, ih]
    have := filter_lt h (n : Int)
    simp only [List.flatMap_cons, List.flatMap_nil, List.append_nil]
    rw [this]
    rfl
theorem split_len (N : Int) (es : List Ed) (p s l q : Int) (S : St) (k : Nat) (hk : k < q.toNat) : pAt ((List.range q.toNat).map (cutP N.toNat q.toNat S)) k = cutP N.toNat q.toNat S k := by
  rw [pAt_get _ _ (by simpa using hk)]; simp
theorem ris_filter (N : Int) (f : Ms → Bool) : ∀ (l : List Ms) (a b : Int), b ≤ a → risB N a l = true → risB N b (l.filter f) = true := by
  intro l
  induction l with
  | nil => intro a b _ _; rfl
  | cons x r ih =>
    intro a b hab h
    unfold risB at h
    simp only [Bool.and_eq_true, decide_eq_true_eq] at h
    by_cases hf : f x = true
    · rw [List.filter_cons_of_pos hf]
      unfold risB
      simp only [Bool.and_eq_true, decide_eq_true_eq]
      exact ⟨by omega, h.2.1, ih _ _ (Int.le_refl _) h.2.2⟩
    · rw [List.filter_cons_of_neg hf]
      exact ih _ _ (by omega) h.2.2
/-- A partition of a right state is right. -/
theorem cut_right {N : Int} {es : List Ed} {p s l q : Int} {S : St} (h : rightB N es p s l q S = true) (k : Nat) (hk : k < q.toNat) : rightP N es p s l q (cutP N.toNat q.toNat S k) = true := by
  obtain ⟨hj, hs, hv, hr, hm⟩ := right_of h
  unfold rightP cutP
  simp only [Bool.and_eq_true, decide_eq_true_eq, List.length_map, Int.toNat_natCast, List.all_eq_true]
  refine ⟨hj, ⟨by omega, by omega⟩, hs, trivial, trivial, ris_filter N _ _ _ _ (Int.le_refl _) hm, fun m hmm => (List.mem_filter.1 hmm).2⟩
/-- Parted and joined a state is what it was. -/
theorem join_split {N : Int} {es : List Ed} {p s l q : Int} {S : St} (h : rightB N es p s l q S = true) : joinS N.toNat q.toNat ((List.range q.toNat).map (cutP N.toNat q.toNat S)) = S := by
  obtain ⟨hj, hs, hv, hr, hm⟩ := right_of h
  have hb := badJ_not (jchk_zero hj).2
  obtain ⟨hN1, hN2⟩ := jchk_N hj
  have hq1 : 1 ≤ q.toNat := by omega
  have hq6 : q.toNat ≤ 6 := by omega
  have hP : ∀ v, pAt ((List.range q.toNat).map (cutP N.toNat q.toNat S)) (v % q.toNat) = cutP N.toNat q.toNat S (v % q.toNat) := fun v => split_len N es p s l q S _ (Nat.mod_lt _ (by omega))
  have hto := ris_to N (-1) S.inn hm
  obtain ⟨st, vs, rs, ms⟩ := S
  unfold joinS
  simp only [hP]
  have h0 : pAt ((List.range q.toNat).map (cutP N.toNat q.toNat ⟨st, vs, rs, ms⟩)) 0 = cutP N.toNat q.toNat ⟨st, vs, rs, ms⟩ 0 := split_len N es p s l q _ 0 (by omega)
  rw [h0]
  congr 1
  · apply List.ext_getElem
    · simp; dsimp only at hv; omega
    · intro i h1 h2
      simp only [List.length_map, List.length_range] at h1
      obtain ⟨hlt, he⟩ := verts_at (q := q.toNat) hq1 hq6 h1
      simp only [List.getElem_map, List.getElem_range, cutP]
      rw [vAt_get _ _ (by simpa using hlt)]
      simp only [List.getElem_map, he]
      exact vAt_get _ _ h2
  · apply List.ext_getElem
    · simp; dsimp only at hr; omega
    · intro i h1 h2
      simp only [List.length_map, List.length_range] at h1
      obtain ⟨hlt, he⟩ := verts_at (q := q.toNat) hq1 hq6 h1
      simp only [List.getElem_map, List.getElem_range, cutP]
      rw [rAt_get _ _ (by simpa using hlt)]
      simp only [List.getElem_map, he]
      exact rAt_get _ _ h2
  · have hf : ∀ v : Nat, ((cutP N.toNat q.toNat ⟨st, vs, rs, ms⟩ (v % q.toNat)).inn.filter fun m => m.1 == (v : Int)) = ms.filter fun m => m.1 == (v : Int) := by
      intro v
      show ((ms.filter (toHome q.toNat (v % q.toNat))).filter fun m => m.1 == (v : Int)) = _
      rw [List.filter_filter]
      apply List.filter_congr
      intro m hmm
      by_cases e : m.1 = (v : Int)
      · simp [toHome, e]
      · simp [e]
    simp only [hf]
    rw [flat_ris (ris_ris N (-1) ms hm) (fun m hmm => by have := hto m hmm; omega)]
    apply List.filter_eq_self.2
    intro m hmm
    have := hto m hmm
    simp; omega
/-- What came to a state came to its partitions. -/
theorem cut_perm (q : Nat) (hq : 1 ≤ q) (l : List Ms) (h0 : ∀ m ∈ l, 0 ≤ m.1) : ((List.range q).flatMap fun k => l.filter (toHome q k)).Perm l := by
  have key : ∀ n, ((List.range n).flatMap fun k => l.filter (toHome q k)).Perm (l.filter fun m => decide (m.1.toNat % q < n)) := by
    intro n
    induction n with
    | zero =>
      have : (l.filter fun m => decide (m.1.toNat % q < 0)) = [] := List.filter_eq_nil_iff.2 fun m _ => by simp
      rw [this]; exact List.Perm.nil
    | succ n ih =>
      rw [List.range_succ, List.flatMap_append]
      simp only [List.flatMap_cons, List.flatMap_nil, List.append_nil]
      refine (ih.append_right _).trans ?_
      clear ih
      induction l with
      | nil => exact List.Perm.nil
      | cons x r ih =>
        have hx := h0 x (List.mem_cons_self ..)
        have ih := ih fun m hm => h0 m (List.mem_cons_of_mem _ hm)
        by_cases h1 : x.1.toNat % q < n
        · rw [List.filter_cons_of_pos (by simpa using h1), List.filter_cons_of_neg (by simp [toHome, hx]; omega), List.filter_cons_of_pos (by simp; omega)]
          exact ih.cons x
        · by_cases h2 : x.1.toNat % q = n
          · rw [List.filter_cons_of_neg (by simpa using h1), List.filter_cons_of_pos (by simp [toHome, hx, h2]), List.filter_cons_of_pos (by simp; omega)]
            exact List.perm_middle.trans (ih.cons x)
          · rw [List.filter_cons_of_neg (by simpa using h1), List.filter_cons_of_neg (by simp [toHome, hx, h2]), List.filter_cons_of_neg (by simp; omega)]
            exact ih
  refine (key q).trans ?_
  rw [List.filter_eq_self.2 (fun m _ => by simp; exact Nat.mod_lt _ (by omega))]
end Go.Proofs.Ytcaccjfnibjbpaa

