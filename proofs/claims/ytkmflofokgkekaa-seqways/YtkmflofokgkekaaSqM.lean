/-
  Plain mathematics of runs on one machine: states, which are right and quiet, a superstep, a run's states. No condition.
-/
import Derived.Test.YtkmflofokgkekaaProF
import Derived.Test.YtkmflofokgkekaaMat
namespace Go.Proofs.Ytkmflofokgkekaa
open Go.RowKit
set_option linter.unusedVariables false

/-- A state: Step, Vals, Rest, In. -/
structure St where
  step : Int
  vals : List Int
  rest : List Bool
  inn : List Ms
def noSt : St := ⟨0, [], [], []⟩
def vAt (l : List Int) (k : Nat) : Int := l.getD k 0
def rAt (l : List Bool) (k : Nat) : Bool := l.getD k false
theorem vAt_get (l : List Int) (k : Nat) (h : k < l.length) : vAt l k = l[k] := by unfold vAt; simp [List.getD, List.getElem?_eq_getElem h]
theorem rAt_get (l : List Bool) (k : Nat) (h : k < l.length) : rAt l k = l[k] := by unfold rAt; simp [List.getD, List.getElem?_eq_getElem h]

/-- Messages to vertices alone, each to a greater one than the one ahead. -/
def risB (N : Int) : Int → List Ms → Bool
  | _, [] => true
  | a, m :: r => decide (a < m.1) && (decide (m.1 < N) && risB N m.1 r)
theorem ris_to (N a : Int) (l : List Ms) (h : risB N a l = true) : ∀ m ∈ l, a < m.1 ∧ m.1 < N := by
  induction l generalizing a with
  | nil => intro m hm; simp at hm
  | cons x r ih =>
    unfold risB at h
    simp only [Bool.and_eq_true, decide_eq_true_eq] at h
    intro m hm
    rcases List.mem_cons.1 hm with rfl | hm
    · exact ⟨h.1, h.2.1⟩
    · have := ih _ h.2.2 m hm; omega
theorem ris_ris (N a : Int) (l : List Ms) (h : risB N a l = true) : Ris l := by
  induction l generalizing a with
  | nil => exact List.Pairwise.nil
  | cons x r ih =>
    unfold risB at h
    simp only [Bool.and_eq_true, decide_eq_true_eq] at h
    exact List.Pairwise.cons (fun m hm => (ris_to N _ r h.2.2 m hm).1) (ih _ h.2.2)

def allB (l : List Bool) : Bool := l.all fun b => b
def quietB (S : St) : Bool := decide (S.inn.length = 0) && allB S.rest
def rightB (N : Int) (es : List Ed) (p s l q : Int) (S : St) : Bool :=
  decide (jchk N es p s l q = 0) && (decide (0 ≤ S.step ∧ S.step ≤ 40) && (decide ((S.vals.length : Int) = N) && (decide ((S.rest.length : Int) = N) && risB N (-1) S.inn)))
theorem right_of {N : Int} {es : List Ed} {p s l q : Int} {S : St} (h : rightB N es p s l q S = true) :
    jchk N es p s l q = 0 ∧ (0 ≤ S.step ∧ S.step ≤ 40) ∧ (S.vals.length : Int) = N ∧ (S.rest.length : Int) = N ∧ risB N (-1) S.inn = true := by
  unfold rightB at h
  simp only [Bool.and_eq_true, decide_eq_true_eq] at h
  exact h
theorem right_is {N : Int} {es : List Ed} {p s l q : Int} {S : St} (h : jchk N es p s l q = 0 ∧ (0 ≤ S.step ∧ S.step ≤ 40) ∧ (S.vals.length : Int) = N ∧ (S.rest.length : Int) = N ∧ risB N (-1) S.inn = true) : rightB N es p s l q S = true := by
  unfold rightB
  simp only [Bool.and_eq_true, decide_eq_true_eq]
  exact h

/-- What a vertex does in a superstep of a state. -/
def turnS (N : Int) (es : List Ed) (p s l q : Int) (S : St) (v : Nat) : Int × List Ms × Bool × Int :=
  if (rAt S.rest v && !atB S.inn v) = true then (vAt S.vals v, [], true, 0) else turnR N es p s l q S.step v (vAt S.vals v) (atV S.inn v) (atB S.inn v)

/-- The first error of the first k. -/
def firstE (f : Nat → Int) : Nat → Int
  | 0 => 0
  | k + 1 => if firstE f k = 0 then f k else firstE f k
theorem firstE_stay (f : Nat → Int) (k n : Nat) (h : ¬ firstE f k = 0) (hk : k ≤ n) : firstE f n = firstE f k := by
  induction n with
  | zero =>
    obtain rfl : k = 0 := by omega
    rfl
  | succ n ih =>
    by_cases e : k = n + 1
    · rw [e]
    · have := ih (by omega)
      show (if firstE f n = 0 then f n else firstE f n) = firstE f k
      rw [this, if_neg h]
theorem firstE_bad {f : Nat → Int} {k n : Nat} (h : firstE f k = 0) (hk : k < n) (he : ¬ f k = 0) : firstE f n = f k := by
  have h1 : firstE f (k + 1) = f k := by show (if firstE f k = 0 then f k else firstE f k) = f k; rw [if_pos h]
  rw [firstE_stay f (k + 1) n (by rw [h1]; exact he) (by omega), h1]
theorem firstE_ok {f : Nat → Int} {k : Nat} (h : firstE f k = 0) (he : f k = 0) : firstE f (k + 1) = 0 := by
  show (if firstE f k = 0 then f k else firstE f k) = 0; rw [if_pos h, he]
theorem firstE_zero {f : Nat → Int} {n : Nat} (h : firstE f n = 0) : ∀ k, k < n → f k = 0 := by
  intro k hk
  by_cases h0 : firstE f k = 0
  · by_cases he : f k = 0
    · exact he
    · exact absurd ((firstE_bad h0 hk he).symm.trans h) he
  · exact absurd ((firstE_stay f k n h0 (by omega)).symm.trans h) h0

def valsL (T : Nat → Int × List Ms × Bool × Int) (k : Nat) : List Int := (List.range k).map fun v => (T v).1
def restL (T : Nat → Int × List Ms × Bool × Int) (k : Nat) : List Bool := (List.range k).map fun v => (T v).2.2.1
def sentL (T : Nat → Int × List Ms × Bool × Int) (k : Nat) : List Ms := (List.range k).flatMap fun v => (T v).2.1
def errL (T : Nat → Int × List Ms × Bool × Int) (k : Nat) : Int := firstE (fun v => (T v).2.2.2) k
theorem valsL_succ (T : Nat → Int × List Ms × Bool × Int) (k : Nat) : valsL T (k + 1) = valsL T k ++ [(T k).1] := by unfold valsL; simp [List.range_succ]
theorem restL_succ (T : Nat → Int × List Ms × Bool × Int) (k : Nat) : restL T (k + 1) = restL T k ++ [(T k).2.2.1] := by unfold restL; simp [List.range_succ]
theorem sentL_succ (T : Nat → Int × List Ms × Bool × Int) (k : Nat) : sentL T (k + 1) = sentL T k ++ (T k).2.1 := by unfold sentL; simp [List.range_succ]
theorem valsL_len (T : Nat → Int × List Ms × Bool × Int) (k : Nat) : (valsL T k).length = k := by unfold valsL; simp
theorem restL_len (T : Nat → Int × List Ms × Bool × Int) (k : Nat) : (restL T k).length = k := by unfold restL; simp
theorem sentL_len (T : Nat → Int × List Ms × Bool × Int) (h : ∀ v, (T v).2.1.length ≤ 80) (k : Nat) : (sentL T k).length ≤ 80 * k := by
  induction k with
  | zero => simp [sentL]
  | succ k ih => rw [sentL_succ, List.length_append]; have := h k; omega
theorem valsL_at (T : Nat → Int × List Ms × Bool × Int) (n k : Nat) (h : k < n) : vAt (valsL T n) k = (T k).1 := by
  rw [vAt_get _ _ (by rw [valsL_len]; exact h)]; unfold valsL; simp
theorem restL_at (T : Nat → Int × List Ms × Bool × Int) (n k : Nat) (h : k < n) : rAt (restL T n) k = (T k).2.2.1 := by
  rw [rAt_get _ _ (by rw [restL_len]; exact h)]; unfold restL; simp
theorem sentL_mem {T : Nat → Int × List Ms × Bool × Int} {n : Nat} {m : Ms} : m ∈ sentL T n ↔ ∃ v, v < n ∧ m ∈ (T v).2.1 := by
  unfold sentL; simp [List.mem_flatMap]

/-- What a superstep of a right state comes to. -/
def superR (N : Int) (es : List Ed) (p s l q : Int) (S : St) : St × Int :=
  if errL (turnS N es p s l q S) N.toNat = 0 then
    if fdC p (sentL (turnS N es p s l q S) N.toNat) = 0 then
      (⟨S.step + 1, valsL (turnS N es p s l q S) N.toNat, restL (turnS N es p s l q S) N.toNat, fdR p (sentL (turnS N es p s l q S) N.toNat)⟩, 0)
    else (noSt, fdC p (sentL (turnS N es p s l q S) N.toNat))
  else (noSt, errL (turnS N es p s l q S) N.toNat)
def stepR (N : Int) (es : List Ed) (p s l q : Int) (S : St) : St × Int :=
  if jchk N es p s l q = 0 then
    if rightB N es p s l q S = true then (if S.step = 40 then (noSt, 6) else superR N es p s l q S) else (noSt, 1)
  else (noSt, jchk N es p s l q)
def beginS (N p s : Int) : St := ⟨0, (List.range N.toNat).map fun (v : Nat) => startI p s v, List.replicate N.toNat false, []⟩
def beginR (N : Int) (es : List Ed) (p s l q : Int) : St × Int := if jchk N es p s l q = 0 then (beginS N p s, 0) else (noSt, jchk N es p s l q)
/-- The next state and 0, or the kind with which the run ends here. -/
def onwR (N : Int) (es : List Ed) (p s l q : Int) (S : St) : St × Int :=
  if quietB S = true then (noSt, 1) else if S.step = l then (noSt, 3) else if (stepR N es p s l q S).2 = 0 then ((stepR N es p s l q S).1, 0) else (noSt, 2)
/-- The run's state of Step k. -/
def stAt (N : Int) (es : List Ed) (p s l q : Int) : Nat → Option St
  | 0 => some (beginS N p s)
  | k + 1 => match stAt N es p s l q k with
    | some S => if (onwR N es p s l q S).2 = 0 then some (onwR N es p s l q S).1 else none
    | none => none

/-- Numbers of 64 bits, and not too many of all. -/
structure Ok (S : St) : Prop where
  st : bd S.step
  v : ∀ x ∈ S.vals, bd x
  m : ∀ e ∈ S.inn, bd e.2
  lv : S.vals.length ≤ 1000000
  lr : S.rest.length ≤ 1000000
  lm : S.inn.length ≤ 1000000
theorem bd0 : bd 0 := ⟨by decide, by decide⟩
theorem Ok.no : Ok noSt := ⟨bd0, fun _ h => by simp [noSt] at h, fun _ h => by simp [noSt] at h, by simp [noSt], by simp [noSt], by simp [noSt]⟩
theorem Ok.vAt {S : St} (h : Ok S) (k : Nat) : bd (vAt S.vals k) := by
  by_cases hk : k < S.vals.length
  · rw [vAt_get _ _ hk]; exact h.v _ (List.getElem_mem hk)
  · unfold Go.Proofs.Ytkmflofokgkekaa.vAt; rw [List.getD_eq_getElem?_getD, List.getElem?_eq_none (by omega)]; exact bd0
theorem atV_bd {l : List Ms} (h : ∀ e ∈ l, bd e.2) (v : Int) : bd (atV l v) := by
  unfold atV
  cases hf : l.find? fun m => decide (m.1 = v) with
  | none => exact bd0
  | some m => exact h m (List.mem_of_find?_eq_some hf)
theorem alX_bd {p now : Int} {e : Ed} {m : Int} (h : bd now) : bd (alX p now e m) := by
  unfold alX
  split
  · exact told_bd _
  · split
    · exact told_bd _
    · split
      · exact quoV_bd _ _ _
      · exact h
theorem turnR_bd {N : Int} {es : List Ed} {p s l q st v val got : Int} {sm : Bool} (hv : bd val) (hg : bd got) :
    bd (turnR N es p s l q st v val got sm).1 ∧ ∀ e ∈ (turnR N es p s l q st v val got sm).2.1, bd e.2 := by
  have hx := valX_bd (p := p) (st := st) (sm := sm) hv hg
  have h0 : ∀ (x : Int) (b : Bool) (e : Int), bd x → bd ((x, ([] : List Ms), b, e) : Int × List Ms × Bool × Int).1 ∧ ∀ m ∈ ((x, ([] : List Ms), b, e) : Int × List Ms × Bool × Int).2.1, bd m.2 := fun x b e h => ⟨h, fun m hm => by simp at hm⟩
  unfold turnR
  split
  · split
    · exact h0 _ _ _ bd0
    · split
      · split
        · split
          · refine ⟨hx, fun m hm => ?_⟩
            simp only [msgL, List.mem_map] at hm
            obtain ⟨e, _, rfl⟩ := hm
            exact alX_bd hx
          · exact h0 _ _ _ bd0
        · exact h0 _ _ _ hx
      · exact h0 _ _ _ bd0
  · exact h0 _ _ _ bd0
theorem turnR_len (N : Int) (es : List Ed) (p s l q st v val got : Int) (sm : Bool) : (turnR N es p s l q st v val got sm).2.1.length ≤ 80 := by
  unfold turnR
  split
  · rename_i hv
    have := out_len N es v (chk_zero (jchk_zero (vchk_zero hv).1).1).2.2.1
    split
    · simp
    · split
      · split
        · split
          · simpa [msgL] using this
          · simp
        · simp
      · simp
  · simp
theorem turnS_bd {N : Int} {es : List Ed} {p s l q : Int} {S : St} (h : Ok S) (v : Nat) : bd (turnS N es p s l q S v).1 ∧ ∀ e ∈ (turnS N es p s l q S v).2.1, bd e.2 := by
  unfold turnS
  split
  · exact ⟨h.vAt v, fun e he => by simp at he⟩
  · exact turnR_bd (h.vAt v) (atV_bd h.m _)
theorem turnS_len (N : Int) (es : List Ed) (p s l q : Int) (S : St) (v : Nat) : (turnS N es p s l q S v).2.1.length ≤ 80 := by
  unfold turnS
  split
  · simp
  · exact turnR_len ..
theorem sentL_bd {N : Int} {es : List Ed} {p s l q : Int} {S : St} (h : Ok S) (k : Nat) : ∀ e ∈ sentL (turnS N es p s l q S) k, bd e.2 := by
  intro e he
  obtain ⟨v, _, hv⟩ := sentL_mem.1 he
  exact (turnS_bd h v).2 e hv
theorem fl_len (p : Int) (r : List Ms) : ∀ (m : Ms) (y : List Ms), fl p m r = some y → y.length ≤ r.length + 1 := by
  induction r with
  | nil => intro m y h; simp only [fl, Option.some.injEq] at h; subst h; simp
  | cons x r ih =>
    intro m y h
    by_cases hx : x.1 = m.1
    · by_cases he : fdE p m.2 x.2 = 0
      · rw [fl_same hx he] at h
        have := ih _ _ h
        simp; omega
      · rw [fl_none hx he] at h; cases h
    · rw [fl_next hx] at h
      cases hf : fl p x r with
      | none => rw [hf] at h; cases h
      | some z =>
        rw [hf] at h
        injection h with h
        subst h
        have := ih _ _ hf
        simp; omega
theorem fdR_len (p : Int) (l : List Ms) : (fdR p l).length ≤ l.length + 1 := by
  unfold fdR
  split
  · cases hl : msort l with
    | nil => simp [fdL]
    | cons m r =>
      have hlen := msort_len l
      rw [hl] at hlen
      cases hf : fdL p (m :: r) with
      | none => simp
      | some y =>
        have := fl_len p r m y hf
        simp at hlen ⊢
        omega
  · simp
theorem fdR_bd {p : Int} {l : List Ms} (h : ∀ e ∈ l, bd e.2) : ∀ e ∈ fdR p l, bd e.2 := by
  unfold fdR
  split
  · cases hf : fdL p (msort l) with
    | none => intro e he; simp at he
    | some y => exact (fold_some h hf).2.2
  · intro e he; simp at he

theorem super_ok {N : Int} {es : List Ed} {p s l q : Int} {S : St} (h : Ok S) (hN : N ≤ 24) (hs : S.step ≤ 40) : Ok (superR N es p s l q S).1 := by
  unfold superR
  split
  · split
    · have h1 := sentL_len (turnS N es p s l q S) (turnS_len N es p s l q S) N.toNat
      have h2 := fdR_len p (sentL (turnS N es p s l q S) N.toNat)
      have h3 := h.st
      refine ⟨?_, ?_, fdR_bd (sentL_bd h _), ?_, ?_, ?_⟩
      · unfold bd at h3 ⊢; dsimp only; omega
      · intro x hx
        simp only [valsL, List.mem_map] at hx
        obtain ⟨v, _, rfl⟩ := hx
        exact (turnS_bd h v).1
      · show (valsL _ _).length ≤ _; rw [valsL_len]; omega
      · show (restL _ _).length ≤ _; rw [restL_len]; omega
      · dsimp only; omega
    · exact Ok.no
  · exact Ok.no
theorem jchk_N {N : Int} {es : List Ed} {p s l q : Int} (h : jchk N es p s l q = 0) : 1 ≤ N ∧ N ≤ 24 := ⟨(chk_zero (jchk_zero h).1).1, (chk_zero (jchk_zero h).1).2.1⟩
theorem step_ok {N : Int} {es : List Ed} {p s l q : Int} {S : St} (h : Ok S) : Ok (stepR N es p s l q S).1 := by
  unfold stepR
  split
  · rename_i hj
    split
    · rename_i hr
      split
      · exact Ok.no
      · exact super_ok h (jchk_N hj).2 (right_of hr).2.1.2
    · exact Ok.no
  · exact Ok.no
theorem onw_ok {N : Int} {es : List Ed} {p s l q : Int} {S : St} (h : Ok S) : Ok (onwR N es p s l q S).1 := by
  unfold onwR
  split
  · exact Ok.no
  · split
    · exact Ok.no
    · split
      · exact step_ok h
      · exact Ok.no
theorem startI_bd (p s v : Int) (h : bd v) : bd (startI p s v) := by
  unfold startI
  split
  · exact h
  · split
    · unfold markI
      have := wrap64_bd (wrap64 (wrap64 (31 * v) * v) + 7)
      unfold bd
      have h1 := Int.tmod_lt_of_pos (wrap64 (wrap64 (wrap64 (31 * v) * v) + 7)) (show (0 : Int) < 1009 by decide)
      have h2 := Int.lt_tmod_of_pos (wrap64 (wrap64 (wrap64 (31 * v) * v) + 7)) (show (0 : Int) < 1009 by decide)
      omega
    · split
      · exact ⟨by decide, by decide⟩
      · split
        · exact bd0
        · exact ⟨by decide, by decide⟩
theorem begin_ok {N p s : Int} (hN : N ≤ 24) : Ok (beginS N p s) := by
  refine ⟨bd0, ?_, fun e he => by simp [beginS] at he, ?_, ?_, by simp [beginS]⟩
  · intro x hx
    simp only [beginS, List.mem_map, List.mem_range] at hx
    obtain ⟨v, hv, rfl⟩ := hx
    exact startI_bd _ _ _ ⟨by omega, by omega⟩
  · simp [beginS]; omega
  · simp [beginS]; omega

/-! The run. -/
theorem stAt_next {N : Int} {es : List Ed} {p s l q : Int} {k : Nat} {S : St} (h : stAt N es p s l q k = some S) (h0 : (onwR N es p s l q S).2 = 0) : stAt N es p s l q (k + 1) = some (onwR N es p s l q S).1 := by
  show (match stAt N es p s l q k with | some S => if (onwR N es p s l q S).2 = 0 then some (onwR N es p s l q S).1 else none | none => none) = _
  rw [h]; simp only [h0, if_true]
theorem stAt_end {N : Int} {es : List Ed} {p s l q : Int} {k : Nat} {S : St} (h : stAt N es p s l q k = some S) (h0 : ¬ (onwR N es p s l q S).2 = 0) : ∀ n, k < n → stAt N es p s l q n = none := by
  intro n hn
  induction n with
  | zero => omega
  | succ n ih =>
    show (match stAt N es p s l q n with | some S => if (onwR N es p s l q S).2 = 0 then some (onwR N es p s l q S).1 else none | none => none) = _
    by_cases e : n = k
    · subst e; rw [h]; simp only [h0, if_false]
    · rw [ih (by omega)]
theorem stAt_prev {N : Int} {es : List Ed} {p s l q : Int} {k : Nat} {S : St} (h : stAt N es p s l q (k + 1) = some S) : ∃ S0, stAt N es p s l q k = some S0 ∧ (onwR N es p s l q S0).2 = 0 ∧ S = (onwR N es p s l q S0).1 := by
  have h' : (match stAt N es p s l q k with | some S => if (onwR N es p s l q S).2 = 0 then some (onwR N es p s l q S).1 else none | none => none) = some S := h
  cases hk : stAt N es p s l q k with
  | none => rw [hk] at h'; cases h'
  | some S0 =>
    rw [hk] at h'
    by_cases h0 : (onwR N es p s l q S0).2 = 0
    · simp only [h0, if_true] at h'
      injection h' with h'
      exact ⟨S0, rfl, h0, h'.symm⟩
    · simp only [h0, if_false] at h'
      cases h'
theorem onw_zero {N : Int} {es : List Ed} {p s l q : Int} {S : St} (h : (onwR N es p s l q S).2 = 0) : quietB S = false ∧ ¬ S.step = l ∧ (stepR N es p s l q S).2 = 0 ∧ (onwR N es p s l q S).1 = (stepR N es p s l q S).1 := by
  unfold onwR at h ⊢
  by_cases h1 : quietB S = true
  · rw [if_pos h1] at h; cases h
  · rw [if_neg h1] at h ⊢
    by_cases h2 : S.step = l
    · rw [if_pos h2] at h; cases h
    · rw [if_neg h2] at h ⊢
      by_cases h3 : (stepR N es p s l q S).2 = 0
      · rw [if_pos h3] at h ⊢
        exact ⟨by simpa using h1, h2, h3, rfl⟩
      · rw [if_neg h3] at h; cases h
theorem step_zero {N : Int} {es : List Ed} {p s l q : Int} {S : St} (h : (stepR N es p s l q S).2 = 0) : jchk N es p s l q = 0 ∧ rightB N es p s l q S = true ∧ ¬ S.step = 40 ∧ stepR N es p s l q S = superR N es p s l q S := by
  unfold stepR at h ⊢
  by_cases h1 : jchk N es p s l q = 0
  · rw [if_pos h1] at h ⊢
    by_cases h2 : rightB N es p s l q S = true
    · rw [if_pos h2] at h ⊢
      by_cases h3 : S.step = 40
      · rw [if_pos h3] at h; cases h
      · rw [if_neg h3] at h ⊢
        exact ⟨h1, h2, h3, rfl⟩
    · rw [if_neg h2] at h; cases h
  · rw [if_neg h1] at h; exact absurd h h1
theorem super_zero {N : Int} {es : List Ed} {p s l q : Int} {S : St} (h : (superR N es p s l q S).2 = 0) :
    errL (turnS N es p s l q S) N.toNat = 0 ∧ fdC p (sentL (turnS N es p s l q S) N.toNat) = 0 ∧
    (superR N es p s l q S).1 = ⟨S.step + 1, valsL (turnS N es p s l q S) N.toNat, restL (turnS N es p s l q S) N.toNat, fdR p (sentL (turnS N es p s l q S) N.toNat)⟩ := by
  unfold superR at h ⊢
  by_cases h1 : errL (turnS N es p s l q S) N.toNat = 0
  · rw [if_pos h1] at h ⊢
    by_cases h2 : fdC p (sentL (turnS N es p s l q S) N.toNat) = 0
    · rw [if_pos h2] at h ⊢
      exact ⟨h1, h2, rfl⟩
    · rw [if_neg h2] at h; exact absurd h h2
  · rw [if_neg h1] at h; exact absurd h h1
theorem onw_next {N : Int} {es : List Ed} {p s l q : Int} {S : St} (h : (onwR N es p s l q S).2 = 0) : (onwR N es p s l q S).1 = (superR N es p s l q S).1 ∧ (superR N es p s l q S).2 = 0 ∧ rightB N es p s l q S = true := by
  obtain ⟨_, _, h3, h4⟩ := onw_zero h
  obtain ⟨_, h5, _, h6⟩ := step_zero h3
  exact ⟨by rw [h4, h6], by rw [← h6]; exact h3, h5⟩
theorem stAt_step {N : Int} {es : List Ed} {p s l q : Int} (k : Nat) : ∀ {S : St}, stAt N es p s l q k = some S → S.step = k := by
  induction k with
  | zero => intro S h; injection h with h; subst h; rfl
  | succ k ih =>
    intro S h
    obtain ⟨S0, h0, h1, rfl⟩ := stAt_prev h
    obtain ⟨h2, h3, _⟩ := onw_next h1
    rw [h2, (super_zero h3).2.2]
    have := ih h0
    simp only [this]; omega
theorem stAt_ok {N : Int} {es : List Ed} {p s l q : Int} (hN : N ≤ 24) (k : Nat) : ∀ {S : St}, stAt N es p s l q k = some S → Ok S := by
  induction k with
  | zero => intro S h; injection h with h; subst h; exact begin_ok hN
  | succ k ih =>
    intro S h
    obtain ⟨S0, h0, h1, rfl⟩ := stAt_prev h
    exact onw_ok (ih h0)
theorem stAt_le {N : Int} {es : List Ed} {p s l q : Int} (hl : 0 ≤ l) (k : Nat) : ∀ {S : St}, stAt N es p s l q k = some S → (k : Int) ≤ l := by
  induction k with
  | zero => intro S h; simpa using hl
  | succ k ih =>
    intro S h
    obtain ⟨S0, h0, h1, rfl⟩ := stAt_prev h
    have h2 := (onw_zero h1).2.1
    have h3 := ih h0
    rw [stAt_step k h0] at h2
    omega
/-- A run ends once. -/
theorem end_uniq {N : Int} {es : List Ed} {p s l q : Int} {k k' : Nat} {S S' : St} (h : stAt N es p s l q k = some S) (h0 : ¬ (onwR N es p s l q S).2 = 0) (h' : stAt N es p s l q k' = some S') (h0' : ¬ (onwR N es p s l q S').2 = 0) : k = k' ∧ S = S' := by
  have e : k = k' := by
    rcases Nat.lt_trichotomy k k' with hl | hl | hl
    · rw [stAt_end h h0 k' hl] at h'; cases h'
    · exact hl
    · rw [stAt_end h' h0' k hl] at h; cases h
  subst e
  rw [h] at h'
  injection h' with h'
  exact ⟨rfl, h'⟩
theorem stAt_some {N : Int} {es : List Ed} {p s l q : Int} {n : Nat} {S : St} (h : stAt N es p s l q n = some S) : ∀ k, k ≤ n → ∃ S', stAt N es p s l q k = some S' := by
  induction n generalizing S with
  | zero =>
    intro k hk
    obtain rfl : k = 0 := by omega
    exact ⟨_, h⟩
  | succ n ih =>
    intro k hk
    by_cases e : k = n + 1
    · subst e; exact ⟨_, h⟩
    · obtain ⟨S0, h0, _⟩ := stAt_prev h
      exact ih h0 k (by omega)

end Go.Proofs.Ytkmflofokgkekaa
