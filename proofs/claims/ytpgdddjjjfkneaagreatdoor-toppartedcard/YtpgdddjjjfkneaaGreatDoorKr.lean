import Derived.Test.YtpgdddjjjfkneaaGreatDoorKe
import Derived.Test.YtpgdddjjjfkneaaGreatDoorKm
/-
  Plain mathematics of runs on one machine: states, which are right and quiet, a superstep, a run's states. No condition.
-/
namespace Go.Proofs.YtpgdddjjjfkneaaGreatDoor
open Go.RowKit
set_option linter.unusedVariables false

/-- A state: Step, Vals, Rest, In. -/
structure St where
  step : Int
  vals : List Int
  rest : List Bool
  inn : List Ms
def noSt : St := ⟨0, [], [], []⟩
def vAt (l : List Int) (k : Nat) : Int := l.getD k 0
def rAt (l : List Bool) (k : Nat) : Bool := l.getD k false
theorem vAt_get (l : List Int) (k : Nat) (h : k < l.length) : vAt l k = l[k] := by unfold vAt; simp [List.getD, List.getElem?_eq_getElem h]
theorem rAt_get (l : List Bool) (k : Nat) (h : k < l.length) : rAt l k = l[k] := by unfold rAt; simp [List.getD, List.getElem?_eq_getElem h]
/-- Messages to vertices alone, each to a greater one than the one ahead. -/
def risB (N : Int) : Int → List Ms → Bool
  | _, [] => true
  | a, m :: r => decide (a < m.1) && (decide (m.1 < N) && risB N m.1 r)
def rightB (N : Int) (es : List Ed) (p s l q : Int) (S : St) : Bool :=
  decide (jchk N es p s l q = 0) && (decide (0 ≤ S.step ∧ S.step ≤ 40) && (decide ((S.vals.length : Int) = N) && (decide ((S.rest.length : Int) = N) && risB N (-1) S.inn)))
theorem right_of {N : Int} {es : List Ed} {p s l q : Int} {S : St} (h : rightB N es p s l q S = true) :
    jchk N es p s l q = 0 ∧ (0 ≤ S.step ∧ S.step ≤ 40) ∧ (S.vals.length : Int) = N ∧ (S.rest.length : Int) = N ∧ risB N (-1) S.inn = true := by
  unfold rightB at h
  simp only [Bool.and_eq_true, decide_eq_true_eq] at h
  exact h
theorem right_is {N : Int} {es : List Ed} {p s l q : Int} {S : St} (h : jchk N es p s l q = 0 ∧ (0 ≤ S.step ∧ S.step ≤ 40) ∧ (S.vals.length : Int) = N ∧ (S.rest.length : Int) = N ∧ risB N (-1) S.inn = true) : rightB N es p s l q S = true := by
  unfold rightB
  simp only [Bool.and_eq_true, decide_eq_true_eq]
  exact h
/-- What a vertex does in a superstep of a state. -/
def turnS (N : Int) (es : List Ed) (p s l q : Int) (S : St) (v : Nat) : Int × List Ms × Bool × Int :=
  if (rAt S.rest v && !atB S.inn v) = true then (vAt S.vals v, [], true, 0) else turnR N es p s l q S.step v (vAt S.vals v) (atV S.inn v) (atB S.inn v)
/-- The first error of the first k. -/
def firstE (f : Nat → Int) : Nat → Int
  | 0 => 0
  | k + 1 => if firstE f k = 0 then f k else firstE f k
theorem firstE_stay (f : Nat → Int) (k n : Nat) (h : ¬ firstE f k = 0) (hk : k ≤ n) : firstE f n = firstE f k := by
  induction n with
  | zero =>
    obtain rfl : k = 0 := by omega
    rfl
  | succ n ih =>
    by_cases e : k = n + 1
    · rw [e]
    · have := ih (by omega)
      show (if firstE f n = 0 then f n else firstE f n) = firstE f k
      rw [this, if_neg h]
theorem firstE_bad {f : Nat → Int} {k n : Nat} (h : firstE f k = 0) (hk : k < n) (he : ¬ f k = 0) : firstE f n = f k := by
  have h1 : firstE f (k + 1) = f k := by show (if firstE f k = 0 then f k else firstE f k) = f k; rw [if_pos h]
  rw [firstE_stay f (k + 1) n (by rw [h1]; exact he) (by omega), h1]
theorem firstE_ok {f : Nat → Int} {k : Nat} (h : firstE f k = 0) (he : f k = 0) : firstE f (k + 1) = 0 := by
  show (if firstE f k = 0 then f k else firstE f k) = 0; rw [if_pos h, he]
theorem firstE_zero {f : Nat → Int} {n : Nat} (h : firstE f n = 0) : ∀ k, k < n → f k = 0 := by
  intro k hk
  by_cases h0 : firstE f k = 0
  · by_cases he : f k = 0
    · exact he
    · exact absurd ((firstE_bad h0 hk he).symm.trans h) he
  · exact absurd ((firstE_stay f k n h0 (by omega)).symm.trans h) h0
def valsL (T : Nat → Int × List Ms × Bool × Int) (k : Nat) : List Int := (List.range k).map fun v => (T v).1
def restL (T : Nat → Int × List Ms × Bool × Int) (k : Nat) : List Bool := (List.range k).map fun v => (T v).2.2.1
def sentL (T : Nat → Int × List Ms × Bool × Int) (k : Nat) : List Ms := (List.range k).flatMap fun v => (T v).2.1
def errL (T : Nat → Int × List Ms × Bool × Int) (k : Nat) : Int := firstE (fun v => (T v).2.2.2) k
theorem valsL_succ (T : Nat → Int × List Ms × Bool × Int) (k : Nat) : valsL T (k + 1) = valsL T k ++ [(T k).1] := by unfold valsL; simp [List.range_succ]
theorem restL_succ (T : Nat → Int × List Ms × Bool × Int) (k : Nat) : restL T (k + 1) = restL T k ++ [(T k).2.2.1] := by unfold restL; simp [List.range_succ]
theorem sentL_succ (T : Nat → Int × List Ms × Bool × Int) (k : Nat) : sentL T (k + 1) = sentL T k ++ (T k).2.1 := by unfold sentL; simp [List.range_succ]
theorem valsL_len (T : Nat → Int × List Ms × Bool × Int) (k : Nat) : (valsL T k).length = k := by unfold valsL; simp
theorem restL_len (T : Nat → Int × List Ms × Bool × Int) (k : Nat) : (restL T k).length = k := by unfold restL; simp
theorem sentL_len (T : Nat → Int × List Ms × Bool × Int) (h : ∀ v, (T v).2.1.length ≤ 80) (k : Nat) : (sentL T k).length ≤ 80 * k := by
  induction k with
  | zero => simp [sentL]
  | succ k ih => rw [sentL_succ, List.length_append]; have := h k; omega
theorem valsL_at (T : Nat → Int × List Ms × Bool × Int) (n k : Nat) (h : k < n) : vAt (valsL T n) k = (T k).1 := by
  rw [vAt_get _ _ (by rw [valsL_len]; exact h)]; unfold valsL; simp
theorem restL_at (T : Nat → Int × List Ms × Bool × Int) (n k : Nat) (h : k < n) : rAt (restL T n) k = (T k).2.2.1 := by
  rw [rAt_get _ _ (by rw [restL_len]; exact h)]; unfold restL; simp
theorem sentL_mem {T : Nat → Int × List Ms × Bool × Int} {n : Nat} {m : Ms} : m ∈ sentL T n ↔ ∃ v, v < n ∧ m ∈ (T v).2.1 := by
  unfold sentL; simp [List.mem_flatMap]
/-- What a superstep of a right state comes to. -/
def superR (N : Int) (es : List Ed) (p s l q : Int) (S : St) : St × Int :=
  if errL (turnS N es p s l q S) N.toNat = 0 then
    if fdC p (sentL (turnS N es p s l q S) N.toNat) = 0 then
      (⟨S.step + 1, valsL (turnS N es p s l q S) N.toNat, restL (turnS N es p s l q S) N.toNat, fdR p (sentL (turnS N es p s l q S) N.toNat)⟩, 0)
    else (noSt, fdC p (sentL (turnS N es p s l q S) N.toNat))
  else (noSt, errL (turnS N es p s l q S) N.toNat)
def stepR (N : Int) (es : List Ed) (p s l q : Int) (S : St) : St × Int :=
  if jchk N es p s l q = 0 then
    if rightB N es p s l q S = true then (if S.step = 40 then (noSt, 6) else superR N es p s l q S) else (noSt, 1)
  else (noSt, jchk N es p s l q)
def beginS (N p s : Int) : St := ⟨0, (List.range N.toNat).map fun (v : Nat) => startI p s v, List.replicate N.toNat false, []⟩
/-- Numbers of 62 bits, and not too many of all. -/
structure Ok (S : St) : Prop where
  st : bd S.step
  v : ∀ x ∈ S.vals, bd x
  m : ∀ e ∈ S.inn, bd e.2
  lv : S.vals.length ≤ 1000000
  lr : S.rest.length ≤ 1000000
  lm : S.inn.length ≤ 1000000
theorem bd0 : bd 0 := ⟨by decide, by decide⟩
theorem Ok.no : Ok noSt := ⟨bd0, fun _ h => by simp [noSt] at h, fun _ h => by simp [noSt] at h, by simp [noSt], by simp [noSt], by simp [noSt]⟩
theorem Ok.vAt {S : St} (h : Ok S) (k : Nat) : bd (vAt S.vals k) := by
  by_cases hk : k < S.vals.length
  · rw [vAt_get _ _ hk]; exact h.v _ (List.getElem_mem hk)
  · unfold Go.Proofs.YtpgdddjjjfkneaaGreatDoor.vAt; rw [List.getD_eq_getElem?_getD, List.getElem?_eq_none (by omega)]; exact bd0
theorem atV_bd {l : List Ms} (h : ∀ e ∈ l, bd e.2) (v : Int) : bd (atV l v) := by
  unfold atV
  cases hf : l.find? fun m => decide (m.1 = v) with
  | none => exact bd0
  | some m => exact h m (List.mem_of_find?_eq_some hf)
theorem alX_bd {p now : Int} {e : Ed} {m : Int} (h : bd now) : bd (alX p now e m) := by
  unfold alX
  split
  · exact told_bd _
  · split
    · exact told_bd _
    · split
      · exact quoV_bd _ _ _
      · exact h
theorem turnR_bd {N : Int} {es : List Ed} {p s l q st v val got : Int} {sm : Bool} (hv : bd val) (hg : bd got) :
    bd (turnR N es p s l q st v val got sm).1 ∧ ∀ e ∈ (turnR N es p s l q st v val got sm).2.1, bd e.2 := by
  have hx := valX_bd (p := p) (st := st) (sm := sm) hv hg
  have h0 : ∀ (x : Int) (b : Bool) (e : Int), bd x → bd ((x, ([] : List Ms), b, e) : Int × List Ms × Bool × Int).1 ∧ ∀ m ∈ ((x, ([] : List Ms), b, e) : Int × List Ms × Bool × Int).2.1, bd m.2 := fun x b e h => ⟨h, fun m hm => by simp at hm⟩
  unfold turnR
  split
  · split
    · exact h0 _ _ _ bd0
    · split
      · split
        · split
          · refine ⟨hx, fun m hm => ?_⟩
            simp only [msgL, List.mem_map] at hm
            obtain ⟨e, _, rfl⟩ := hm
            exact alX_bd hx
          · exact h0 _ _ _ bd0
        · exact h0 _ _ _ hx
      · exact h0 _ _ _ bd0
  · exact h0 _ _ _ bd0
theorem turnR_len (N : Int) (es : List Ed) (p s l q st v val got : Int) (sm : Bool) : (turnR N es p s l q st v val got sm).2.1.length ≤ 80 := by
  unfold turnR
  split
  · rename_i hv
    have := out_len N es v (chk_zero (jchk_zero (vchk_zero hv).1).1).2.2.1
    split
    · simp
    · split
      · split
        · split
          · simpa [msgL] using this
          · simp
        · simp
      · simp
  · simp
theorem turnS_bd {N : Int} {es : List Ed} {p s l q : Int} {S : St} (h : Ok S) (v : Nat) : bd (turnS N es p s l q S v).1 ∧ ∀ e ∈ (turnS N es p s l q S v).2.1, bd e.2 := by
  unfold turnS
  split
  · exact ⟨h.vAt v, fun e he => by simp at he⟩
  · exact turnR_bd (h.vAt v) (atV_bd h.m _)
theorem sentL_bd {N : Int} {es : List Ed} {p s l q : Int} {S : St} (h : Ok S) (k : Nat) : ∀ e ∈ sentL (turnS N es p s l q S) k, bd e.2 := by
  intro e he
  obtain ⟨v, _, hv⟩ := sentL_mem.1 he
  exact (turnS_bd h v).2 e hv
theorem fl_len (p : Int) (r : List Ms) : ∀ (m : Ms) (y : List Ms), fl p m r = some y → y.length ≤ r.length + 1 := by
  induction r with
  | nil => intro m y h; simp only [fl, Option.some.injEq] at h; subst h; simp
  | cons x r ih =>
    intro m y h
    by_cases hx : x.1 = m.1
    · by_cases he : fdE p m.2 x.2 = 0
      · rw [fl_same hx he] at h
        have := ih _ _ h
        simp; omega
      · rw [fl_none hx he] at h; cases h
    · rw [fl_next hx] at h
      cases hf : fl p x r with
      | none => rw [hf] at h; cases h
      | some z =>
        rw [hf] at h
        injection h with h
        subst h
        have := ih _ _ hf
        simp; omega
theorem fdR_len (p : Int) (l : List Ms) : (fdR p l).length ≤ l.length + 1 := by
  unfold fdR
  split
  · cases hl : msort l with
    | nil => simp [fdL]
    | cons m r =>
      have hlen := msort_len l
      rw [hl] at hlen
      cases hf : fdL p (m :: r) with
      | none => simp
      | some y =>
        have := fl_len p r m y hf
        simp at hlen ⊢
        omega
  · simp
theorem fdR_bd {p : Int} {l : List Ms} (h : ∀ e ∈ l, bd e.2) : ∀ e ∈ fdR p l, bd e.2 := by
  unfold fdR
  split
  · cases hf : fdL p (msort l) with
    | none => intro e he; simp at he
    | some y => exact (fold_some h hf).2.2
  · intro e he; simp at he
theorem jchk_N {N : Int} {es : List Ed} {p s l q : Int} (h : jchk N es p s l q = 0) : 1 ≤ N ∧ N ≤ 24 := ⟨(chk_zero (jchk_zero h).1).1, (chk_zero (jchk_zero h).1).2.1⟩
theorem step_zero {N : Int} {es : List Ed} {p s l q : Int} {S : St} (h : (stepR N es p s l q S).2 = 0) : jchk N es p s l q = 0 ∧ rightB N es p s l q S = true ∧ ¬ S.step = 40 ∧ stepR N es p s l q S = superR N es p s l q S := by
  unfold stepR at h ⊢
  by_cases h1 : jchk N es p s l q = 0
  · rw [if_pos h1] at h ⊢
    by_cases h2 : rightB N es p s l q S = true
    · rw [if_pos h2] at h ⊢
      by_cases h3 : S.step = 40
      · rw [if_pos h3] at h; cases h
      · rw [if_neg h3] at h ⊢
        exact ⟨h1, h2, h3, rfl⟩
    · rw [if_neg h2] at h; cases h
  · rw [if_neg h1] at h; exact absurd h h1
end Go.Proofs.YtpgdddjjjfkneaaGreatDoor

/-
  Plain mathematics of shortest ways: what a run of Sssp keeps from its first superstep on, and what follows when it is quiet. No condition.
-/
namespace Go.Proofs.YtpgdddjjjfkneaaGreatDoor
open Go.RowKit
set_option linter.unusedVariables false

def far : Int := 9223372036854775807
end Go.Proofs.YtpgdddjjjfkneaaGreatDoor

/-
  Plain mathematics of partitions: homes, the vertices of a home, partitions that are right, parting and joining. No condition.
-/
namespace Go.Proofs.YtpgdddjjjfkneaaGreatDoor
open Go.RowKit
set_option linter.unusedVariables false

/-- A partition: P, Step, Vals, Rest, In. -/
structure Pt where
  P : Int
  step : Int
  vals : List Int
  rest : List Bool
  inn : List Ms
def noPt : Pt := ⟨0, 0, [], [], []⟩
/-- The vertices of home k, of n, with q parts. -/
def verts (n q k : Nat) : List Nat := (List.range n).filter fun v => v % q == k
theorem verts_succ (n q k : Nat) : verts (n + 1) q k = if n % q = k then verts n q k ++ [n] else verts n q k := by
  unfold verts
  rw [List.range_succ, List.filter_append]
  by_cases h : n % q = k
  · rw [if_pos h]; simp [h]
  · rw [if_neg h]; simp [h]
theorem verts_mem {n q k v : Nat} : v ∈ verts n q k ↔ v < n ∧ v % q = k := by unfold verts; simp
/-- They are k, k + q, k + 2 q .. -/
theorem verts_spec (n q k : Nat) (h1 : 1 ≤ q) (h6 : q ≤ 6) (hk : k < q) : (verts n q k).length = (n + (q - 1 - k)) / q ∧ ∀ i (h : i < (verts n q k).length), (verts n q k)[i] = k + i * q := by
  induction n with
  | zero =>
    refine ⟨?_, fun i h => by simp [verts] at h⟩
    show 0 = (0 + (q - 1 - k)) / q
    rw [Nat.div_eq_of_lt (by omega)]
  | succ n ih =>
    obtain ⟨il, ie⟩ := ih
    by_cases hn : n % q = k
    · have e := verts_succ n q k
      rw [if_pos hn] at e
      have hlen : (verts (n + 1) q k).length = (verts n q k).length + 1 := by rw [e]; simp
      have hq : (verts n q k).length = n / q := by
        rw [il]
        rcases (by omega : q = 1 ∨ q = 2 ∨ q = 3 ∨ q = 4 ∨ q = 5 ∨ q = 6) with rfl | rfl | rfl | rfl | rfl | rfl <;> omega
      refine ⟨?_, fun i h => ?_⟩
      · rw [hlen, hq]
        rcases (by omega : q = 1 ∨ q = 2 ∨ q = 3 ∨ q = 4 ∨ q = 5 ∨ q = 6) with rfl | rfl | rfl | rfl | rfl | rfl <;> omega
      · by_cases hi : i < (verts n q k).length
        · have : (verts (n + 1) q k)[i] = (verts n q k)[i] := by simp only [e]; exact List.getElem_append_left hi
          rw [this]; exact ie i hi
        · have hi' : i = (verts n q k).length := by omega
          subst hi'
          have : (verts (n + 1) q k)[(verts n q k).length] = n := by simp [e]
          rw [this, hq]
          have := Nat.div_add_mod n q
          rw [Nat.mul_comm] at this
          omega
    · have e := verts_succ n q k
      rw [if_neg hn] at e
      refine ⟨?_, fun i h => ?_⟩
      · rw [e, il]
        rcases (by omega : q = 1 ∨ q = 2 ∨ q = 3 ∨ q = 4 ∨ q = 5 ∨ q = 6) with rfl | rfl | rfl | rfl | rfl | rfl <;> omega
      · simp only [e]; exact ie i (by rw [e] at h; exact h)
/-- v stands at place v / q of its home's. -/
theorem verts_at {n q v : Nat} (h1 : 1 ≤ q) (h6 : q ≤ 6) (hv : v < n) : ∃ h : v / q < (verts n q (v % q)).length, (verts n q (v % q))[v / q] = v := by
  obtain ⟨hl, he⟩ := verts_spec n q (v % q) h1 h6 (Nat.mod_lt _ (by omega))
  have hlt : v / q < (verts n q (v % q)).length := by
    rw [hl]
    rcases (by omega : q = 1 ∨ q = 2 ∨ q = 3 ∨ q = 4 ∨ q = 5 ∨ q = 6) with rfl | rfl | rfl | rfl | rfl | rfl <;> omega
  refine ⟨hlt, ?_⟩
  rw [he _ hlt]
  have := Nat.div_add_mod v q
  rw [Nat.mul_comm] at this
  omega
/-- Is a message to a vertex of home k? -/
def toHome (q k : Nat) (m : Ms) : Bool := decide (0 ≤ m.1) && (m.1.toNat % q == k)
/-- The partition k of a state. -/
def cutP (n q : Nat) (S : St) (k : Nat) : Pt := ⟨k, S.step, (verts n q k).map (vAt S.vals), (verts n q k).map (rAt S.rest), S.inn.filter (toHome q k)⟩
def rightP (N : Int) (es : List Ed) (p s l q : Int) (x : Pt) : Bool :=
  decide (jchk N es p s l q = 0) && (decide (0 ≤ x.P ∧ x.P < q) && (decide (0 ≤ x.step ∧ x.step ≤ 40) && (decide (x.vals.length = (verts N.toNat q.toNat x.P.toNat).length) && (decide (x.rest.length = (verts N.toNat q.toNat x.P.toNat).length) && (risB N (-1) x.inn && x.inn.all (toHome q.toNat x.P.toNat))))))
def splitR (N : Int) (es : List Ed) (p s l q : Int) (S : St) : List Pt × Int :=
  if jchk N es p s l q = 0 then (if rightB N es p s l q S = true then ((List.range q.toNat).map (cutP N.toNat q.toNat S), 0) else ([], 1)) else ([], jchk N es p s l q)
def pAt (l : List Pt) (k : Nat) : Pt := l.getD k noPt
theorem ris_filter (N : Int) (f : Ms → Bool) : ∀ (l : List Ms) (a b : Int), b ≤ a → risB N a l = true → risB N b (l.filter f) = true := by
  intro l
  induction l with
  | nil => intro a b _ _; rfl
  | cons x r ih =>
    intro a b hab h
    unfold risB at h
    simp only [Bool.and_eq_true, decide_eq_true_eq] at h
    by_cases hf : f x = true
    · rw [List.filter_cons_of_pos hf]
      unfold risB
      simp only [Bool.and_eq_true, decide_eq_true_eq]
      exact ⟨by omega, h.2.1, ih _ _ (Int.le_refl _) h.2.2⟩
    · rw [List.filter_cons_of_neg hf]
      exact ih _ _ (by omega) h.2.2
/-- A partition of a right state is right. -/
theorem cut_right {N : Int} {es : List Ed} {p s l q : Int} {S : St} (h : rightB N es p s l q S = true) (k : Nat) (hk : k < q.toNat) : rightP N es p s l q (cutP N.toNat q.toNat S k) = true := by
  obtain ⟨hj, hs, hv, hr, hm⟩ := right_of h
  unfold rightP cutP
  simp only [Bool.and_eq_true, decide_eq_true_eq, List.length_map, Int.toNat_natCast, List.all_eq_true]
  refine ⟨hj, ⟨by omega, by omega⟩, hs, trivial, trivial, ris_filter N _ _ _ _ (Int.le_refl _) hm, fun m hmm => (List.mem_filter.1 hmm).2⟩
end Go.Proofs.YtpgdddjjjfkneaaGreatDoor


