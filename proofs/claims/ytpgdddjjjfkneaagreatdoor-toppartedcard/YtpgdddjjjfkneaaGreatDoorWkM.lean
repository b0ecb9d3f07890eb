import Derived.Test.YtpgdddjjjfkneaaGreatDoorKu
/-
  Plain mathematics of work, written ahead of stage 8: a partition's superstep, what it takes; partitions do what one machine does (P8.3), a state is quiet just if its partitions are (P8.4). No function's number stands in it. No condition.
-/

namespace Go.Proofs.YtpgdddjjjfkneaaGreatDoor
open Go.RowKit Go.Sort
set_option linter.unusedVariables false

/-- Folding hangs on the totals alone. -/
theorem fold_tot {p : Int} (hp : 1 ≤ p ∧ p ≤ 5) {l l' : List Ms} (hb : ∀ e ∈ l, bd e.2) (hb' : ∀ e ∈ l', bd e.2) (h0 : p = 5 → ∀ e ∈ l, 0 ≤ e.2) (h0' : p = 5 → ∀ e ∈ l', 0 ≤ e.2) (ht : ∀ t, tot p t l = tot p t l') : fdL p (msort l) = fdL p (msort l') := by
  cases h1 : fdL p (msort l) with
  | none =>
    obtain ⟨h5, t, v, hv, hbig⟩ := fold_too hp hb h0 h1
    cases h2 : fdL p (msort l') with
    | none => rfl
    | some y =>
      have := fold_fits hb' h2 ((ht t).symm.trans hv)
      unfold bd at this; omega
  | some x =>
    cases h2 : fdL p (msort l') with
    | none =>
      obtain ⟨h5, t, v, hv, hbig⟩ := fold_too hp hb' h0' h2
      have := fold_fits hb h1 ((ht t).trans hv)
      unfold bd at this; omega
    | some y =>
      obtain ⟨x1, x2, _⟩ := fold_some hb h1
      obtain ⟨y1, y2, _⟩ := fold_some hb' h2
      rw [ris_uniq p x y x1 y1 (fun t => by rw [x2, y2, ht])]
theorem tot_cons (p t : Int) (m : Ms) (r : List Ms) : tot p t (m :: r) = if m.1 = t then cmb p (some m.2) (tot p t r) else tot p t r := rfl
theorem tot_filter_yes {p t : Int} {f : Ms → Bool} {l : List Ms} (h : ∀ m ∈ l, m.1 = t → f m = true) : tot p t (l.filter f) = tot p t l := by
  induction l with
  | nil => rfl
  | cons m r ih =>
    have ih := ih fun m hm => h m (List.mem_cons_of_mem _ hm)
    by_cases hf : f m = true
    · rw [List.filter_cons_of_pos hf, tot_cons, tot_cons, ih]
    · rw [List.filter_cons_of_neg hf, tot_cons, if_neg (fun e => hf (h m (List.mem_cons_self ..) e)), ih]
theorem tot_filter_no {p t : Int} {f : Ms → Bool} {l : List Ms} (h : ∀ m ∈ l, m.1 = t → f m = false) : tot p t (l.filter f) = none := by
  rw [tot_none]
  intro m hm e
  obtain ⟨h1, h2⟩ := List.mem_filter.1 hm
  rw [h m h1 e] at h2; cases h2
theorem flat_tot {p t : Int} {F A : Nat → List Ms} (m : Nat) (h : ∀ i, i < m → tot p t (F i) = tot p t (A i)) : tot p t ((List.range m).flatMap F) = tot p t ((List.range m).flatMap A) := by
  induction m with
  | zero => rfl
  | succ m ih =>
    rw [List.range_succ, List.flatMap_append, List.flatMap_append, tot_append, tot_append, ih fun i hi => h i (by omega)]
    simp only [List.flatMap_cons, List.flatMap_nil, List.append_nil]
    rw [h m (by omega)]
/-- Of one list of many something is put to the end. -/
theorem flat_one {α : Type} (g : Nat → List α) (h : List α) (c m : Nat) : ((List.range m).flatMap fun k => g k ++ if c = k then h else []).Perm ((List.range m).flatMap g ++ if c < m then h else []) := by
  induction m with
  | zero => simp
  | succ m ih =>
    rw [List.range_succ, List.flatMap_append, List.flatMap_append]
    simp only [List.flatMap_cons, List.flatMap_nil, List.append_nil]
    refine (ih.append_right _).trans ?_
    by_cases h1 : c < m
    · rw [if_pos h1, if_neg (show ¬ c = m by omega), if_pos (show c < m + 1 by omega), List.append_nil, List.append_assoc, List.append_assoc]
      exact List.perm_append_comm.append_left _
    · by_cases h2 : c = m
      · rw [if_neg h1, if_pos h2, if_pos (show c < m + 1 by omega), List.append_nil, List.append_assoc]
      · rw [if_neg h1, if_neg h2, if_neg (show ¬ c < m + 1 by omega), List.append_nil, List.append_nil, List.append_nil]
theorem verts_flat {α : Type} (f : Nat → List α) (n a : Nat) (ha : 1 ≤ a) : ((List.range a).flatMap fun k => (verts n a k).flatMap f).Perm ((List.range n).flatMap f) := by
  induction n with
  | zero =>
    have : ∀ m, ((List.range m).flatMap fun k => (verts 0 a k).flatMap f) = [] := fun m => by simp [verts]
    rw [this]; exact List.Perm.nil
  | succ n ih =>
    have e : ((List.range a).flatMap fun k => (verts (n + 1) a k).flatMap f) = (List.range a).flatMap fun k => (verts n a k).flatMap f ++ if n % a = k then f n else [] := by
      congr 1; funext k
      rw [verts_succ]
      by_cases h : n % a = k
      · rw [if_pos h, if_pos h, List.flatMap_append]; simp
      · rw [if_neg h, if_neg h, List.append_nil]
    rw [e]
    refine (flat_one _ (f n) (n % a) a).trans ?_
    rw [if_pos (Nat.mod_lt _ ha), List.range_succ, List.flatMap_append]
    simp only [List.flatMap_cons, List.flatMap_nil, List.append_nil]
    exact ih.append_right _
theorem verts_eq {n a k : Nat} (h1 : 1 ≤ a) (h6 : a ≤ 6) (hk : k < a) : verts n a k = (List.range (verts n a k).length).map fun i => k + i * a := by
  apply List.ext_getElem
  · simp
  · intro i h2 h3
    rw [(verts_spec n a k h1 h6 hk).2 i h2]; simp
/-- What a vertex of a partition does: the i-th, whose number is v. -/
def turnP (N : Int) (es : List Ed) (p s l q : Int) (x : Pt) (v i : Nat) : Int × List Ms × Bool × Int :=
  if (rAt x.rest i && !atB x.inn v) = true then (vAt x.vals i, [], true, 0) else turnR N es p s l q x.step v (vAt x.vals i) (atV x.inn v) (atB x.inn v)
def tP (N : Int) (es : List Ed) (p s l q : Int) (x : Pt) (i : Nat) : Int × List Ms × Bool × Int := turnP N es p s l q x (x.P.toNat + i * q.toNat) i
/-- The messages to home k. -/
def toK (a k : Nat) (l : List Ms) : List Ms := l.filter (toHome a k)
def doX (N : Int) (es : List Ed) (p s l q : Int) (x : Pt) : Pt := ⟨x.P, x.step + 1, valsL (tP N es p s l q x) x.vals.length, restL (tP N es p s l q x) x.vals.length, []⟩
def doS (N : Int) (es : List Ed) (p s l q : Int) (x : Pt) : List Ms := sentL (tP N es p s l q x) x.vals.length
def doC (N : Int) (es : List Ed) (p s l q : Int) (x : Pt) : Int := firstE (fun k => fdC p (toK q.toNat k (doS N es p s l q x))) q.toNat
/-- What Do answers. -/
def doR (N : Int) (es : List Ed) (p s l q : Int) (x : Pt) : Pt × List (List Ms) × Int :=
  if jchk N es p s l q = 0 then
    if rightP N es p s l q x = true then
      if x.step = 40 then (noPt, [], 6)
      else if errL (tP N es p s l q x) x.vals.length = 0 then
        if doC N es p s l q x = 0 then (doX N es p s l q x, (List.range q.toNat).map fun k => fdR p (toK q.toNat k (doS N es p s l q x)), 0) else (noPt, [], doC N es p s l q x)
      else (noPt, [], errL (tP N es p s l q x) x.vals.length)
    else (noPt, [], 1)
  else (noPt, [], jchk N es p s l q)
def inHome (N q P : Int) (l : List Ms) : Bool := l.all fun m => decide (m.1 < N) && toHome q.toNat P.toNat m
/-- What Take answers; ins: all that came, of all lists. -/
def takeR (N : Int) (es : List Ed) (p s l q : Int) (x : Pt) (ins : List Ms) : Pt × Int :=
  if jchk N es p s l q = 0 then
    if (rightP N es p s l q x && (decide (x.inn.length = 0) && inHome N q x.P ins)) = true then
      if fdC p ins = 0 then (⟨x.P, x.step, x.vals, x.rest, fdR p ins⟩, 0) else (noPt, fdC p ins)
    else (noPt, 1)
  else (noPt, jchk N es p s l q)
theorem at_filter (a v : Nat) (l : List Ms) : atB (l.filter (toHome a (v % a))) v = atB l v ∧ atV (l.filter (toHome a (v % a))) v = atV l v := by
  have e : ((l.filter (toHome a (v % a))).find? fun m => decide (m.1 = (v : Int))) = l.find? fun m => decide (m.1 = (v : Int)) := by
    rw [List.find?_filter]
    congr 1
    funext m
    by_cases h : m.1 = (v : Int)
    · simp [h, toHome]
    · simp [h]
  unfold atB atV
  rw [e]
  exact ⟨rfl, rfl⟩
theorem firstE_all {f : Nat → Int} {n : Nat} (h : ∀ k, k < n → f k = 0) : firstE f n = 0 := by
  induction n with
  | zero => rfl
  | succ n ih => exact firstE_ok (ih fun k hk => h k (by omega)) (h n (by omega))
theorem firstE_or {f : Nat → Int} {c : Int} {n : Nat} (h : ∀ k, k < n → f k = 0 ∨ f k = c) : firstE f n = 0 ∨ firstE f n = c := by
  induction n with
  | zero => exact .inl rfl
  | succ n ih =>
    by_cases h0 : firstE f n = 0
    · have : firstE f (n + 1) = f n := by show (if firstE f n = 0 then f n else firstE f n) = f n; rw [if_pos h0]
      rw [this]; exact h n (by omega)
    · have : firstE f (n + 1) = firstE f n := by show (if firstE f n = 0 then f n else firstE f n) = firstE f n; rw [if_neg h0]
      rw [this]; exact ih fun k hk => h k (by omega)
theorem turnR_err {N : Int} {es : List Ed} {p s l q st v val got : Int} {sm : Bool} (hj : jchk N es p s l q = 0) (h0 : 0 ≤ v) (hv : v < N) (h1 : 0 ≤ st) (h2 : st ≤ 40) : (turnR N es p s l q st v val got sm).2.2.2 = 0 ∨ (turnR N es p s l q st v val got sm).2.2.2 = 8 := by
  unfold turnR
  rw [if_pos (show vchk N es p s l q v = 0 by unfold vchk; rw [if_pos hj, if_pos ⟨h0, hv⟩]), if_neg (show ¬ (st < 0 ∨ 40 < st) by omega)]
  split
  · split
    · split
      · exact .inl rfl
      · exact .inr rfl
    · exact .inl rfl
  · exact .inr rfl
theorem fdC_or {p : Int} (hp : 1 ≤ p ∧ p ≤ 5) (l : List Ms) : fdC p l = 0 ∨ fdC p l = 8 := by
  unfold fdC; rw [if_pos hp]; split
  · exact .inl rfl
  · exact .inr rfl
theorem fdC_zero {p : Int} (hp : 1 ≤ p ∧ p ≤ 5) (l : List Ms) : fdC p l = 0 ↔ ∃ y, fdL p (msort l) = some y := by
  unfold fdC; rw [if_pos hp]
  cases fdL p (msort l) with
  | none => simp
  | some y => simp
theorem fdR_some {p : Int} (hp : 1 ≤ p ∧ p ≤ 5) {l y : List Ms} (h : fdL p (msort l) = some y) : fdR p l = y := by unfold fdR; rw [if_pos hp, h]; rfl
theorem fdC_no {p : Int} (hp : 1 ≤ p ∧ p ≤ 5) {l : List Ms} (h : ¬ fdC p l = 0) : fdL p (msort l) = none := by
  cases h1 : fdL p (msort l) with
  | none => rfl
  | some y => exact absurd ((fdC_zero hp l).2 ⟨y, h1⟩) h
/-- What can't be folded of a part can't be of the whole. -/
theorem part_no {p : Int} (hp : 1 ≤ p ∧ p ≤ 5) {a r w : List Ms} (hw : w.Perm (a ++ r)) (hb : ∀ e ∈ w, bd e.2) (h0 : p = 5 → ∀ e ∈ w, 0 ≤ e.2) (h : ¬ fdC p a = 0) : fdC p w = 8 := by
  have hm : ∀ e, e ∈ a ++ r → e ∈ w := fun e he => hw.mem_iff.2 he
  have h1 := parts_no (a := a) (b := r) hp (fun e he => hb e (hm e (List.mem_append_left _ he))) (fun e he => hb e (hm e (List.mem_append_right _ he))) (fun h5 e he => h0 h5 e (hm e he)) (.inl (fdC_no hp h))
  rw [← msort_of hw] at h1
  unfold fdC
  rw [if_pos hp, h1]; rfl
theorem flat_split {α : Type} (f : Nat → List α) (a k : Nat) (hk : k < a) : ∃ r, ((List.range a).flatMap f).Perm (f k ++ r) := by
  induction a with
  | zero => omega
  | succ a ih =>
    rw [List.range_succ, List.flatMap_append]
    simp only [List.flatMap_cons, List.flatMap_nil, List.append_nil]
    by_cases h : k = a
    · subst h; exact ⟨_, List.perm_append_comm⟩
    · obtain ⟨r, hr⟩ := ih (by omega)
      exact ⟨r ++ f a, by rw [← List.append_assoc]; exact hr.append_right _⟩
theorem quoV_nonneg {a b d : Int} (ha : 0 ≤ a) (hb : 0 ≤ b) : 0 ≤ quoV a b d := by
  unfold quoV
  split
  · rename_i h
    have h1 : 0 ≤ a * b := Int.mul_nonneg ha hb
    have h2 : told (a * b) = a * b := by unfold told; rw [if_pos h.2]
    have h3 := h.2
    unfold fits at h3
    have h3 := of_decide_eq_true h3
    have h4 : 0 ≤ (a * b).tdiv d := Int.tdiv_nonneg h1 (by omega)
    have h5 : (a * b).tdiv d ≤ a * b := Int.tdiv_le_self _ h1
    rw [h2]
    generalize (a * b).tdiv d = x at *
    unfold wrap64; omega
  · exact Int.le_refl _
/-- Of Rank: nothing below 0 makes nothing below 0. -/
theorem rank_nonneg {N : Int} {es : List Ed} {s l q st v val got : Int} {sm : Bool} (hv : 0 ≤ val) (hg : 0 ≤ got) : ∀ m ∈ (turnR N es 5 s l q st v val got sm).2.1, 0 ≤ m.2 := by
  have hx : 0 ≤ valX 5 st val got sm := by
    unfold valX
    rw [if_pos rfl]
    split
    · exact hv
    · split
      · have hc : 0 ≤ cameI got sm := by unfold cameI; split <;> omega
        have := quoV_nonneg (a := cameI got sm) (b := 85) (d := 100) hc (by omega)
        unfold told; split <;> omega
      · exact Int.le_refl _
  intro m hm
  unfold turnR at hm
  split at hm
  · split at hm
    · simp at hm
    · split at hm
      · split at hm
        · split at hm
          · simp only [msgL, List.mem_map] at hm
            obtain ⟨e, _, rfl⟩ := hm
            show 0 ≤ alX 5 _ e _
            unfold alX
            rw [if_neg (by decide), if_neg (by decide), if_pos rfl]
            exact quoV_nonneg hx (by omega)
          · simp at hm
        · simp at hm
      · simp at hm
  · simp at hm
theorem edge_to {N : Int} {es : List Ed} (h : chk N es = 0) : ∀ e ∈ es, 0 ≤ e.2.1 ∧ e.2.1 < N := by
  intro e he
  obtain ⟨k, hk, rfl⟩ := List.getElem_of_mem he
  have h1 := (chk_zero h).2.2.2 k hk
  have e1 : eAt es k = es[k] := by unfold eAt; simp [List.getD, List.getElem?_eq_getElem hk]
  by_cases h2 : edge1 N (eAt es k).1 (eAt es k).2.1 (eAt es k).2.2 = 0
  · unfold edge1 at h2
    rw [e1] at h2
    split at h2
    · cases h2
    · omega
  · unfold errAt at h1; rw [if_neg h2] at h1; exact absurd h1 h2
theorem turn_to {N : Int} {es : List Ed} {p s l q st v val got : Int} {sm : Bool} : ∀ m ∈ (turnR N es p s l q st v val got sm).2.1, 0 ≤ m.1 ∧ m.1 < N := by
  intro m hm
  unfold turnR at hm
  split at hm
  · rename_i hv
    have hc := (jchk_zero (vchk_zero hv).1).1
    split at hm
    · simp at hm
    · split at hm
      · split at hm
        · split at hm
          · simp only [msgL, List.mem_map] at hm
            obtain ⟨e, he, rfl⟩ := hm
            unfold outE at he
            rw [if_pos hc] at he
            unfold fromV at he
            exact edge_to hc e (List.mem_filter.1 he).1
          · simp at hm
        · simp at hm
      · simp at hm
  · simp at hm
section
variable {N : Int} {es : List Ed} {p s l q : Int} {S : St}
theorem turnS_to (v : Nat) : ∀ m ∈ (turnS N es p s l q S v).2.1, 0 ≤ m.1 ∧ m.1 < N := by
  intro m hm
  unfold turnS at hm
  split at hm
  · simp at hm
  · exact turn_to m hm
theorem turnS_err (h : rightB N es p s l q S = true) {v : Nat} (hv : v < N.toNat) : (turnS N es p s l q S v).2.2.2 = 0 ∨ (turnS N es p s l q S v).2.2.2 = 8 := by
  obtain ⟨hj, hs, _⟩ := right_of h
  unfold turnS
  split
  · exact .inl rfl
  · exact turnR_err hj (by omega) (by omega) hs.1 hs.2
theorem turnS_nonneg (h5 : p = 5 → (∀ x ∈ S.vals, 0 ≤ x) ∧ ∀ m ∈ S.inn, 0 ≤ m.2) (v : Nat) : p = 5 → ∀ m ∈ (turnS N es p s l q S v).2.1, 0 ≤ m.2 := by
  intro hp m hm
  obtain ⟨h1, h2⟩ := h5 hp
  subst hp
  unfold turnS at hm
  split at hm
  · simp at hm
  · refine rank_nonneg ?_ ?_ m hm
    · unfold vAt
      rw [List.getD_eq_getElem?_getD]
      cases hx : S.vals[v]? with
      | none => exact Int.le_refl _
      | some x => exact h1 x (List.mem_of_getElem? hx)
    · unfold atV
      cases hx : S.inn.find? fun m => decide (m.1 = (v : Int)) with
      | none => exact Int.le_refl _
      | some x => exact h2 x (List.mem_of_find?_eq_some hx)
theorem tP_eq (h : rightB N es p s l q S = true) {k i : Nat} (hk : k < q.toNat) (hi : i < (verts N.toNat q.toNat k).length) : tP N es p s l q (cutP N.toNat q.toNat S k) i = turnS N es p s l q S (k + i * q.toNat) := by
  have hb := badJ_not (jchk_zero (right_of h).1).2
  have hv := (verts_spec N.toNat q.toNat k (by omega) (by omega) hk).2 i hi
  have hm := (verts_mem (n := N.toNat) (q := q.toNat) (k := k)).1 (List.getElem_mem hi)
  rw [hv] at hm
  obtain ⟨b1, b2⟩ := at_filter q.toNat (k + i * q.toNat) S.inn
  rw [hm.2] at b1 b2
  unfold tP turnP turnS cutP
  dsimp only
  rw [Int.toNat_natCast, b1, b2, vAt_get ((verts N.toNat q.toNat k).map (vAt S.vals)) i (by simpa using hi), rAt_get ((verts N.toNat q.toNat k).map (rAt S.rest)) i (by simpa using hi)]
  simp only [List.getElem_map, hv]
theorem cut_len (k : Nat) : (cutP N.toNat q.toNat S k).vals.length = (verts N.toNat q.toNat k).length := by unfold cutP; simp
theorem doS_eq (h : rightB N es p s l q S = true) {k : Nat} (hk : k < q.toNat) : doS N es p s l q (cutP N.toNat q.toNat S k) = (verts N.toNat q.toNat k).flatMap fun v => (turnS N es p s l q S v).2.1 := by
  have hb := badJ_not (jchk_zero (right_of h).1).2
  unfold doS sentL
  rw [cut_len, verts_eq (n := N.toNat) (by omega) (by omega) hk, List.flatMap_map, List.flatMap_def, List.flatMap_def, List.length_map, List.length_range]
  congr 1
  apply List.map_congr_left
  intro i hi
  rw [tP_eq h hk (List.mem_range.1 hi)]
theorem doX_eq (h : rightB N es p s l q S = true) {k : Nat} (hk : k < q.toNat) : doX N es p s l q (cutP N.toNat q.toNat S k) = ⟨k, S.step + 1, (verts N.toNat q.toNat k).map fun v => (turnS N es p s l q S v).1, (verts N.toNat q.toNat k).map fun v => (turnS N es p s l q S v).2.2.1, []⟩ := by
  have hb := badJ_not (jchk_zero (right_of h).1).2
  have e := verts_eq (n := N.toNat) (a := q.toNat) (k := k) (by omega) (by omega) hk
  unfold doX valsL restL
  rw [cut_len]
  have e1 : ((List.range (verts N.toNat q.toNat k).length).map fun v => (tP N es p s l q (cutP N.toNat q.toNat S k) v).1) = (verts N.toNat q.toNat k).map fun v => (turnS N es p s l q S v).1 := by
    conv => rhs; rw [e]
    rw [List.map_map]
    apply List.map_congr_left
    intro i hi
    rw [tP_eq h hk (List.mem_range.1 hi)]; rfl
  have e2 : ((List.range (verts N.toNat q.toNat k).length).map fun v => (tP N es p s l q (cutP N.toNat q.toNat S k) v).2.2.1) = (verts N.toNat q.toNat k).map fun v => (turnS N es p s l q S v).2.2.1 := by
    conv => rhs; rw [e]
    rw [List.map_map]
    apply List.map_congr_left
    intro i hi
    rw [tP_eq h hk (List.mem_range.1 hi)]; rfl
  rw [e1, e2]
  rfl
/-- All that the partitions send is all that the state's vertices send. -/
theorem sent_perm (h : rightB N es p s l q S = true) : ((List.range q.toNat).flatMap fun k => doS N es p s l q (cutP N.toNat q.toNat S k)).Perm (sentL (turnS N es p s l q S) N.toNat) := by
  have hb := badJ_not (jchk_zero (right_of h).1).2
  have e : ((List.range q.toNat).flatMap fun k => doS N es p s l q (cutP N.toNat q.toNat S k)) = (List.range q.toNat).flatMap fun k => (verts N.toNat q.toNat k).flatMap fun v => (turnS N es p s l q S v).2.1 := by
    rw [List.flatMap_def, List.flatMap_def]
    congr 1
    apply List.map_congr_left
    intro k hk
    exact doS_eq h (List.mem_range.1 hk)
  rw [e]
  exact verts_flat _ _ _ (by omega)
/-- If one partition can't be done, neither can the state. -/
theorem do_bad (h : rightB N es p s l q S = true) (h40 : ¬ S.step = 40) (hok : Ok S) (h5 : p = 5 → (∀ x ∈ S.vals, 0 ≤ x) ∧ ∀ m ∈ S.inn, 0 ≤ m.2) {k : Nat} (hk : k < q.toNat) (hE : ¬ (doR N es p s l q (cutP N.toNat q.toNat S k)).2.2 = 0) :
    (doR N es p s l q (cutP N.toNat q.toNat S k)).2.2 = 8 ∧ (stepR N es p s l q S).2 = 8 := by
  have hj := (right_of h).1
  have hb := badJ_not (jchk_zero hj).2
  have hp : 1 ≤ p ∧ p ≤ 5 := hb.1
  have hst : stepR N es p s l q S = superR N es p s l q S := by unfold stepR; rw [if_pos hj, if_pos h, if_neg h40]
  have hW : ∀ e ∈ sentL (turnS N es p s l q S) N.toNat, bd e.2 := sentL_bd hok _
  have hW0 : p = 5 → ∀ e ∈ sentL (turnS N es p s l q S) N.toNat, 0 ≤ e.2 := fun hp5 e he => by
    obtain ⟨v, _, hm⟩ := sentL_mem.1 he
    exact turnS_nonneg h5 v hp5 e hm
  -- a turn's error is the state's
  have hsup : (¬ errL (turnS N es p s l q S) N.toNat = 0 ∨ fdC p (sentL (turnS N es p s l q S) N.toNat) = 8) → (stepR N es p s l q S).2 = 8 := by
    intro hc
    rw [hst]
    unfold superR
    have ho : errL (turnS N es p s l q S) N.toNat = 0 ∨ errL (turnS N es p s l q S) N.toNat = 8 := firstE_or fun v hv => turnS_err h hv
    by_cases h0 : errL (turnS N es p s l q S) N.toNat = 0
    · rw [if_pos h0]
      rcases hc with hc | hc
      · exact absurd h0 hc
      · rw [if_neg (by rw [hc]; decide), hc]
    · rw [if_neg h0]
      rcases ho with ho | ho
      · exact absurd ho h0
      · exact ho
  have hdo : doR N es p s l q (cutP N.toNat q.toNat S k) = if errL (tP N es p s l q (cutP N.toNat q.toNat S k)) (verts N.toNat q.toNat k).length = 0 then
        if doC N es p s l q (cutP N.toNat q.toNat S k) = 0 then (doX N es p s l q (cutP N.toNat q.toNat S k), (List.range q.toNat).map fun j => fdR p (toK q.toNat j (doS N es p s l q (cutP N.toNat q.toNat S k))), 0) else (noPt, [], doC N es p s l q (cutP N.toNat q.toNat S k))
      else (noPt, [], errL (tP N es p s l q (cutP N.toNat q.toNat S k)) (verts N.toNat q.toNat k).length) := by
    unfold doR
    rw [if_pos hj, if_pos (cut_right h k hk), if_neg (show ¬ (cutP N.toNat q.toNat S k).step = 40 from h40), cut_len]
  have hin : ∀ i, i < (verts N.toNat q.toNat k).length → k + i * q.toNat < N.toNat := fun i hi => by
    have hv := (verts_spec N.toNat q.toNat k (by omega) (by omega) hk).2 i hi
    have hm := (verts_mem (n := N.toNat) (q := q.toNat) (k := k)).1 (List.getElem_mem hi)
    rw [hv] at hm; exact hm.1
  have hoK : errL (tP N es p s l q (cutP N.toNat q.toNat S k)) (verts N.toNat q.toNat k).length = 0 ∨ errL (tP N es p s l q (cutP N.toNat q.toNat S k)) (verts N.toNat q.toNat k).length = 8 :=
    firstE_or fun i hi => by rw [tP_eq h hk hi]; exact turnS_err h (hin i hi)
  rw [hdo] at hE ⊢
  by_cases h0 : errL (tP N es p s l q (cutP N.toNat q.toNat S k)) (verts N.toNat q.toNat k).length = 0
  · rw [if_pos h0] at hE ⊢
    by_cases h1 : doC N es p s l q (cutP N.toNat q.toNat S k) = 0
    · rw [if_pos h1] at hE; exact absurd rfl hE
    · rw [if_neg h1]
      have ho : doC N es p s l q (cutP N.toNat q.toNat S k) = 0 ∨ doC N es p s l q (cutP N.toNat q.toNat S k) = 8 := firstE_or fun j _ => fdC_or hp _
      refine ⟨ho.elim (fun e => absurd e h1) id, hsup (.inr ?_)⟩
      obtain ⟨j, hjq, hbad⟩ : ∃ j, j < q.toNat ∧ ¬ fdC p (toK q.toNat j (doS N es p s l q (cutP N.toNat q.toNat S k))) = 0 := Classical.byContradiction fun hn => h1 (firstE_all fun j hjq => Classical.byContradiction fun hb => hn ⟨j, hjq, hb⟩)
      obtain ⟨r, hr⟩ := flat_split (fun k => doS N es p s l q (cutP N.toNat q.toNat S k)) q.toNat k hk
      have hf := (List.filter_append_perm (toHome q.toNat j) (doS N es p s l q (cutP N.toNat q.toNat S k))).symm
      have hw : (sentL (turnS N es p s l q S) N.toNat).Perm (toK q.toNat j (doS N es p s l q (cutP N.toNat q.toNat S k)) ++ (List.filter (fun x => !toHome q.toNat j x) (doS N es p s l q (cutP N.toNat q.toNat S k)) ++ r)) := by
        rw [← List.append_assoc]
        exact (sent_perm h).symm.trans (hr.trans (hf.append_right r))
      exact part_no hp hw hW hW0 hbad
  · rw [if_neg h0]
    refine ⟨hoK.elim (fun e => absurd e h0) id, hsup (.inl fun hz => h0 (firstE_all fun i hi => ?_))⟩
    show (tP N es p s l q (cutP N.toNat q.toNat S k) i).2.2.2 = 0
    rw [tP_eq h hk hi]
    exact firstE_zero hz _ (hin i hi)
end

theorem ris_tot_mem {p : Int} {y : List Ms} (hr : Ris y) {e : Ms} (he : e ∈ y) : tot p e.1 y = some e.2 := by
  cases ht : tot p e.1 y with
  | none => exact absurd rfl (tot_none.1 ht e he)
  | some v =>
    obtain ⟨e', he', h1, h2⟩ := tot_ris hr ht
    rw [← ris_one hr e' he' e he h1, h2]
theorem fold_nonneg {l y : List Ms} (hb : ∀ e ∈ l, bd e.2) (h0 : ∀ e ∈ l, 0 ≤ e.2) (h : fdL 5 (msort l) = some y) : ∀ e ∈ y, 0 ≤ e.2 := by
  intro e he
  obtain ⟨h1, h2, _⟩ := fold_some hb h
  have := ris_tot_mem (p := 5) h1 he
  rw [h2] at this
  exact tot_nonneg h0 this
theorem fold_mem {p : Int} {l y : List Ms} (hb : ∀ e ∈ l, bd e.2) (h : fdL p (msort l) = some y) : ∀ e ∈ y, ∃ m ∈ l, m.1 = e.1 := by
  intro e he
  obtain ⟨h1, h2, _⟩ := fold_some hb h
  have := ris_tot_mem (p := p) h1 he
  rw [h2] at this
  exact tot_some this
theorem ris_risB (N : Int) : ∀ (l : List Ms) (a : Int), Ris l → (∀ m ∈ l, a < m.1 ∧ m.1 < N) → risB N a l = true := by
  intro l
  induction l with
  | nil => intro a _ _; rfl
  | cons m r ih =>
    intro a hr hm
    obtain ⟨h1, h2⟩ := List.pairwise_cons.1 hr
    have h3 := hm m (List.mem_cons_self ..)
    unfold risB
    simp only [Bool.and_eq_true, decide_eq_true_eq]
    exact ⟨h3.1, h3.2, ih m.1 h2 fun x hx => ⟨h1 x hx, (hm x (List.mem_cons_of_mem _ hx)).2⟩⟩
theorem toK_mem {a k : Nat} {l : List Ms} {m : Ms} : m ∈ toK a k l ↔ m ∈ l ∧ toHome a k m = true := List.mem_filter
theorem toHome_key {a k : Nat} {m m' : Ms} (h : m.1 = m'.1) : toHome a k m = toHome a k m' := by unfold toHome; rw [h]
section
variable {N : Int} {es : List Ed} {p s l q : Int} {S : St}
/-- All that came to partition k. -/
def insK (N : Int) (es : List Ed) (p s l q : Int) (S : St) (k : Nat) : List Ms := (List.range q.toNat).flatMap fun i => fdR p (toK q.toNat k (doS N es p s l q (cutP N.toNat q.toNat S i)))
structure Did (N : Int) (es : List Ed) (p s l q : Int) (S : St) : Prop where
  err : errL (turnS N es p s l q S) N.toNat = 0
  fd : ∀ i, i < q.toNat → ∀ k, k < q.toNat → fdC p (toK q.toNat k (doS N es p s l q (cutP N.toNat q.toNat S i))) = 0
  eq : ∀ i, i < q.toNat → doR N es p s l q (cutP N.toNat q.toNat S i) = (doX N es p s l q (cutP N.toNat q.toNat S i), (List.range q.toNat).map fun k => fdR p (toK q.toNat k (doS N es p s l q (cutP N.toNat q.toNat S i))), 0)
theorem do_all (h : rightB N es p s l q S = true) (h40 : ¬ S.step = 40) (hE : ∀ k, k < q.toNat → (doR N es p s l q (cutP N.toNat q.toNat S k)).2.2 = 0) : Did N es p s l q S := by
  have hj := (right_of h).1
  have hb := badJ_not (jchk_zero hj).2
  have key : ∀ k, k < q.toNat → errL (tP N es p s l q (cutP N.toNat q.toNat S k)) (verts N.toNat q.toNat k).length = 0 ∧ doC N es p s l q (cutP N.toNat q.toNat S k) = 0 := fun k hk => by
    have hz := hE k hk
    unfold doR at hz
    rw [if_pos hj, if_pos (cut_right h k hk), if_neg (show ¬ (cutP N.toNat q.toNat S k).step = 40 from h40), cut_len] at hz
    by_cases h0 : errL (tP N es p s l q (cutP N.toNat q.toNat S k)) (verts N.toNat q.toNat k).length = 0
    · rw [if_pos h0] at hz
      by_cases h1 : doC N es p s l q (cutP N.toNat q.toNat S k) = 0
      · exact ⟨h0, h1⟩
      · rw [if_neg h1] at hz; exact absurd hz h1
    · rw [if_neg h0] at hz; exact absurd hz h0
  refine ⟨firstE_all fun v hv => ?_, fun i hi k hk => firstE_zero (key i hi).2 k hk, fun i hi => ?_⟩
  · obtain ⟨h1, h2⟩ := verts_at (n := N.toNat) (q := q.toNat) (by omega) (by omega) hv
    have hk : v % q.toNat < q.toNat := Nat.mod_lt _ (by omega)
    have h3 := firstE_zero (key (v % q.toNat) hk).1 (v / q.toNat) h1
    have h3 : (tP N es p s l q (cutP N.toNat q.toNat S (v % q.toNat)) (v / q.toNat)).2.2.2 = 0 := h3
    rw [tP_eq h hk h1] at h3
    have e : v % q.toNat + v / q.toNat * q.toNat = v := by rw [Nat.mul_comm]; exact Nat.mod_add_div v q.toNat
    rw [e] at h3
    exact h3
  · unfold doR
    rw [if_pos hj, if_pos (cut_right h i hi), if_neg (show ¬ (cutP N.toNat q.toNat S i).step = 40 from h40), cut_len, if_pos (key i hi).1, if_pos (key i hi).2]
theorem sent_facts (h : rightB N es p s l q S = true) (hok : Ok S) (h5 : p = 5 → (∀ x ∈ S.vals, 0 ≤ x) ∧ ∀ m ∈ S.inn, 0 ≤ m.2) : (∀ e ∈ sentL (turnS N es p s l q S) N.toNat, bd e.2) ∧ (p = 5 → ∀ e ∈ sentL (turnS N es p s l q S) N.toNat, 0 ≤ e.2) ∧ (∀ e ∈ sentL (turnS N es p s l q S) N.toNat, 0 ≤ e.1 ∧ e.1 < N) ∧ ∀ i, i < q.toNat → ∀ e ∈ doS N es p s l q (cutP N.toNat q.toNat S i), e ∈ sentL (turnS N es p s l q S) N.toNat := by
  refine ⟨sentL_bd hok _, fun hp5 e he => ?_, fun e he => ?_, fun i hi e he => ?_⟩
  · obtain ⟨v, _, hm⟩ := sentL_mem.1 he
    exact turnS_nonneg h5 v hp5 e hm
  · obtain ⟨v, _, hm⟩ := sentL_mem.1 he
    exact turnS_to v e hm
  · exact (sent_perm h).mem_iff.1 (List.mem_flatMap.2 ⟨i, List.mem_range.2 hi, he⟩)
/-- What came, folded together, is what was sent to home k, folded. -/
theorem ins_fold (h : rightB N es p s l q S = true) (hok : Ok S) (h5 : p = 5 → (∀ x ∈ S.vals, 0 ≤ x) ∧ ∀ m ∈ S.inn, 0 ≤ m.2) (hD : Did N es p s l q S) {k : Nat} (hk : k < q.toNat) :
    fdL p (msort (insK N es p s l q S k)) = fdL p (msort (toK q.toNat k (sentL (turnS N es p s l q S) N.toNat))) ∧ (∀ e ∈ insK N es p s l q S k, toHome q.toNat k e = true ∧ e.1 < N) := by
  have hb := badJ_not (jchk_zero (right_of h).1).2
  have hp : 1 ≤ p ∧ p ≤ 5 := hb.1
  obtain ⟨w1, w2, w3, w4⟩ := sent_facts (N := N) (es := es) (p := p) (s := s) (l := l) (q := q) h hok h5
  have hA : ∀ i, i < q.toNat → ∀ e ∈ toK q.toNat k (doS N es p s l q (cutP N.toNat q.toNat S i)), e ∈ sentL (turnS N es p s l q S) N.toNat := fun i hi e he => w4 i hi e (toK_mem.1 he).1
  have hF : ∀ i, i < q.toNat → ∃ y, fdL p (msort (toK q.toNat k (doS N es p s l q (cutP N.toNat q.toNat S i)))) = some y ∧ fdR p (toK q.toNat k (doS N es p s l q (cutP N.toNat q.toNat S i))) = y := fun i hi => by
    obtain ⟨y, hy⟩ := (fdC_zero hp _).1 (hD.fd i hi k hk)
    exact ⟨y, hy, fdR_some hp hy⟩
  have hmem : ∀ e ∈ insK N es p s l q S k, ∃ i, i < q.toNat ∧ ∃ y, fdL p (msort (toK q.toNat k (doS N es p s l q (cutP N.toNat q.toNat S i)))) = some y ∧ e ∈ y := fun e he => by
    obtain ⟨i, hi, hm⟩ := List.mem_flatMap.1 he
    obtain ⟨y, hy, hr⟩ := hF i (List.mem_range.1 hi)
    rw [hr] at hm
    exact ⟨i, List.mem_range.1 hi, y, hy, hm⟩
  refine ⟨fold_tot hp (fun e he => ?_) (fun e he => w1 e (toK_mem.1 he).1) (fun hp5 e he => ?_) (fun hp5 e he => w2 hp5 e (toK_mem.1 he).1) (fun t => ?_), fun e he => ?_⟩
  · obtain ⟨i, hi, y, hy, hm⟩ := hmem e he
    exact (fold_some (fun e he => w1 e (hA i hi e he)) hy).2.2 e hm
  · obtain ⟨i, hi, y, hy, hm⟩ := hmem e he
    subst hp5
    exact fold_nonneg (fun e he => w1 e (hA i hi e he)) (fun e he => w2 rfl e (hA i hi e he)) hy e hm
  · have e1 : tot p t (insK N es p s l q S k) = tot p t ((List.range q.toNat).flatMap fun i => toK q.toNat k (doS N es p s l q (cutP N.toNat q.toNat S i))) := by
      unfold insK
      refine flat_tot _ fun i hi => ?_
      obtain ⟨y, hy, hr⟩ := hF i hi
      rw [hr]
      exact (fold_some (fun e he => w1 e (hA i hi e he)) hy).2.1 t
    rw [e1]
    apply tot_perm
    have e2 : ((List.range q.toNat).flatMap fun i => toK q.toNat k (doS N es p s l q (cutP N.toNat q.toNat S i))) = ((List.range q.toNat).flatMap fun i => doS N es p s l q (cutP N.toNat q.toNat S i)).filter (toHome q.toNat k) := by
      rw [List.filter_flatMap]; rfl
    rw [e2]
    exact (sent_perm h).filter _
  · obtain ⟨i, hi, y, hy, hm⟩ := hmem e he
    obtain ⟨m, hm1, hm2⟩ := fold_mem (fun e he => w1 e (hA i hi e he)) hy e hm
    obtain ⟨hm3, hm4⟩ := toK_mem.1 hm1
    exact ⟨by rw [← toHome_key hm2]; exact hm4, by rw [← hm2]; exact (w3 m (w4 i hi m hm3)).2⟩
theorem did_right (h : rightB N es p s l q S = true) (h40 : ¬ S.step = 40) {k : Nat} (hk : k < q.toNat) : rightP N es p s l q (doX N es p s l q (cutP N.toNat q.toNat S k)) = true := by
  obtain ⟨hj, hs, _⟩ := right_of h
  rw [doX_eq h hk]
  unfold rightP
  simp only [Bool.and_eq_true, decide_eq_true_eq, List.length_map, Int.toNat_natCast]
  exact ⟨hj, ⟨by omega, by omega⟩, ⟨by omega, by omega⟩, trivial, trivial, rfl, rfl⟩
/-- Taking: what it says of the whole. -/
theorem take_one (h : rightB N es p s l q S = true) (h40 : ¬ S.step = 40) (hok : Ok S) (h5 : p = 5 → (∀ x ∈ S.vals, 0 ≤ x) ∧ ∀ m ∈ S.inn, 0 ≤ m.2) (hD : Did N es p s l q S) {k : Nat} (hk : k < q.toNat) :
    takeR N es p s l q (doX N es p s l q (cutP N.toNat q.toNat S k)) (insK N es p s l q S k) = if fdC p (insK N es p s l q S k) = 0 then (⟨k, S.step + 1, (verts N.toNat q.toNat k).map fun v => (turnS N es p s l q S v).1, (verts N.toNat q.toNat k).map fun v => (turnS N es p s l q S v).2.2.1, fdR p (insK N es p s l q S k)⟩, 0) else (noPt, fdC p (insK N es p s l q S k)) := by
  have hj := (right_of h).1
  have hr := did_right h h40 hk
  have hin : inHome N q (doX N es p s l q (cutP N.toNat q.toNat S k)).P (insK N es p s l q S k) = true := by
    unfold inHome
    rw [List.all_eq_true]
    intro e he
    obtain ⟨h1, h2⟩ := (ins_fold h hok h5 hD hk).2 e he
    have hP : (doX N es p s l q (cutP N.toNat q.toNat S k)).P.toNat = k := by rw [doX_eq h hk]; exact Int.toNat_natCast k
    rw [hP, h1, decide_eq_true h2]; rfl
  have hl : (doX N es p s l q (cutP N.toNat q.toNat S k)).inn.length = 0 := rfl
  unfold takeR
  rw [if_pos hj, if_pos (show _ = true by rw [hr, hin, decide_eq_true hl]; rfl), doX_eq h hk]
theorem take_bad (h : rightB N es p s l q S = true) (h40 : ¬ S.step = 40) (hok : Ok S) (h5 : p = 5 → (∀ x ∈ S.vals, 0 ≤ x) ∧ ∀ m ∈ S.inn, 0 ≤ m.2) (hD : Did N es p s l q S) {k : Nat} (hk : k < q.toNat)
    (hE : ¬ (takeR N es p s l q (doX N es p s l q (cutP N.toNat q.toNat S k)) (insK N es p s l q S k)).2 = 0) :
    (takeR N es p s l q (doX N es p s l q (cutP N.toNat q.toNat S k)) (insK N es p s l q S k)).2 = 8 ∧ (stepR N es p s l q S).2 = 8 := by
  have hj := (right_of h).1
  have hp : 1 ≤ p ∧ p ≤ 5 := (badJ_not (jchk_zero hj).2).1
  obtain ⟨w1, w2, w3, w4⟩ := sent_facts (N := N) (es := es) (p := p) (s := s) (l := l) (q := q) h hok h5
  rw [take_one h h40 hok h5 hD hk] at hE ⊢
  by_cases h0 : fdC p (insK N es p s l q S k) = 0
  · rw [if_pos h0] at hE; exact absurd rfl hE
  · rw [if_neg h0]
    refine ⟨(fdC_or hp _).elim (fun e => absurd e h0) id, ?_⟩
    have h1 := fdC_no hp h0
    rw [(ins_fold h hok h5 hD hk).1] at h1
    have h2 : ¬ fdC p (toK q.toNat k (sentL (turnS N es p s l q S) N.toNat)) = 0 := fun hz => by
      obtain ⟨y, hy⟩ := (fdC_zero hp _).1 hz
      rw [h1] at hy; cases hy
    have h3 := part_no hp (List.filter_append_perm (toHome q.toNat k) (sentL (turnS N es p s l q S) N.toNat)).symm w1 w2 h2
    unfold stepR
    rw [if_pos hj, if_pos h, if_neg h40]
    unfold superR
    rw [if_pos hD.err, if_neg (by rw [h3]; decide), h3]
/-- If all partitions are done and took what came, they are the partitions of the state behind the superstep. -/
theorem take_all (h : rightB N es p s l q S = true) (h40 : ¬ S.step = 40) (hok : Ok S) (h5 : p = 5 → (∀ x ∈ S.vals, 0 ≤ x) ∧ ∀ m ∈ S.inn, 0 ≤ m.2) (hD : Did N es p s l q S)
    (hE : ∀ k, k < q.toNat → (takeR N es p s l q (doX N es p s l q (cutP N.toNat q.toNat S k)) (insK N es p s l q S k)).2 = 0) :
    (stepR N es p s l q S).2 = 0 ∧ rightB N es p s l q (stepR N es p s l q S).1 = true ∧ ∀ k, k < q.toNat → (takeR N es p s l q (doX N es p s l q (cutP N.toNat q.toNat S k)) (insK N es p s l q S k)).1 = cutP N.toNat q.toNat (stepR N es p s l q S).1 k := by
  obtain ⟨hj, hs, hv, hrr, hm⟩ := right_of h
  have hb := badJ_not (jchk_zero hj).2
  have hp : 1 ≤ p ∧ p ≤ 5 := hb.1
  have hN := jchk_N hj
  obtain ⟨w1, w2, w3, w4⟩ := sent_facts (N := N) (es := es) (p := p) (s := s) (l := l) (q := q) h hok h5
  have hk0 : ∀ k, k < q.toNat → fdC p (insK N es p s l q S k) = 0 := fun k hk => by
    have := hE k hk
    rw [take_one h h40 hok h5 hD hk] at this
    exact Classical.byContradiction fun hc => by rw [if_neg hc] at this; exact hc this
  have hky : ∀ k, k < q.toNat → ∃ y, fdL p (msort (toK q.toNat k (sentL (turnS N es p s l q S) N.toNat))) = some y ∧ fdR p (insK N es p s l q S k) = y := fun k hk => by
    obtain ⟨y, hy⟩ := (fdC_zero hp _).1 (hk0 k hk)
    exact ⟨y, by rw [← (ins_fold h hok h5 hD hk).1]; exact hy, fdR_some hp hy⟩
  obtain ⟨Y, hY⟩ : ∃ Y, fdL p (msort (sentL (turnS N es p s l q S) N.toNat)) = some Y := by
    cases hz : fdL p (msort (sentL (turnS N es p s l q S) N.toNat)) with
    | some Y => exact ⟨Y, rfl⟩
    | none =>
      exfalso
      obtain ⟨_, t, v, hv1, hbig⟩ := fold_too hp w1 w2 hz
      obtain ⟨m, hm1, hm2⟩ := tot_some hv1
      have h3 := w3 m hm1
      have hkt : t.toNat % q.toNat < q.toNat := Nat.mod_lt _ (by omega)
      obtain ⟨y, hy, _⟩ := hky _ hkt
      have ht : tot p t (toK q.toNat (t.toNat % q.toNat) (sentL (turnS N es p s l q S) N.toNat)) = some v := by
        unfold toK
        rw [tot_filter_yes (fun m' _ e => by unfold toHome; rw [e]; simp; omega)]
        exact hv1
      have := fold_fits (fun e he => w1 e (toK_mem.1 he).1) hy ht
      unfold bd at this; omega
  have hst : stepR N es p s l q S = (⟨S.step + 1, valsL (turnS N es p s l q S) N.toNat, restL (turnS N es p s l q S) N.toNat, Y⟩, 0) := by
    unfold stepR
    rw [if_pos hj, if_pos h, if_neg h40]
    unfold superR
    rw [if_pos hD.err, if_pos ((fdC_zero hp _).2 ⟨Y, hY⟩), fdR_some hp hY]
  obtain ⟨Y1, Y2, Y3⟩ := fold_some w1 hY
  have hYto : ∀ e ∈ Y, 0 ≤ e.1 ∧ e.1 < N := fun e he => by
    obtain ⟨m, hm1, hm2⟩ := fold_mem w1 hY e he
    rw [← hm2]; exact w3 m hm1
  rw [hst]
  refine ⟨rfl, right_is ⟨hj, ⟨by show 0 ≤ S.step + 1; omega, by show S.step + 1 ≤ 40; omega⟩, by show ((valsL _ _).length : Int) = N; rw [valsL_len]; omega, by show ((restL _ _).length : Int) = N; rw [restL_len]; omega, ris_risB N Y (-1) Y1 fun m hm => ⟨by have := hYto m hm; omega, (hYto m hm).2⟩⟩, fun k hk => ?_⟩
  rw [take_one h h40 hok h5 hD hk, if_pos (hk0 k hk)]
  obtain ⟨y, hy, hfr⟩ := hky k hk
  obtain ⟨y1, y2, y3⟩ := fold_some (fun e he => w1 e (toK_mem.1 he).1) hy
  have hYk : y = Y.filter (toHome q.toNat k) := by
    refine ris_uniq p y _ y1 (Y1.filter _) fun t => ?_
    rw [y2]
    by_cases ht : 0 ≤ t ∧ t.toNat % q.toNat = k
    · unfold toK
      rw [tot_filter_yes (fun m _ e => by unfold toHome; rw [e]; simp [ht.1, ht.2]), tot_filter_yes (fun m _ e => by unfold toHome; rw [e]; simp [ht.1, ht.2]), Y2]
    · have hf : ∀ m : Ms, m.1 = t → toHome q.toNat k m = false := fun m e => by
        unfold toHome; rw [e]
        rw [Bool.and_eq_false_iff]
        by_cases h0 : 0 ≤ t
        · right; simp; exact fun hc => ht ⟨h0, hc⟩
        · left; simp; omega
      unfold toK
      rw [tot_filter_no (fun m _ e => hf m e), tot_filter_no (fun m _ e => hf m e)]
  rw [hfr, hYk]
  unfold cutP
  dsimp only
  congr 1
  · apply List.map_congr_left
    intro v hv
    exact (valsL_at _ _ _ (verts_mem.1 hv).1).symm
  · apply List.map_congr_left
    intro v hv
    exact (restL_at _ _ _ (verts_mem.1 hv).1).symm
end

/-- Of Rank: nothing below 0. -/
def NN (p : Int) (S : St) : Prop := p = 5 → (∀ x ∈ S.vals, 0 ≤ x) ∧ ∀ m ∈ S.inn, 0 ≤ m.2
theorem rank_val {N : Int} {es : List Ed} {s l q st v val got : Int} {sm : Bool} (hv : 0 ≤ val) (hg : 0 ≤ got) : 0 ≤ (turnR N es 5 s l q st v val got sm).1 := by
  have hx : 0 ≤ valX 5 st val got sm := by
    unfold valX
    rw [if_pos rfl]
    split
    · exact hv
    · split
      · have hc : 0 ≤ cameI got sm := by unfold cameI; split <;> omega
        have := quoV_nonneg (a := cameI got sm) (b := 85) (d := 100) hc (by omega)
        unfold told; split <;> omega
      · exact Int.le_refl _
  unfold turnR
  split
  · split
    · exact Int.le_refl _
    · split
      · split
        · split
          · exact hx
          · exact Int.le_refl _
        · exact hx
      · exact Int.le_refl _
  · exact Int.le_refl _
theorem turnS_val {N : Int} {es : List Ed} {s l q : Int} {S : St} (h : NN 5 S) (v : Nat) : 0 ≤ (turnS N es 5 s l q S v).1 := by
  obtain ⟨h1, h2⟩ := h rfl
  have hv : 0 ≤ vAt S.vals v := by
    unfold vAt
    rw [List.getD_eq_getElem?_getD]
    cases hx : S.vals[v]? with
    | none => exact Int.le_refl _
    | some x => exact h1 x (List.mem_of_getElem? hx)
  unfold turnS
  split
  · exact hv
  · refine rank_val hv ?_
    unfold atV
    cases hx : S.inn.find? fun m => decide (m.1 = (v : Int)) with
    | none => exact Int.le_refl _
    | some x => exact h2 x (List.mem_of_find?_eq_some hx)
theorem step_NN {N : Int} {es : List Ed} {p s l q : Int} {S : St} (hok : Ok S) (h : NN p S) (h0 : (stepR N es p s l q S).2 = 0) : NN p (stepR N es p s l q S).1 := by
  obtain ⟨hj, hr, h40, he⟩ := step_zero h0
  have hp : 1 ≤ p ∧ p ≤ 5 := (badJ_not (jchk_zero hj).2).1
  rw [he] at h0 ⊢
  intro hp5
  subst hp5
  unfold superR at h0 ⊢
  by_cases h1 : errL (turnS N es 5 s l q S) N.toNat = 0
  · rw [if_pos h1] at h0 ⊢
    by_cases h2 : fdC 5 (sentL (turnS N es 5 s l q S) N.toNat) = 0
    · rw [if_pos h2]
      obtain ⟨y, hy⟩ := (fdC_zero hp _).1 h2
      refine ⟨fun x hx => ?_, fun m hm => ?_⟩
      · have hx : x ∈ valsL (turnS N es 5 s l q S) N.toNat := hx
        unfold valsL at hx
        obtain ⟨v, _, rfl⟩ := List.mem_map.1 hx
        exact turnS_val h v
      · have hm : m ∈ fdR 5 (sentL (turnS N es 5 s l q S) N.toNat) := hm
        rw [fdR_some hp hy] at hm
        refine fold_nonneg (sentL_bd hok _) (fun e he => ?_) hy m hm
        obtain ⟨v, _, hm⟩ := sentL_mem.1 he
        exact turnS_nonneg h v rfl e hm
    · rw [if_neg h2] at h0; exact absurd h0 h2
  · rw [if_neg h1] at h0; exact absurd h0 h1
theorem begin_NN (N p s : Int) : NN p (beginS N p s) := by
  intro hp
  subst hp
  refine ⟨fun x hx => ?_, fun m hm => by cases hm⟩
  unfold beginS at hx
  obtain ⟨v, _, rfl⟩ := List.mem_map.1 hx
  unfold startI
  simp
end Go.Proofs.YtpgdddjjjfkneaaGreatDoor


