import Derived.Test.YtgfcgeiifinmmaaPe
/-
  Plain mathematics of partitions: homes, the vertices of a home, partitions that are right, parting and joining. No condition.
-/
namespace Go.Proofs.Ytgfcgeiifinmmaa
open Go.RowKit
set_option linter.unusedVariables false

/-- A partition: P, Step, Vals, Rest, In. -/
structure Pt where
  P : Int
  step : Int
  vals : List Int
  rest : List Bool
  inn : List Ms
def noPt : Pt := ⟨0, 0, [], [], []⟩
/-- The vertices of home k, of n, with q parts. -/
def verts (n q k : Nat) : List Nat := (List.range n).filter fun v => v % q == k
theorem verts_succ (n q k : Nat) : verts (n + 1) q k = if n % q = k then verts n q k ++ [n] else verts n q k := by
  unfold verts
  rw [List.range_succ, List.filter_append]
  by_cases h : n % q = k
  · rw [if_pos h]; simp [h]
  · rw [if_neg h]; simp [h]
theorem verts_mem {n q k v : Nat} : v ∈ verts n q k ↔ v < n ∧ v % q = k := by unfold verts; simp
/-- They are k, k + q, k + 2 q .. -/
theorem verts_spec (n q k : Nat) (h1 : 1 ≤ q) (h6 : q ≤ 6) (hk : k < q) : (verts n q k).length = (n + (q - 1 - k)) / q ∧ ∀ i (h : i < (verts n q k).length), (verts n q k)[i] = k + i * q := by
  induction n with
  | zero =>
    refine ⟨?_, fun i h => by simp [verts] at h⟩
    show 0 = (0 + (q - 1 - k)) / q
    rw [Nat.div_eq_of_lt (by omega)]
  | succ n ih =>
    obtain ⟨il, ie⟩ := ih
    by_cases hn : n % q = k
    · have e := verts_succ n q k
      rw [if_pos hn] at e
      have hlen : (verts (n + 1) q k).length = (verts n q k).length + 1 := by rw [e]; simp
      have hq : (verts n q k).length = n / q := by
        rw [il]
        rcases (by omega : q = 1 ∨ q = 2 ∨ q = 3 ∨ q = 4 ∨ q = 5 ∨ q = 6) with rfl | rfl | rfl | rfl | rfl | rfl <;> omega
      refine ⟨?_, fun i h => ?_⟩
      · rw [hlen, hq]
        rcases (by omega : q = 1 ∨ q = 2 ∨ q = 3 ∨ q = 4 ∨ q = 5 ∨ q = 6) with rfl | rfl | rfl | rfl | rfl | rfl <;> omega
      · by_cases hi : i < (verts n q k).length
        · have : (verts (n + 1) q k)[i] = (verts n q k)[i] := by simp only [e]; exact List.getElem_append_left hi
          rw [this]; exact ie i hi
        · have hi' : i = (verts n q k).length := by omega
          subst hi'
          have : (verts (n + 1) q k)[(verts n q k).length] = n := by simp [e]
          rw [this, hq]
          have := Nat.div_add_mod n q
          rw [Nat.mul_comm] at this
          omega
    · have e := verts_succ n q k
      rw [if_neg hn] at e
      refine ⟨?_, fun i h => ?_⟩
      · rw [e, il]
        rcases (by omega : q = 1 ∨ q = 2 ∨ q = 3 ∨ q = 4 ∨ q = 5 ∨ q = 6) with rfl | rfl | rfl | rfl | rfl | rfl <;> omega
      · simp only [e]; exact ie i (by rw [e] at h; exact h)
/-- v stands at place v / q of its home's. -/
theorem verts_at {n q v : Nat} (h1 : 1 ≤ q) (h6 : q ≤ 6) (hv : v < n) : ∃ h : v / q < (verts n q (v % q)).length, (verts n q (v % q))[v / q] = v := by
  obtain ⟨hl, he⟩ := verts_spec n q (v % q) h1 h6 (Nat.mod_lt _ (by omega))
  have hlt : v / q < (verts n q (v % q)).length := by
    rw [hl]
    rcases (by omega : q = 1 ∨ q = 2 ∨ q = 3 ∨ q = 4 ∨ q = 5 ∨ q = 6) with rfl | rfl | rfl | rfl | rfl | rfl <;> omega
  refine ⟨hlt, ?_⟩
  rw [he _ hlt]
  have := Nat.div_add_mod v q
  rw [Nat.mul_comm] at this
  omega
theorem sum_one (a q : Nat) : ((List.range q).map fun k => if a = k then 1 else 0).sum = if a < q then 1 else 0 := by
  induction q with
  | zero => simp
  | succ q ih =>
    rw [List.range_succ, List.map_append, List.sum_append, ih]
    simp only [List.map_cons, List.map_nil, List.sum_cons, List.sum_nil]
    split <;> split <;> split <;> omega
theorem sum_add (f g : Nat → Nat) (l : List Nat) : (l.map fun k => f k + g k).sum = (l.map f).sum + (l.map g).sum := by
  induction l with
  | nil => rfl
  | cons x r ih => simp only [List.map_cons, List.sum_cons, ih]; omega
/-- All homes together have all vertices. -/
theorem verts_sum (n q : Nat) (h1 : 1 ≤ q) : ((List.range q).map fun k => (verts n q k).length).sum = n := by
  induction n with
  | zero =>
    have : ∀ k, (verts 0 q k).length = 0 := fun k => rfl
    simp only [this]
    generalize List.range q = r
    induction r with
    | nil => rfl
    | cons x r ih => simp only [List.map_cons, List.sum_cons, ih]
  | succ n ih =>
    have : ∀ k, (verts (n + 1) q k).length = (verts n q k).length + if n % q = k then 1 else 0 := by
      intro k
      rw [verts_succ]
      split <;> simp
    simp only [this]
    rw [sum_add, ih, sum_one, if_pos (Nat.mod_lt _ (by omega))]
/-- Is a message to a vertex of home k? -/
def toHome (q k : Nat) (m : Ms) : Bool := decide (0 ≤ m.1) && (m.1.toNat % q == k)
/-- The partition k of a state. -/
def cutP (n q : Nat) (S : St) (k : Nat) : Pt := ⟨k, S.step, (verts n q k).map (vAt S.vals), (verts n q k).map (rAt S.rest), S.inn.filter (toHome q k)⟩
def rightP (N : Int) (es : List Ed) (p s l q : Int) (x : Pt) : Bool :=
  decide (jchk N es p s l q = 0) && (decide (0 ≤ x.P ∧ x.P < q) && (decide (0 ≤ x.step ∧ x.step ≤ 40) && (decide (x.vals.length = (verts N.toNat q.toNat x.P.toNat).length) && (decide (x.rest.length = (verts N.toNat q.toNat x.P.toNat).length) && (risB N (-1) x.inn && x.inn.all (toHome q.toNat x.P.toNat))))))
def splitR (N : Int) (es : List Ed) (p s l q : Int) (S : St) : List Pt × Int :=
  if jchk N es p s l q = 0 then (if rightB N es p s l q S = true then ((List.range q.toNat).map (cutP N.toNat q.toNat S), 0) else ([], 1)) else ([], jchk N es p s l q)
def pAt (l : List Pt) (k : Nat) : Pt := l.getD k noPt
theorem pAt_get (l : List Pt) (k : Nat) (h : k < l.length) : pAt l k = l[k] := by unfold pAt; simp [List.getD, List.getElem?_eq_getElem h]
/-- May these be joined? -/
def joinB (N : Int) (es : List Ed) (p s l q : Int) (L : List Pt) : Bool :=
  decide ((L.length : Int) = q) && (List.range L.length).all fun i => decide ((pAt L i).P = i) && (decide ((pAt L i).step = (pAt L 0).step) && rightP N es p s l q (pAt L i))
def joinS (n q : Nat) (L : List Pt) : St :=
  ⟨(pAt L 0).step, (List.range n).map fun v => vAt (pAt L (v % q)).vals (v / q), (List.range n).map fun v => rAt (pAt L (v % q)).rest (v / q), (List.range n).flatMap fun (v : Nat) => (pAt L (v % q)).inn.filter fun m => m.1 == (v : Int)⟩
def joinR (N : Int) (es : List Ed) (p s l q : Int) (L : List Pt) : St × Int :=
  if jchk N es p s l q = 0 then (if joinB N es p s l q L = true then (joinS N.toNat q.toNat L, 0) else (noSt, 1)) else (noSt, jchk N es p s l q)
/-! Rising messages, one vertex after the other. -/
theorem filter_lt {l : List Ms} (h : Ris l) (n : Int) : (l.filter fun m => decide (m.1 < n)) ++ (l.filter fun m => m.1 == n) = l.filter fun m => decide (m.1 < n + 1) := by
  induction l with
  | nil => rfl
  | cons x r ih =>
    obtain ⟨hx, hr⟩ := List.pairwise_cons.1 h
    have ih := ih hr
    by_cases h1 : x.1 < n
    · rw [List.filter_cons_of_pos (by simpa using h1), List.filter_cons_of_neg (by simp; omega), List.filter_cons_of_pos (by simp; omega), List.cons_append, ih]
    · by_cases h2 : x.1 = n
      · have e1 : (r.filter fun m => decide (m.1 < n)) = [] := List.filter_eq_nil_iff.2 fun m hm => by have := hx m hm; simp; omega
        have e2 : (r.filter fun m => m.1 == n) = [] := List.filter_eq_nil_iff.2 fun m hm => by have := hx m hm; simp; omega
        have e3 : (r.filter fun m => decide (m.1 < n + 1)) = [] := List.filter_eq_nil_iff.2 fun m hm => by have := hx m hm; simp; omega
        rw [List.filter_cons_of_neg (by simpa using h1), List.filter_cons_of_pos (by simpa using h2), List.filter_cons_of_pos (by simp; omega), e1, e2, e3]
        rfl
      · rw [List.filter_cons_of_neg (by simpa using h1), List.filter_cons_of_neg (by simpa using h2), List.filter_cons_of_neg (by simp; omega), ih]
theorem flat_ris {l : List Ms} (h : Ris l) (h0 : ∀ m ∈ l, 0 ≤ m.1) (n : Nat) : ((List.range n).flatMap fun (v : Nat) => l.filter fun m => m.1 == (v : Int)) = l.filter fun m => decide (m.1 < (n : Int)) := by
  induction n with
  | zero =>
    have : (l.filter fun m => decide (m.1 < ((0 : Nat) : Int))) = [] := List.filter_eq_nil_iff.2 fun m hm => by have := h0 m hm; simp; omega
    rw [this]; rfl
  | succ n ih =>
    rw [List.range_succ, List.flatMap_append, ih]
    have := filter_lt h (n : Int)
    simp only [List.flatMap_cons, List.flatMap_nil, List.append_nil]
    rw [this]
    rfl
theorem split_len (N : Int) (es : List Ed) (p s l q : Int) (S : St) (k : Nat) (hk : k < q.toNat) : pAt ((List.range q.toNat).map (cutP N.toNat q.toNat S)) k = cutP N.toNat q.toNat S k := by
  rw [pAt_get _ _ (by simpa using hk)]; simp
theorem ris_filter (N : Int) (f : Ms → Bool) : ∀ (l : List Ms) (a b : Int), b ≤ a → risB N a l = true → risB N b (l.filter f) = true := by
  intro l
  induction l with
  | nil => intro a b _ _; rfl
  | cons x r ih =>
    intro a b hab h
    unfold risB at h
    simp only [Bool.and_eq_true, decide_eq_true_eq] at h
    by_cases hf : f x = true
    · rw [List.filter_cons_of_pos hf]
      unfold risB
      simp only [Bool.and_eq_true, decide_eq_true_eq]
      exact ⟨by omega, h.2.1, ih _ _ (Int.le_refl _) h.2.2⟩
    · rw [List.filter_cons_of_neg hf]
      exact ih _ _ (by omega) h.2.2
/-- A partition of a right state is right. -/
theorem cut_right {N : Int} {es : List Ed} {p s l q : Int} {S : St} (h : rightB N es p s l q S = true) (k : Nat) (hk : k < q.toNat) : rightP N es p s l q (cutP N.toNat q.toNat S k) = true := by
  obtain ⟨hj, hs, hv, hr, hm⟩ := right_of h
  unfold rightP cutP
  simp only [Bool.and_eq_true, decide_eq_true_eq, List.length_map, Int.toNat_natCast, List.all_eq_true]
  refine ⟨hj, ⟨by omega, by omega⟩, hs, trivial, trivial, ris_filter N _ _ _ _ (Int.le_refl _) hm, fun m hmm => (List.mem_filter.1 hmm).2⟩
/-- Parted and joined a state is what it was. -/
theorem join_split {N : Int} {es : List Ed} {p s l q : Int} {S : St} (h : rightB N es p s l q S = true) : joinS N.toNat q.toNat ((List.range q.toNat).map (cutP N.toNat q.toNat S)) = S := by
  obtain ⟨hj, hs, hv, hr, hm⟩ := right_of h
  have hb := badJ_not (jchk_zero hj).2
  obtain ⟨hN1, hN2⟩ := jchk_N hj
  have hq1 : 1 ≤ q.toNat := by omega
  have hq6 : q.toNat ≤ 6 := by omega
  have hP : ∀ v, pAt ((List.range q.toNat).map (cutP N.toNat q.toNat S)) (v % q.toNat) = cutP N.toNat q.toNat S (v % q.toNat) := fun v => split_len N es p s l q S _ (Nat.mod_lt _ (by omega))
  have hto := ris_to N (-1) S.inn hm
  obtain ⟨st, vs, rs, ms⟩ := S
  unfold joinS
  simp only [hP]
  have h0 : pAt ((List.range q.toNat).map (cutP N.toNat q.toNat ⟨st, vs, rs, ms⟩)) 0 = cutP N.toNat q.toNat ⟨st, vs, rs, ms⟩ 0 := split_len N es p s l q _ 0 (by omega)
  rw [h0]
  congr 1
  · apply List.ext_getElem
    · simp; dsimp only at hv; omega
    · intro i h1 h2
      simp only [List.length_map, List.length_range] at h1
      obtain ⟨hlt, he⟩ := verts_at (q := q.toNat) hq1 hq6 h1
      simp only [List.getElem_map, List.getElem_range, cutP]
      rw [vAt_get _ _ (by simpa using hlt)]
      simp only [List.getElem_map, he]
      exact vAt_get _ _ h2
  · apply List.ext_getElem
    · simp; dsimp only at hr; omega
    · intro i h1 h2
      simp only [List.length_map, List.length_range] at h1
      obtain ⟨hlt, he⟩ := verts_at (q := q.toNat) hq1 hq6 h1
      simp only [List.getElem_map, List.getElem_range, cutP]
      rw [rAt_get _ _ (by simpa using hlt)]
      simp only [List.getElem_map, he]
      exact rAt_get _ _ h2
  · have hf : ∀ v : Nat, ((cutP N.toNat q.toNat ⟨st, vs, rs, ms⟩ (v % q.toNat)).inn.filter fun m => m.1 == (v : Int)) = ms.filter fun m => m.1 == (v : Int) := by
      intro v
      show ((ms.filter (toHome q.toNat (v % q.toNat))).filter fun m => m.1 == (v : Int)) = _
      rw [List.filter_filter]
      apply List.filter_congr
      intro m hmm
      by_cases e : m.1 = (v : Int)
      · simp [toHome, e]
      · simp [e]
    simp only [hf]
    rw [flat_ris (ris_ris N (-1) ms hm) (fun m hmm => by have := hto m hmm; omega)]
    apply List.filter_eq_self.2
    intro m hmm
    have := hto m hmm
    simp; omega
/-- What came to a state came to its partitions. -/
theorem cut_perm (q : Nat) (hq : 1 ≤ q) (l : List Ms) (h0 : ∀ m ∈ l, 0 ≤ m.1) : ((List.range q).flatMap fun k => l.filter (toHome q k)).Perm l := by
  have key : ∀ n, ((List.range n).flatMap fun k => l.filter (toHome q k)).Perm (l.filter fun m => decide (m.1.toNat % q < n)) := by
    intro n
    induction n with
    | zero =>
      have : (l.filter fun m => decide (m.1.toNat % q < 0)) = [] := List.filter_eq_nil_iff.2 fun m _ => by simp
      rw [this]; exact List.Perm.nil
    | succ n ih =>
      rw [List.range_succ, List.flatMap_append]
      simp only [List.flatMap_cons, List.flatMap_nil, List.append_nil]
      refine (ih.append_right _).trans ?_
      clear ih
      induction l with
      | nil => exact List.Perm.nil
      | cons x r ih =>
        have hx := h0 x (List.mem_cons_self ..)
        have ih := ih fun m hm => h0 m (List.mem_cons_of_mem _ hm)
        by_cases h1 : x.1.toNat % q < n
        · rw [List.filter_cons_of_pos (by simpa using h1), List.filter_cons_of_neg (by simp [toHome, hx]; omega), List.filter_cons_of_pos (by simp; omega)]
          exact ih.cons x
        · by_cases h2 : x.1.toNat % q = n
          · rw [List.filter_cons_of_neg (by simpa using h1), List.filter_cons_of_pos (by simp [toHome, hx, h2]), List.filter_cons_of_pos (by simp; omega)]
            exact List.perm_middle.trans (ih.cons x)
          · rw [List.filter_cons_of_neg (by simpa using h1), List.filter_cons_of_neg (by simp [toHome, hx, h2]), List.filter_cons_of_neg (by simp; omega)]
            exact ih
  refine (key q).trans ?_
  rw [List.filter_eq_self.2 (fun m _ => by simp; exact Nat.mod_lt _ (by omega))]
end Go.Proofs.Ytgfcgeiifinmmaa

