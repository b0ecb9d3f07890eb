import Derived.Test.YtemcmhpfpfmgdaaVa
/-
  Plain mathematics of views: views that are right, incarnations, members put and taken out, joins and leaves, what counts; rising members are one list if they have the same members. No condition.
-/
namespace Go.Proofs.Ytemcmhpfpfmgdaa
set_option linter.unusedVariables false

abbrev Mb := Int × Int
abbrev V := Int × List Mb
/-- Members that are right, their Ids greater than a number and rising. -/
def riseM : Int → List Mb → Bool
  | _, [] => true
  | a, m :: r => decide (1 ≤ m.1 ∧ m.1 ≤ 99 ∧ 1 ≤ m.2 ∧ m.2 ≤ 1099511627776 ∧ a < m.1) && riseM m.1 r
def rightV (v : V) : Bool := decide (0 ≤ v.1 ∧ v.1 ≤ 1099511627776 ∧ v.2.length ≤ 5) && riseM 0 v.2
def good (v : V) : V := if rightV v = true then v else (0, [])
/-- The incarnation of a worker; 0, if it is no member. -/
def incL : List Mb → Int → Int
  | [], _ => 0
  | m :: r, x => if m.1 = x then m.2 else incL r x
def mayB (id inc : Int) : Bool := decide (1 ≤ id ∧ id ≤ 99 ∧ 1 ≤ inc ∧ inc ≤ 1099511627776)
def putL : List Mb → Int → Int → List Mb
  | [], id, inc => [(id, inc)]
  | m :: r, id, inc => if m.1 < id then m :: putL r id inc else if m.1 = id then (id, inc) :: r else (id, inc) :: m :: r
def delL (l : List Mb) (id : Int) : List Mb := l.filter fun m => decide (m.1 ≠ id)
def joinE (g : V) (id inc : Int) : Int :=
  if mayB id inc = true then (if g.1 = 1099511627776 then 6 else if incL g.2 id = inc then 5 else if inc < incL g.2 id then 9 else if incL g.2 id = 0 ∧ g.2.length = 5 then 3 else 0) else 1
def joinG (g : V) (id inc : Int) : V := if joinE g id inc = 0 then (g.1 + 1, putL g.2 id inc) else g
def leaveE (g : V) (id : Int) : Int := if incL g.2 id = 0 then 4 else if g.1 = 1099511627776 then 6 else 0
def leaveG (g : V) (id : Int) : V := if leaveE g id = 0 then (g.1 + 1, delL g.2 id) else g
def fenE (g : V) (num id inc : Int) : Int := if num = g.1 then (if incL g.2 id = 0 then 4 else if incL g.2 id = inc then 0 else 9) else 9
/-- An act: what becomes of a view, and its error. -/
def actG (g : V) (k id inc : Int) : V := if k = 0 then joinG g id inc else leaveG g id
def actE (g : V) (k id inc : Int) : Int := if k = 0 then joinE g id inc else leaveE g id

theorem riseM_mem : ∀ {l : List Mb} {a : Int}, riseM a l = true → ∀ m ∈ l, 1 ≤ m.1 ∧ m.1 ≤ 99 ∧ 1 ≤ m.2 ∧ m.2 ≤ 1099511627776 ∧ a < m.1 := by
  intro l
  induction l with
  | nil => intro a h m hm; cases hm
  | cons b r ih =>
    intro a h m hm
    rw [riseM, Bool.and_eq_true, decide_eq_true_eq] at h
    rcases List.mem_cons.1 hm with rfl | hm
    · exact h.1
    · have := ih h.2 m hm
      omega
theorem riseM_pairs : ∀ {l : List Mb} {a : Int}, riseM a l = true → l.Pairwise fun x y => x.1 < y.1 := by
  intro l
  induction l with
  | nil => intro a h; exact List.Pairwise.nil
  | cons b r ih =>
    intro a h
    rw [riseM, Bool.and_eq_true, decide_eq_true_eq] at h
    exact List.Pairwise.cons (fun m hm => (riseM_mem h.2 m hm).2.2.2.2) (ih h.2)
theorem riseM_of : ∀ {l : List Mb} {a : Int}, (l.Pairwise fun x y => x.1 < y.1) → (∀ m ∈ l, 1 ≤ m.1 ∧ m.1 ≤ 99 ∧ 1 ≤ m.2 ∧ m.2 ≤ 1099511627776 ∧ a < m.1) → riseM a l = true := by
  intro l
  induction l with
  | nil => intro a _ _; rfl
  | cons b r ih =>
    intro a hp h
    obtain ⟨h1, h2⟩ := List.pairwise_cons.1 hp
    rw [riseM, Bool.and_eq_true, decide_eq_true_eq]
    exact ⟨h b (by simp), ih h2 fun m hm => by have := h m (by simp [hm]); have := h1 m hm; omega⟩
theorem right_rise {v : V} (h : rightV v = true) : riseM 0 v.2 = true := by unfold rightV at h; rw [Bool.and_eq_true] at h; exact h.2
theorem right_num {v : V} (h : rightV v = true) : 0 ≤ v.1 ∧ v.1 ≤ 1099511627776 ∧ v.2.length ≤ 5 := by unfold rightV at h; rw [Bool.and_eq_true, decide_eq_true_eq] at h; exact h.1
theorem right_zero : rightV (0, []) = true := by decide
theorem good_right (v : V) : rightV (good v) = true := by
  unfold good
  split
  · assumption
  · exact right_zero
theorem good_eq {v : V} (h : rightV v = true) : good v = v := if_pos h
theorem good_no {v : V} (h : rightV v = false) : good v = (0, []) := if_neg (by rw [h]; decide)
/-- Rising members with the same ones are one list. -/
theorem rise_uniq {l l' : List Mb} (h : l.Pairwise fun x y => x.1 < y.1) (h' : l'.Pairwise fun x y => x.1 < y.1) (hm : ∀ m, m ∈ l ↔ m ∈ l') : l = l' := by
  have nd : ∀ {k : List Mb}, (k.Pairwise fun x y => x.1 < y.1) → k.Nodup := fun hk => hk.imp fun hlt e => by subst e; omega
  have hp : l.Perm l' := (List.perm_ext_iff_of_nodup (nd h) (nd h')).2 hm
  exact hp.eq_of_pairwise (le := fun x y => x.1 < y.1) (fun a b _ _ h1 h2 => by omega) h h'
theorem incL_none : ∀ {l : List Mb} {x : Int}, (∀ m ∈ l, m.1 ≠ x) → incL l x = 0 := by
  intro l
  induction l with
  | nil => intro x _; rfl
  | cons b r ih =>
    intro x h
    rw [incL, if_neg (h b (by simp))]
    exact ih fun m hm => h m (by simp [hm])
theorem incL_mem : ∀ {l : List Mb} {a : Int}, riseM a l = true → ∀ m ∈ l, incL l m.1 = m.2 := by
  intro l
  induction l with
  | nil => intro a _ m hm; cases hm
  | cons b r ih =>
    intro a h m hm
    rw [riseM, Bool.and_eq_true, decide_eq_true_eq] at h
    rcases List.mem_cons.1 hm with rfl | hm
    · rw [incL, if_pos rfl]
    · have := riseM_mem h.2 m hm
      rw [incL, if_neg (by omega)]
      exact ih h.2 m hm
theorem incL_some : ∀ {l : List Mb} {x : Int}, incL l x ≠ 0 → (x, incL l x) ∈ l := by
  intro l
  induction l with
  | nil => intro x h; exact absurd rfl h
  | cons b r ih =>
    intro x h
    rw [incL] at h ⊢
    split
    · rename_i e; rw [← e]; exact List.mem_cons_self
    · rename_i e; rw [if_neg e] at h; exact List.mem_cons_of_mem _ (ih h)
theorem mem_inc {l : List Mb} {a : Int} (h : riseM a l = true) (m : Mb) : m ∈ l ↔ (incL l m.1 = m.2 ∧ m.2 ≠ 0) := by
  constructor
  · intro hm
    have := riseM_mem h m hm
    exact ⟨incL_mem h m hm, by omega⟩
  · rintro ⟨h1, h2⟩
    have := incL_some (l := l) (x := m.1) (by rw [h1]; exact h2)
    rw [h1] at this
    exact this
theorem incL_bd {l : List Mb} {a : Int} (h : riseM a l = true) (x : Int) : 0 ≤ incL l x ∧ incL l x ≤ 1099511627776 ∧ (incL l x ≠ 0 → 1 ≤ x ∧ x ≤ 99 ∧ a < x) := by
  by_cases h0 : incL l x = 0
  · rw [h0]; exact ⟨by omega, by omega, fun h => absurd rfl h⟩
  · have := riseM_mem h _ (incL_some h0)
    exact ⟨by omega, by omega, fun _ => ⟨this.1, this.2.1, this.2.2.2.2⟩⟩
theorem mayB_of {id inc : Int} (h : mayB id inc = true) : 1 ≤ id ∧ id ≤ 99 ∧ 1 ≤ inc ∧ inc ≤ 1099511627776 := by unfold mayB at h; exact of_decide_eq_true h
theorem mayB_yes {id inc : Int} (h : 1 ≤ id ∧ id ≤ 99 ∧ 1 ≤ inc ∧ inc ≤ 1099511627776) : mayB id inc = true := decide_eq_true h
theorem mayB_no {id inc : Int} (h : ¬ (1 ≤ id ∧ id ≤ 99 ∧ 1 ≤ inc ∧ inc ≤ 1099511627776)) : mayB id inc = false := decide_eq_false h
theorem incL_put : ∀ (l : List Mb) (a : Int), riseM a l = true → ∀ (id inc x : Int), incL (putL l id inc) x = if x = id then inc else incL l x := by
  intro l
  induction l with
  | nil =>
    intro a _ id inc x
    rw [putL, incL, incL]
    by_cases h : x = id
    · rw [if_pos h, if_pos h.symm]
    · rw [if_neg h, if_neg (fun e => h e.symm)]; rfl
  | cons b r ih =>
    intro a h id inc x
    rw [riseM, Bool.and_eq_true, decide_eq_true_eq] at h
    have ih := ih b.1 h.2 id inc x
    rw [putL]
    by_cases h1 : b.1 < id
    · rw [if_pos h1, incL, ih, incL]
      by_cases h2 : b.1 = x
      · rw [if_pos h2, if_pos h2, if_neg (by omega)]
      · rw [if_neg h2, if_neg h2]
    · rw [if_neg h1]
      by_cases h2 : b.1 = id
      · rw [if_pos h2, incL, incL]
        by_cases h3 : x = id
        · rw [if_pos h3.symm, if_pos h3]
        · rw [if_neg (fun e => h3 e.symm), if_neg h3, if_neg (by omega)]
      · rw [if_neg h2, incL]
        by_cases h3 : x = id
        · rw [if_pos h3.symm, if_pos h3]
        · rw [if_neg (fun e => h3 e.symm), if_neg h3]
theorem put_mem : ∀ (l : List Mb) (id inc : Int) (m : Mb), m ∈ putL l id inc → m = (id, inc) ∨ m ∈ l := by
  intro l
  induction l with
  | nil => intro id inc m h; simp [putL] at h; exact .inl h
  | cons b r ih =>
    intro id inc m h
    rw [putL] at h
    split at h
    · rcases List.mem_cons.1 h with rfl | h
      · exact .inr (by simp)
      · rcases ih id inc m h with h | h
        · exact .inl h
        · exact .inr (by simp [h])
    · split at h
      · rcases List.mem_cons.1 h with rfl | h
        · exact .inl rfl
        · exact .inr (by simp [h])
      · rcases List.mem_cons.1 h with rfl | h
        · exact .inl rfl
        · exact .inr h
theorem put_rise : ∀ (l : List Mb) (a : Int), riseM a l = true → ∀ (id inc : Int), mayB id inc = true → a < id → riseM a (putL l id inc) = true := by
  intro l
  induction l with
  | nil => intro a _ id inc h ha; have := mayB_of h; simp [putL, riseM]; omega
  | cons b r ih =>
    intro a h id inc hm ha
    have hb := mayB_of hm
    rw [riseM, Bool.and_eq_true, decide_eq_true_eq] at h
    rw [putL]
    split
    · rename_i h1
      rw [riseM, Bool.and_eq_true, decide_eq_true_eq]
      exact ⟨h.1, ih b.1 h.2 id inc hm h1⟩
    · split
      · rename_i h1 h2
        rw [riseM, Bool.and_eq_true, decide_eq_true_eq]
        exact ⟨by simp only; omega, by rw [← h2]; exact h.2⟩
      · rename_i h1 h2
        rw [riseM, Bool.and_eq_true, decide_eq_true_eq, riseM, Bool.and_eq_true, decide_eq_true_eq]
        exact ⟨by simp only; omega, by simp only; omega, h.2⟩
theorem put_len : ∀ (l : List Mb) (a : Int), riseM a l = true → ∀ (id inc : Int), (putL l id inc).length = if incL l id = 0 then l.length + 1 else l.length := by
  intro l
  induction l with
  | nil => intro a _ id inc; rfl
  | cons b r ih =>
    intro a h id inc
    rw [riseM, Bool.and_eq_true, decide_eq_true_eq] at h
    have ih := ih b.1 h.2 id inc
    rw [putL, incL]
    by_cases h1 : b.1 < id
    · rw [if_pos h1, if_neg (show ¬ b.1 = id by omega), List.length_cons, ih, List.length_cons]
      split <;> omega
    · rw [if_neg h1]
      by_cases h2 : b.1 = id
      · rw [if_pos h2, if_pos h2, if_neg (by omega)]; rfl
      · have h3 : incL r id = 0 := incL_none fun m hm => by have := riseM_mem h.2 m hm; omega
        rw [if_neg h2, if_neg h2, if_pos h3]; rfl
theorem del_rise {l : List Mb} {a : Int} (h : riseM a l = true) (id : Int) : riseM a (delL l id) = true :=
  riseM_of ((riseM_pairs h).filter _) fun m hm => riseM_mem h m (List.mem_filter.1 hm).1
theorem incL_del : ∀ (l : List Mb) (id x : Int), incL (delL l id) x = if x = id then 0 else incL l x := by
  intro l
  induction l with
  | nil => intro id x; simp [delL, incL]
  | cons b r ih =>
    intro id x
    have ih := ih id x
    unfold delL at ih ⊢
    by_cases h1 : b.1 = id
    · rw [List.filter_cons_of_neg (by simpa using h1), ih, incL]
      by_cases h2 : x = id
      · rw [if_pos h2, if_pos h2]
      · rw [if_neg h2, if_neg h2, if_neg (by omega)]
    · rw [List.filter_cons_of_pos (by simpa using h1), incL, ih, incL]
      by_cases h2 : b.1 = x
      · rw [if_pos h2, if_pos h2, if_neg (by omega)]
      · rw [if_neg h2, if_neg h2]
theorem del_len (l : List Mb) (id : Int) : (delL l id).length ≤ l.length := List.length_filter_le _ _
theorem joinE_0 {g : V} {id inc : Int} (h : joinE g id inc = 0) : mayB id inc = true ∧ g.1 ≠ 1099511627776 ∧ incL g.2 id ≠ inc ∧ ¬ inc < incL g.2 id ∧ ¬ (incL g.2 id = 0 ∧ g.2.length = 5) := by
  unfold joinE at h
  split at h
  · rename_i h1
    split at h
    · cases h
    · rename_i h2
      split at h
      · cases h
      · rename_i h3
        split at h
        · cases h
        · rename_i h4
          split at h
          · cases h
          · rename_i h5
            exact ⟨h1, h2, h3, h4, h5⟩
  · cases h
theorem join_right {g : V} (hg : rightV g = true) (id inc : Int) : rightV (joinG g id inc) = true := by
  unfold joinG
  split
  · rename_i h
    obtain ⟨h1, h2, h3, h4, h5⟩ := joinE_0 h
    have hn := right_num hg
    have hl := put_len g.2 0 (right_rise hg) id inc
    have hm := mayB_of h1
    unfold rightV
    rw [Bool.and_eq_true, decide_eq_true_eq]
    refine ⟨⟨by simp only; omega, by simp only; omega, ?_⟩, put_rise _ _ (right_rise hg) _ _ h1 (by omega)⟩
    simp only
    rw [hl]
    split <;> omega
  · exact hg
theorem leaveE_0 {g : V} {id : Int} (h : leaveE g id = 0) : incL g.2 id ≠ 0 ∧ g.1 ≠ 1099511627776 := by
  unfold leaveE at h
  split at h
  · cases h
  · rename_i h1
    split at h
    · cases h
    · rename_i h2; exact ⟨h1, h2⟩
theorem leave_right {g : V} (hg : rightV g = true) (id : Int) : rightV (leaveG g id) = true := by
  unfold leaveG
  split
  · rename_i h
    obtain ⟨h1, h2⟩ := leaveE_0 h
    have hn := right_num hg
    have hl := del_len g.2 id
    unfold rightV
    rw [Bool.and_eq_true, decide_eq_true_eq]
    exact ⟨⟨by simp only; omega, by simp only; omega, by simp only; omega⟩, del_rise (right_rise hg) id⟩
  · exact hg
theorem act_right {g : V} (hg : rightV g = true) (k id inc : Int) : rightV (actG g k id inc) = true := by
  unfold actG
  split
  · exact join_right hg id inc
  · exact leave_right hg id
/-- Views that follow one another have numbers that rise by one; what is refused changes nothing. -/
theorem act_num {g : V} (k id inc : Int) : (actE g k id inc = 0 → (actG g k id inc).1 = g.1 + 1) ∧ (actE g k id inc ≠ 0 → actG g k id inc = g) := by
  unfold actE actG
  split
  · unfold joinG
    exact ⟨fun h => by rw [if_pos h], fun h => by rw [if_neg h]⟩
  · unfold leaveG
    exact ⟨fun h => by rw [if_pos h], fun h => by rw [if_neg h]⟩
/-- An incarnation never falls, as long as its worker is a member. -/
theorem act_inc {g : V} (hg : rightV g = true) (k id inc x : Int) : incL (actG g k id inc).2 x = 0 ∨ incL g.2 x ≤ incL (actG g k id inc).2 x := by
  unfold actG
  split
  · unfold joinG
    split
    · rename_i h
      obtain ⟨h1, h2, h3, h4, h5⟩ := joinE_0 h
      right
      rw [incL_put g.2 0 (right_rise hg)]
      split
      · rename_i e; rw [e]; omega
      · exact Int.le_refl _
    · exact .inr (Int.le_refl _)
  · unfold leaveG
    split
    · rw [incL_del]
      split
      · exact .inl rfl
      · exact .inr (Int.le_refl _)
    · exact .inr (Int.le_refl _)
/-- One that was no member, comes and goes again, leaves the members as they were. -/
theorem del_put {l : List Mb} {id inc : Int} (h : riseM 0 l = true) (hm : mayB id inc = true) (h0 : incL l id = 0) : delL (putL l id inc) id = l := by
  have hid := mayB_of hm
  have hp := put_rise l 0 h id inc hm (by omega)
  have hd := del_rise hp id
  refine rise_uniq (riseM_pairs hd) (riseM_pairs h) fun m => ?_
  rw [mem_inc hd, mem_inc h, incL_del, incL_put l 0 h]
  by_cases e : m.1 = id
  · rw [if_pos e, e, h0]
  · rw [if_neg e, if_neg e]
/-- All Ids that there may be, one by one. -/
def allF (f : Int → Int) (n : Nat) : List Mb := (List.range n).filterMap fun (k : Nat) => if 0 < f ((k : Int) + 1) then some ((k : Int) + 1, f ((k : Int) + 1)) else none
theorem allF_succ (f : Int → Int) (n : Nat) : allF f (n + 1) = allF f n ++ (if 0 < f ((n : Int) + 1) then [((n : Int) + 1, f ((n : Int) + 1))] else []) := by
  unfold allF
  rw [List.range_succ, List.filterMap_append]
  congr 1
  by_cases h : 0 < f ((n : Int) + 1) <;> simp [h]
theorem allF_mem (f : Int → Int) (n : Nat) (m : Mb) : m ∈ allF f n ↔ (1 ≤ m.1 ∧ m.1 ≤ n ∧ 0 < f m.1 ∧ f m.1 = m.2) := by
  induction n with
  | zero => simp [allF]; omega
  | succ n ih =>
    rw [allF_succ, List.mem_append, ih]
    obtain ⟨x, y⟩ := m
    by_cases h : 0 < f ((n : Int) + 1)
    · rw [if_pos h, List.mem_singleton, Prod.mk.injEq]
      simp only
      constructor
      · rintro (h1 | ⟨h1, h2⟩)
        · exact ⟨h1.1, by omega, h1.2.2⟩
        · subst h1; exact ⟨by omega, by omega, h, h2.symm⟩
      · rintro ⟨h1, h2, h3, h4⟩
        by_cases e : x = (n : Int) + 1
        · exact .inr ⟨e, by rw [← e]; exact h4.symm⟩
        · exact .inl ⟨h1, by omega, h3, h4⟩
    · rw [if_neg h]
      simp only [List.not_mem_nil, or_false]
      constructor
      · rintro h1; exact ⟨h1.1, by omega, h1.2.2⟩
      · rintro ⟨h1, h2, h3, h4⟩
        by_cases e : x = (n : Int) + 1
        · rw [e] at h3; exact absurd h3 h
        · exact ⟨h1, by omega, h3, h4⟩
theorem allF_pairs (f : Int → Int) (n : Nat) : (allF f n).Pairwise fun x y => x.1 < y.1 := by
  induction n with
  | zero => exact List.Pairwise.nil
  | succ n ih =>
    rw [allF_succ]
    refine List.pairwise_append.2 ⟨ih, ?_, ?_⟩
    · split <;> simp
    · intro a ha b hb
      have := (allF_mem f n a).1 ha
      split at hb
      · simp at hb; subst hb; simp only; omega
      · cases hb
theorem allF_len (f : Int → Int) (n : Nat) : (allF f n).length ≤ n := by
  unfold allF
  exact Nat.le_trans (List.length_filterMap_le _ _) (by simp)
theorem allF_put {l : List Mb} {id inc : Int} (h : riseM 0 l = true) (hm : mayB id inc = true) : allF (fun x => if x = id then inc else incL l x) 99 = putL l id inc := by
  have hid := mayB_of hm
  have hp := put_rise l 0 h id inc hm (by omega)
  refine rise_uniq (allF_pairs _ _) (riseM_pairs hp) fun m => ?_
  rw [mem_inc hp, incL_put l 0 h, allF_mem]
  have hb := incL_bd h m.1
  constructor
  · rintro ⟨h1, h2, h3, h4⟩; exact ⟨h4, by omega⟩
  · rintro ⟨h1, h2⟩
    refine ⟨?_, ?_, ?_, h1⟩
    · split at h1 <;> omega
    · split at h1 <;> omega
    · rw [h1]; split at h1 <;> omega
end Go.Proofs.Ytemcmhpfpfmgdaa
