import Derived.Test.YtpgdddjjjfkneaaGreatDoorKi
import Derived.Test.YtpgdddjjjfkneaaGreatDoorKf
/-
  Plain mathematics of messages: as cells, in order, folded; folded in parts. No condition.
-/
namespace Go.Proofs.YtpgdddjjjfkneaaGreatDoor
open Go.RowKit Go.Sort
set_option linter.unusedVariables false

theorem lessI_sym (a b : Int) : lessI a b = lessI b a := by unfold lessI; split <;> split <;> omega
theorem greatI_sym (a b : Int) : greatI a b = greatI b a := by unfold greatI; split <;> split <;> omega
theorem lessI_assoc (a b c : Int) : lessI (lessI a b) c = lessI a (lessI b c) := by unfold lessI; repeat' split <;> omega
theorem greatI_assoc (a b c : Int) : greatI (greatI a b) c = greatI a (greatI b c) := by unfold greatI; repeat' split <;> omega
theorem fdE_zero {p a b : Int} (h : fdE p a b = 0) : (1 ≤ p ∧ p ≤ 5) ∧ foldB p a b = true := by
  unfold fdE at h
  by_cases hp : 1 ≤ p ∧ p ≤ 5
  · rw [if_pos hp] at h
    by_cases hf : foldB p a b = true
    · exact ⟨hp, hf⟩
    · rw [if_neg hf] at h; cases h
  · rw [if_neg hp] at h; cases h
theorem fdX_of {p a b : Int} (h : fdE p a b = 0) : fdX p a b = foldX p a b := by
  obtain ⟨hp, hf⟩ := fdE_zero h
  unfold fdX
  rw [if_pos hp, if_pos hf]
theorem told_of {n : Int} (h : fits n = true) : told n = n := by unfold told; rw [if_pos h]
theorem mAt_get (ms : List Ms) (k : Nat) (h : k < ms.length) : mAt ms k = ms[k] := by unfold mAt; simp [List.getD, List.getElem?_eq_getElem h]
theorem mc_set (ms : List Ms) (k : Nat) (x y : Int) : ((mc ms).set (k * 2) (.int .i64 x)).set (k * 2 + 1) (.int .i64 y) = mc (ms.set k (x, y)) := by
  induction ms generalizing k with
  | nil => simp [mc]
  | cons e r ih =>
    cases k with
    | zero => simp [mc]
    | succ k =>
      have := ih k
      have e1 : (k + 1) * 2 = k * 2 + 1 + 1 := by omega
      rw [e1]
      show (((Value.int .i64 e.1 :: Value.int .i64 e.2 :: mc r).set (k * 2 + 1 + 1) _).set (k * 2 + 1 + 1 + 1) _) = Value.int .i64 e.1 :: Value.int .i64 e.2 :: mc (r.set k (x, y))
      rw [← this]; rfl
theorem mc_set2 (ms : List Ms) (k : Nat) (h : k < ms.length) (y : Int) : (mc ms).set (k * 2 + 1) (.int .i64 y) = mc (ms.set k ((mAt ms k).1, y)) := by
  rw [← mc_set]
  congr 1
  apply List.ext_getElem?
  intro j
  rw [List.getElem?_set]
  split
  · rename_i e
    subst e
    rw [if_pos (by rw [mc_length]; omega)]
    exact (mc_at ms k h).1
  · rfl
/-- A message is put at its place. -/
def ins (m : Ms) : List Ms → List Ms
  | [] => [m]
  | x :: r => if ltM m x then m :: x :: r else x :: ins m r
/-- Messages in order. -/
def msort : List Ms → List Ms
  | [] => []
  | m :: r => ins m (msort r)
theorem ins_perm (m : Ms) (l : List Ms) : (ins m l).Perm (m :: l) := by
  induction l with
  | nil => exact List.Perm.refl _
  | cons x r ih =>
    unfold ins
    split
    · exact List.Perm.refl _
    · exact (List.Perm.cons x ih).trans (List.Perm.swap m x r)
theorem msort_perm (l : List Ms) : (msort l).Perm l := by
  induction l with
  | nil => exact List.Perm.refl _
  | cons m r ih => exact (ins_perm m _).trans (List.Perm.cons m ih)
theorem msort_len (l : List Ms) : (msort l).length = l.length := (msort_perm l).length_eq
/-- In order. -/
def Srt (l : List Ms) : Prop := l.Pairwise fun a b => ltM b a = false
theorem ins_srt (m : Ms) (l : List Ms) (h : Srt l) : Srt (ins m l) := by
  induction l with
  | nil => exact List.pairwise_singleton _ _
  | cons x r ih =>
    obtain ⟨h1, h2⟩ := List.pairwise_cons.1 h
    unfold ins
    split
    · rename_i hl
      refine List.pairwise_cons.2 ⟨fun y hy => ?_, h⟩
      have hx : ltM x m = false := asym ltM_swo hl
      rcases List.mem_cons.1 hy with rfl | hy
      · exact hx
      · exact ltM_swo.ntrans y x m (h1 y hy) hx
    · rename_i hl
      refine List.pairwise_cons.2 ⟨fun y hy => ?_, ih h2⟩
      rcases List.mem_cons.1 ((ins_perm m r).mem_iff.1 hy) with rfl | hy
      · simpa using hl
      · exact h1 y hy
theorem msort_srt (l : List Ms) : Srt (msort l) := by
  induction l with
  | nil => exact List.Pairwise.nil
  | cons m r ih => exact ins_srt m _ ih
theorem srt_uniq (a b : List Ms) (ha : Srt a) (hb : Srt b) (h : a.Perm b) : a = b := by
  induction a generalizing b with
  | nil => exact (List.nil_perm.1 h).symm
  | cons x a ih =>
    cases b with
    | nil => exact absurd h.length_eq (by simp)
    | cons y b =>
      obtain ⟨a1, a2⟩ := List.pairwise_cons.1 ha
      obtain ⟨b1, b2⟩ := List.pairwise_cons.1 hb
      have e : x = y := by
        rcases List.mem_cons.1 (h.mem_iff.1 (List.mem_cons_self ..)) with e | hx
        · exact e
        rcases List.mem_cons.1 (h.mem_iff.2 (List.mem_cons_self ..)) with e | hy
        · exact e.symm
        exact ltM_total x y (b1 x hx) (a1 y hy)
      subst e
      rw [ih b a2 b2 (List.Perm.cons_inv h)]
theorem msort_of {a b : List Ms} (h : a.Perm b) : msort a = msort b :=
  srt_uniq _ _ (msort_srt a) (msort_srt b) ((msort_perm a).trans (h.trans (msort_perm b).symm))
theorem msort_is {a b : List Ms} (h : b.Perm a) (hs : Srt b) : b = msort a := srt_uniq _ _ hs (msort_srt a) (h.trans (msort_perm a).symm)
theorem srt_to {l : List Ms} (h : Srt l) : l.Pairwise fun a b => a.1 ≤ b.1 := h.imp fun {a b} e => by rw [ltM_not] at e; omega
/-- What messages in order, of which the first is m, are folded into. -/
def fl (p : Int) : Ms → List Ms → Option (List Ms)
  | m, [] => some [m]
  | m, x :: r => if x.1 = m.1 then (if fdE p m.2 x.2 = 0 then fl p (m.1, fdX p m.2 x.2) r else none) else (fl p x r).map (m :: ·)
def fdL (p : Int) : List Ms → Option (List Ms)
  | [] => some []
  | m :: r => fl p m r
/-- What Fold answers. -/
def fdR (p : Int) (l : List Ms) : List Ms := if 1 ≤ p ∧ p ≤ 5 then (fdL p (msort l)).getD [] else []
def fdC (p : Int) (l : List Ms) : Int := if 1 ≤ p ∧ p ≤ 5 then (if (fdL p (msort l)).isSome then 0 else 8) else 1
theorem fl_same {p : Int} {m x : Ms} {r : List Ms} (h : x.1 = m.1) (he : fdE p m.2 x.2 = 0) : fl p m (x :: r) = fl p (m.1, fdX p m.2 x.2) r := by
  show (if x.1 = m.1 then _ else _) = _
  rw [if_pos h, if_pos he]
theorem fl_none {p : Int} {m x : Ms} {r : List Ms} (h : x.1 = m.1) (he : ¬ fdE p m.2 x.2 = 0) : fl p m (x :: r) = none := by
  show (if x.1 = m.1 then _ else _) = _
  rw [if_pos h, if_neg he]
theorem fl_next {p : Int} {m x : Ms} {r : List Ms} (h : ¬ x.1 = m.1) : fl p m (x :: r) = (fl p x r).map (m :: ·) := by
  show (if x.1 = m.1 then _ else _) = _
  rw [if_neg h]
/-- Two numbers together, however great. -/
def ex (p a b : Int) : Int := if p = 5 then a + b else if p = 4 then greatI a b else lessI a b
theorem ex_comm (p a b : Int) : ex p a b = ex p b a := by unfold ex; rw [Int.add_comm, greatI_sym, lessI_sym]
theorem ex_assoc (p a b c : Int) : ex p (ex p a b) c = ex p a (ex p b c) := by
  unfold ex
  by_cases h5 : p = 5
  · simp only [if_pos h5]; omega
  · simp only [if_neg h5]
    by_cases h4 : p = 4
    · simp only [if_pos h4]; exact greatI_assoc a b c
    · simp only [if_neg h4]; exact lessI_assoc a b c
theorem fdX_ex {p a b : Int} (h : fdE p a b = 0) : fdX p a b = ex p a b := by
  rw [fdX_of h]
  obtain ⟨hp, hf⟩ := fdE_zero h
  unfold foldX ex
  by_cases h5 : p = 5
  · subst h5
    rw [if_pos rfl, if_pos rfl]
    exact told_of hf
  · rw [if_neg h5, if_neg h5]
theorem fdX_bd {p a b : Int} (ha : bd a) (hb : bd b) : bd (fdX p a b) := by
  unfold fdX
  split
  · split
    · exact foldX_bd ha hb
    · exact ⟨by decide, by decide⟩
  · exact ⟨by decide, by decide⟩
theorem fdE_bad {p a b : Int} (hp : 1 ≤ p ∧ p ≤ 5) (h : ¬ fdE p a b = 0) : p = 5 ∧ ¬ fits (a + b) = true ∧ fdE p a b = 8 := by
  unfold fdE at h ⊢
  rw [if_pos hp] at h ⊢
  by_cases hf : foldB p a b = true
  · rw [if_pos hf] at h; exact absurd rfl h
  · rw [if_neg hf]
    unfold foldB at hf
    by_cases h5 : p = 5
    · rw [if_pos h5] at hf; exact ⟨h5, hf, rfl⟩
    · rw [if_neg h5] at hf; exact absurd rfl hf
/-- Something, or nothing, together. -/
def cmb (p : Int) : Option Int → Option Int → Option Int
  | none, b => b
  | some a, none => some a
  | some a, some b => some (ex p a b)
theorem cmb_assoc (p : Int) (a b c : Option Int) : cmb p (cmb p a b) c = cmb p a (cmb p b c) := by
  cases a <;> cases b <;> cases c <;> simp [cmb, ex_assoc]
theorem cmb_comm (p : Int) (a b : Option Int) : cmb p a b = cmb p b a := by
  cases a <;> cases b <;> simp [cmb]
  exact ex_comm _ _ _
/-- What came to t in all. -/
def tot (p t : Int) : List Ms → Option Int
  | [] => none
  | m :: r => if m.1 = t then cmb p (some m.2) (tot p t r) else tot p t r
theorem tot_append (p t : Int) (a b : List Ms) : tot p t (a ++ b) = cmb p (tot p t a) (tot p t b) := by
  induction a with
  | nil => rfl
  | cons m r ih =>
    show (if m.1 = t then cmb p (some m.2) (tot p t (r ++ b)) else tot p t (r ++ b)) = cmb p (if m.1 = t then _ else _) _
    rw [ih]
    split
    · rw [cmb_assoc]
    · rfl
theorem tot_perm (p t : Int) {a b : List Ms} (h : a.Perm b) : tot p t a = tot p t b := by
  induction h with
  | nil => rfl
  | cons x _ ih => simp only [tot, ih]
  | swap x y l =>
    simp only [tot]
    split
    · split
      · rw [← cmb_assoc, ← cmb_assoc, cmb_comm p (some y.2)]
      · rfl
    · rfl
  | trans _ _ h1 h2 => exact h1.trans h2
theorem tot_none {p t : Int} {l : List Ms} : tot p t l = none ↔ ∀ m ∈ l, m.1 ≠ t := by
  induction l with
  | nil => simp [tot]
  | cons m r ih =>
    simp only [tot]
    by_cases e : m.1 = t
    · rw [if_pos e]
      constructor
      · intro h
        cases hr : tot p t r <;> rw [hr] at h <;> cases h
      · intro h; exact absurd e (h m (List.mem_cons_self ..))
    · rw [if_neg e, ih]
      constructor
      · intro h x hx
        rcases List.mem_cons.1 hx with rfl | hx
        · exact e
        · exact h x hx
      · intro h x hx; exact h x (List.mem_cons_of_mem _ hx)
theorem tot_some {p t v : Int} {l : List Ms} (h : tot p t l = some v) : ∃ m ∈ l, m.1 = t := by
  apply Classical.byContradiction
  intro hn
  rw [tot_none.2 (fun m hm e => hn ⟨m, hm, e⟩)] at h
  cases h
theorem tot_nonneg {t v : Int} {l : List Ms} (hl : ∀ m ∈ l, 0 ≤ m.2) (h : tot 5 t l = some v) : 0 ≤ v := by
  induction l generalizing v with
  | nil => cases h
  | cons m r ih =>
    have h0 := hl m (List.mem_cons_self ..)
    have hr := fun x hx => hl x (List.mem_cons_of_mem m hx)
    simp only [tot] at h
    split at h
    · cases e : tot 5 t r with
      | none => rw [e] at h; injection h with h; omega
      | some u =>
        rw [e] at h
        injection h with h
        have := ih hr e
        unfold ex at h
        rw [if_pos rfl] at h
        omega
    · exact ih hr h
/-- Rising. -/
def Ris (l : List Ms) : Prop := l.Pairwise fun a b => a.1 < b.1
theorem ris_tot {p : Int} {m : Ms} {r : List Ms} (h : Ris (m :: r)) : tot p m.1 (m :: r) = some m.2 ∧ tot p m.1 r = none := by
  obtain ⟨h1, h2⟩ := List.pairwise_cons.1 h
  have e : tot p m.1 r = none := tot_none.2 fun x hx => by have := h1 x hx; omega
  refine ⟨?_, e⟩
  simp only [tot]
  rw [if_pos trivial, e]; rfl
theorem ris_one {l : List Ms} (h : Ris l) : ∀ a ∈ l, ∀ b ∈ l, a.1 = b.1 → a = b := by
  induction l with
  | nil => intro a ha; cases ha
  | cons m r ih =>
    obtain ⟨h1, h2⟩ := List.pairwise_cons.1 h
    intro a ha b hb e
    rcases List.mem_cons.1 ha with rfl | ha2
    · rcases List.mem_cons.1 hb with rfl | hb2
      · rfl
      · have := h1 b hb2; omega
    · rcases List.mem_cons.1 hb with rfl | hb2
      · have := h1 a ha2; omega
      · exact ih h2 a ha2 b hb2 e
theorem ris_uniq (p : Int) (x y : List Ms) (hx : Ris x) (hy : Ris y) (h : ∀ t, tot p t x = tot p t y) : x = y := by
  induction x generalizing y with
  | nil =>
    cases y with
    | nil => rfl
    | cons b y => have := h b.1; rw [(ris_tot hy).1] at this; cases this
  | cons a x ih =>
    cases y with
    | nil => have := h a.1; rw [(ris_tot hx).1] at this; cases this
    | cons b y =>
      obtain ⟨hx1, hx2⟩ := List.pairwise_cons.1 hx
      obtain ⟨hy1, hy2⟩ := List.pairwise_cons.1 hy
      have ha := h a.1
      rw [(ris_tot hx).1] at ha
      have hb := h b.1
      rw [(ris_tot hy).1] at hb
      obtain ⟨m, hm, e1⟩ := tot_some ha.symm
      obtain ⟨k, hk, e2⟩ := tot_some hb
      have le1 : b.1 ≤ a.1 := by
        rcases List.mem_cons.1 hm with rfl | hm
        · omega
        · have := hy1 m hm; omega
      have le2 : a.1 ≤ b.1 := by
        rcases List.mem_cons.1 hk with rfl | hk
        · omega
        · have := hx1 k hk; omega
      have e : a.1 = b.1 := by omega
      rw [← e, (ris_tot hx).1] at hb
      injection hb with hb
      have eab : a = b := Prod.ext e hb
      subst eab
      congr 1
      refine ih y hx2 hy2 fun t => ?_
      by_cases et : a.1 = t
      · subst et
        rw [(ris_tot (p := p) hx).2, (ris_tot (p := p) hy).2]
      · have := h t
        simp only [tot] at this
        rwa [if_neg et, if_neg et] at this
/-- What is folded: one message for each, rising, with what came in all. -/
theorem fl_some (p : Int) (r : List Ms) : ∀ (m : Ms) (y : List Ms), (m :: r).Pairwise (fun a b => a.1 ≤ b.1) → (∀ e ∈ m :: r, bd e.2) → fl p m r = some y →
    Ris y ∧ (∀ t, tot p t y = tot p t (m :: r)) ∧ ∀ e ∈ y, bd e.2 := by
  induction r with
  | nil =>
    intro m y _ hb h
    injection h with h
    subst h
    exact ⟨List.pairwise_singleton _ _, fun _ => rfl, hb⟩
  | cons x r ih =>
    intro m y hs hb h
    obtain ⟨h1, h2⟩ := List.pairwise_cons.1 hs
    obtain ⟨h3, h4⟩ := List.pairwise_cons.1 h2
    have bm := hb m (List.mem_cons_self ..)
    have bx := hb x (by simp)
    by_cases e : x.1 = m.1
    · by_cases he : fdE p m.2 x.2 = 0
      · rw [fl_same e he] at h
        obtain ⟨r1, r2, r3⟩ := ih (m.1, fdX p m.2 x.2) y (List.pairwise_cons.2 ⟨fun z hz => h1 z (List.mem_cons_of_mem _ hz), h4⟩) (fun z hz => by
          rcases List.mem_cons.1 hz with rfl | hz
          · exact fdX_bd bm bx
          · exact hb z (by simp [hz])) h
        refine ⟨r1, fun t => ?_, r3⟩
        rw [r2 t]
        simp only [tot, fdX_ex he, e]
        split
        · rw [← cmb_assoc]; rfl
        · rfl
      · rw [fl_none e he] at h; cases h
    · rw [fl_next e] at h
      cases hf : fl p x r with
      | none => rw [hf] at h; cases h
      | some z =>
        rw [hf] at h
        injection h with h
        subst h
        obtain ⟨r1, r2, r3⟩ := ih x z h2 (fun q hq => hb q (List.mem_cons_of_mem _ hq)) hf
        refine ⟨List.pairwise_cons.2 ⟨fun q hq => ?_, r1⟩, fun t => ?_, fun q hq => ?_⟩
        · have hn : tot p q.1 (x :: r) ≠ none := by rw [← r2 q.1]; intro hh; exact tot_none.1 hh q hq rfl
          obtain ⟨v, hv⟩ := Option.ne_none_iff_exists'.1 hn
          obtain ⟨k, hk, ek⟩ := tot_some hv
          have hxk : x.1 ≤ k.1 := by
            rcases List.mem_cons.1 hk with rfl | hk
            · exact Int.le_refl _
            · exact h3 k hk
          have := h1 x (List.mem_cons_self ..)
          omega
        · show (if m.1 = t then cmb p (some m.2) (tot p t z) else tot p t z) = (if m.1 = t then cmb p (some m.2) (tot p t (x :: r)) else tot p t (x :: r))
          rw [r2 t]
        · rcases List.mem_cons.1 hq with rfl | hq
          · exact bm
          · exact r3 q hq
/-- If it can't be folded, something is too great in all. -/
theorem fl_too (p : Int) (hp : 1 ≤ p ∧ p ≤ 5) (r : List Ms) : ∀ (m : Ms), (m :: r).Pairwise (fun a b => a.1 ≤ b.1) → (∀ e ∈ m :: r, bd e.2) → (p = 5 → ∀ e ∈ m :: r, 0 ≤ e.2) → fl p m r = none →
    p = 5 ∧ ∃ t v, tot p t (m :: r) = some v ∧ 9223372036854775807 < v := by
  induction r with
  | nil => intro m _ _ _ h; cases h
  | cons x r ih =>
    intro m hs hb h0 h
    obtain ⟨h1, h2⟩ := List.pairwise_cons.1 hs
    obtain ⟨h3, h4⟩ := List.pairwise_cons.1 h2
    have bm := hb m (List.mem_cons_self ..)
    have bx := hb x (by simp)
    by_cases e : x.1 = m.1
    · by_cases he : fdE p m.2 x.2 = 0
      · rw [fl_same e he] at h
        obtain ⟨h5, t, v, hv, hl⟩ := ih (m.1, fdX p m.2 x.2) (List.pairwise_cons.2 ⟨fun z hz => h1 z (List.mem_cons_of_mem _ hz), h4⟩) (fun z hz => by
          rcases List.mem_cons.1 hz with rfl | hz
          · exact fdX_bd bm bx
          · exact hb z (by simp [hz])) (fun h5 z hz => by
          rcases List.mem_cons.1 hz with rfl | hz
          · show 0 ≤ fdX p m.2 x.2
            rw [fdX_ex he]
            unfold ex
            rw [if_pos h5]
            have := h0 h5 m (List.mem_cons_self ..)
            have := h0 h5 x (by simp)
            omega
          · exact h0 h5 z (by simp [hz])) h
        refine ⟨h5, t, v, ?_, hl⟩
        rw [← hv]
        simp only [tot, fdX_ex he, e]
        split
        · rw [← cmb_assoc]; rfl
        · rfl
      · obtain ⟨h5, hf, _⟩ := fdE_bad hp he
        subst h5
        have hm0 := h0 rfl m (List.mem_cons_self ..)
        have hx0 := h0 rfl x (by simp)
        have hbig : 9223372036854775807 < m.2 + x.2 := by
          unfold fits at hf
          simp at hf
          omega
        refine ⟨rfl, m.1, ?_⟩
        simp only [tot, e, if_pos]
        cases hr : tot 5 m.1 r with
        | none => exact ⟨_, rfl, hbig⟩
        | some u =>
          have := tot_nonneg (fun z hz => h0 rfl z (by simp [hz])) hr
          refine ⟨_, rfl, ?_⟩
          simp only [ex, if_pos]
          omega
    · rw [fl_next e] at h
      cases hf : fl p x r with
      | some z => rw [hf] at h; cases h
      | none =>
        obtain ⟨h5, t, v, hv, hl⟩ := ih x h2 (fun q hq => hb q (List.mem_cons_of_mem _ hq)) (fun h5 q hq => h0 h5 q (List.mem_cons_of_mem _ hq)) hf
        refine ⟨h5, t, v, ?_, hl⟩
        obtain ⟨k, hk, ek⟩ := tot_some hv
        have hxk : x.1 ≤ k.1 := by
          rcases List.mem_cons.1 hk with rfl | hk
          · exact Int.le_refl _
          · exact h3 k hk
        have := h1 x (List.mem_cons_self ..)
        show (if m.1 = t then cmb p (some m.2) (tot p t (x :: r)) else tot p t (x :: r)) = _
        rw [if_neg (by omega)]
        exact hv
theorem fold_some {p : Int} {l y : List Ms} (hb : ∀ e ∈ l, bd e.2) (h : fdL p (msort l) = some y) : Ris y ∧ (∀ t, tot p t y = tot p t l) ∧ ∀ e ∈ y, bd e.2 := by
  have hs := srt_to (msort_srt l)
  have hb' : ∀ e ∈ msort l, bd e.2 := fun e he => hb e ((msort_perm l).mem_iff.1 he)
  have ht := fun t => tot_perm p t (msort_perm l)
  cases hm : msort l with
  | nil =>
    rw [hm] at h ht
    injection h with h
    subst h
    exact ⟨List.Pairwise.nil, ht, fun _ h => by cases h⟩
  | cons m r =>
    rw [hm] at h hs hb' ht
    obtain ⟨r1, r2, r3⟩ := fl_some p r m y hs hb' h
    exact ⟨r1, fun t => (r2 t).trans (ht t), r3⟩
theorem fold_too {p : Int} {l : List Ms} (hp : 1 ≤ p ∧ p ≤ 5) (hb : ∀ e ∈ l, bd e.2) (h0 : p = 5 → ∀ e ∈ l, 0 ≤ e.2) (h : fdL p (msort l) = none) : p = 5 ∧ ∃ t v, tot p t l = some v ∧ 9223372036854775807 < v := by
  have hs := srt_to (msort_srt l)
  have hb' : ∀ e ∈ msort l, bd e.2 := fun e he => hb e ((msort_perm l).mem_iff.1 he)
  have h0' : p = 5 → ∀ e ∈ msort l, 0 ≤ e.2 := fun h5 e he => h0 h5 e ((msort_perm l).mem_iff.1 he)
  have ht := fun t => tot_perm p t (msort_perm l)
  cases hm : msort l with
  | nil => rw [hm] at h; cases h
  | cons m r =>
    rw [hm] at h hs hb' ht h0'
    obtain ⟨h5, t, v, hv, hl⟩ := fl_too p hp r m hs hb' h0' h
    exact ⟨h5, t, v, (ht t).symm.trans hv, hl⟩
theorem tot_ris {p t v : Int} {y : List Ms} (hr : Ris y) (h : tot p t y = some v) : ∃ e ∈ y, e.1 = t ∧ e.2 = v := by
  induction y with
  | nil => cases h
  | cons m r ih =>
    by_cases e : m.1 = t
    · subst e
      rw [(ris_tot hr).1] at h
      injection h with h
      exact ⟨m, List.mem_cons_self .., rfl, h⟩
    · simp only [tot] at h
      rw [if_neg e] at h
      obtain ⟨k, hk, e1⟩ := ih (List.pairwise_cons.1 hr).2 h
      exact ⟨k, List.mem_cons_of_mem _ hk, e1⟩
theorem fold_fits {p t v : Int} {l y : List Ms} (hb : ∀ e ∈ l, bd e.2) (h : fdL p (msort l) = some y) (ht : tot p t l = some v) : bd v := by
  obtain ⟨r1, r2, r3⟩ := fold_some hb h
  rw [← r2 t] at ht
  obtain ⟨e, he, _, e2⟩ := tot_ris r1 ht
  rw [← e2]
  exact r3 e he
theorem parts_no {p : Int} {a b : List Ms} (hp : 1 ≤ p ∧ p ≤ 5) (ha : ∀ e ∈ a, bd e.2) (hb : ∀ e ∈ b, bd e.2) (h0 : p = 5 → ∀ e ∈ a ++ b, 0 ≤ e.2)
    (h : fdL p (msort a) = none ∨ fdL p (msort b) = none) : fdL p (msort (a ++ b)) = none := by
  have bab : ∀ e ∈ a ++ b, bd e.2 := fun e he => by
    rcases List.mem_append.1 he with he | he
    · exact ha e he
    · exact hb e he
  have key : ∀ t v, tot p t a = some v ∧ 9223372036854775807 < v ∨ tot p t b = some v ∧ 9223372036854775807 < v → p = 5 → ∃ u, tot p t (a ++ b) = some u ∧ 9223372036854775807 < u := by
    intro t v hv h5
    subst h5
    rw [tot_append]
    rcases hv with ⟨hv, hl⟩ | ⟨hv, hl⟩
    · rw [hv]
      cases hb2 : tot 5 t b with
      | none => exact ⟨v, rfl, hl⟩
      | some u =>
        have := tot_nonneg (fun q hq => h0 rfl q (by simp [hq])) hb2
        refine ⟨_, rfl, ?_⟩
        simp only [ex, if_pos]; omega
    · rw [hv]
      cases hb2 : tot 5 t a with
      | none => exact ⟨v, rfl, hl⟩
      | some u =>
        have := tot_nonneg (fun q hq => h0 rfl q (by simp [hq])) hb2
        refine ⟨_, rfl, ?_⟩
        simp only [ex, if_pos]; omega
  have fin : ∀ t u, tot p t (a ++ b) = some u → 9223372036854775807 < u → fdL p (msort (a ++ b)) = none := by
    intro t u hu hl
    cases h2 : fdL p (msort (a ++ b)) with
    | none => rfl
    | some z =>
      have := fold_fits bab h2 hu
      unfold bd at this
      omega
  rcases h with h | h
  · obtain ⟨h5, t, v, hv, hl⟩ := fold_too hp ha (fun h5 e he => h0 h5 e (by simp [he])) h
    obtain ⟨u, hu, hl2⟩ := key t v (.inl ⟨hv, hl⟩) h5
    exact fin t u hu hl2
  · obtain ⟨h5, t, v, hv, hl⟩ := fold_too hp hb (fun h5 e he => h0 h5 e (by simp [he])) h
    obtain ⟨u, hu, hl2⟩ := key t v (.inr ⟨hv, hl⟩) h5
    exact fin t u hu hl2
/-- The first message to v. -/
def atV (l : List Ms) (v : Int) : Int := ((l.find? fun m => decide (m.1 = v)).map (·.2)).getD 0
def atB (l : List Ms) (v : Int) : Bool := (l.find? fun m => decide (m.1 = v)).isSome
theorem at_hit {m : Ms} {r : List Ms} {v : Int} (h : m.1 = v) : atV (m :: r) v = m.2 ∧ atB (m :: r) v = true := by
  unfold atV atB; simp [h]
theorem at_miss {m : Ms} {r : List Ms} {v : Int} (h : ¬ m.1 = v) : atV (m :: r) v = atV r v ∧ atB (m :: r) v = atB r v := by
  unfold atV atB; simp [h]
end Go.Proofs.YtpgdddjjjfkneaaGreatDoor


