/-
  Plain mathematics of shortest ways: what a run of Sssp keeps from its first superstep on, and what follows when it is quiet. No condition.
-/
import Derived.Test.YtkmflofokgkekaaSqM
namespace Go.Proofs.Ytkmflofokgkekaa
open Go.RowKit
set_option linter.unusedVariables false

def far : Int := 9223372036854775807

theorem tot1 {t v : Int} {l : List Ms} (h : tot 1 t l = some v) : (∃ m ∈ l, m.1 = t ∧ m.2 = v) ∧ ∀ m ∈ l, m.1 = t → v ≤ m.2 := by
  induction l generalizing v with
  | nil => cases h
  | cons m r ih =>
    simp only [tot] at h
    by_cases e : m.1 = t
    · rw [if_pos e] at h
      cases hr : tot 1 t r with
      | none =>
        rw [hr] at h
        injection h with h
        refine ⟨⟨m, List.mem_cons_self .., e, h⟩, fun x hx ex => ?_⟩
        rcases List.mem_cons.1 hx with rfl | hx
        · omega
        · exact absurd ex (tot_none.1 hr x hx)
      | some u =>
        rw [hr] at h
        injection h with h
        obtain ⟨⟨y, hy, y1, y2⟩, hall⟩ := ih hr
        have hv : v = if u < m.2 then u else m.2 := by
          rw [← h]; unfold ex lessI; rw [if_neg (by decide), if_neg (by decide)]
        by_cases hu : u < m.2
        · rw [if_pos hu] at hv
          refine ⟨⟨y, List.mem_cons_of_mem _ hy, y1, by omega⟩, fun x hx ex => ?_⟩
          rcases List.mem_cons.1 hx with rfl | hx
          · omega
          · have := hall x hx ex; omega
        · rw [if_neg hu] at hv
          refine ⟨⟨m, List.mem_cons_self .., e, hv.symm⟩, fun x hx ex => ?_⟩
          rcases List.mem_cons.1 hx with rfl | hx
          · omega
          · have := hall x hx ex; omega
    · rw [if_neg e] at h
      obtain ⟨⟨y, hy, y1, y2⟩, hall⟩ := ih h
      refine ⟨⟨y, List.mem_cons_of_mem _ hy, y1, y2⟩, fun x hx ex => ?_⟩
      rcases List.mem_cons.1 hx with rfl | hx
      · exact absurd ex e
      · exact hall x hx ex

theorem fold1 {l : List Ms} (hb : ∀ e ∈ l, bd e.2) (h : fdC 1 l = 0) :
    Ris (fdR 1 l) ∧ (∀ m ∈ l, ∃ y ∈ fdR 1 l, y.1 = m.1 ∧ y.2 ≤ m.2) ∧ ∀ y ∈ fdR 1 l, ∃ m ∈ l, m.1 = y.1 ∧ m.2 = y.2 := by
  unfold fdC at h
  unfold fdR
  rw [if_pos (by decide)] at h ⊢
  cases hf : fdL 1 (msort l) with
  | none => rw [hf] at h; cases h
  | some y =>
    obtain ⟨h1, h2, h3⟩ := fold_some hb hf
    show Ris y ∧ (∀ m ∈ l, ∃ x ∈ y, x.1 = m.1 ∧ x.2 ≤ m.2) ∧ ∀ x ∈ y, ∃ m ∈ l, m.1 = x.1 ∧ m.2 = x.2
    refine ⟨h1, fun m hm => ?_, fun x hx => ?_⟩
    · cases ht : tot 1 m.1 l with
      | none => exact absurd rfl (tot_none.1 ht m hm)
      | some v =>
        rw [← h2] at ht
        obtain ⟨x, hx, x1, x2⟩ := tot_ris h1 ht
        rw [h2] at ht
        exact ⟨x, hx, x1, by rw [x2]; exact (tot1 ht).2 m hm rfl⟩
    · cases ht : tot 1 x.1 y with
      | none => exact absurd rfl (tot_none.1 ht x hx)
      | some v =>
        obtain ⟨z, hz, z1, z2⟩ := tot_ris h1 ht
        obtain rfl := ris_one h1 z hz x hx z1
        rw [h2] at ht
        obtain ⟨⟨m, hm, m1, m2⟩, _⟩ := tot1 ht
        exact ⟨m, hm, m1, by rw [m2, z2]⟩

theorem at_ris {l : List Ms} (h : Ris l) {m : Ms} (hm : m ∈ l) : atB l m.1 = true ∧ atV l m.1 = m.2 := by
  refine ⟨atB_iff.2 ⟨m, hm, rfl⟩, ?_⟩
  unfold atV
  cases hf : l.find? fun x => decide (x.1 = m.1) with
  | none =>
    have := List.find?_eq_none.1 hf m hm
    simp at this
  | some x =>
    have h1 := List.mem_of_find?_eq_some hf
    have h2 := List.find?_some hf
    obtain rfl := ris_one h x h1 m hm (by simpa using h2)
    rfl
theorem at_mem {l : List Ms} {v : Int} (h : atB l v = true) : (v, atV l v) ∈ l := by
  unfold atB at h
  unfold atV
  cases hf : l.find? fun x => decide (x.1 = v) with
  | none => rw [hf] at h; cases h
  | some x =>
    have h1 := List.mem_of_find?_eq_some hf
    have h2 := List.find?_some hf
    have h3 : x.1 = v := by simpa using h2
    show (v, x.2) ∈ l
    rw [← h3]; exact h1

/-- A vertex's turn of Sssp. -/
theorem turn1 {N : Int} {es : List Ed} {s l q st v val got : Int} {sm : Bool} (hv : vchk N es 1 s l q v = 0) (hst : 0 ≤ st ∧ st ≤ 40) (hE : (turnR N es 1 s l q st v val got sm).2.2.2 = 0) :
    (turnR N es 1 s l q st v val got sm).1 = valX 1 st val got sm ∧
    (sendB 1 s st v val (valX 1 st val got sm) = true → ∀ e ∈ es, e.1 = v → fits (valX 1 st val got sm + e.2.2) = true ∧ (e.2.1, valX 1 st val got sm + e.2.2) ∈ (turnR N es 1 s l q st v val got sm).2.1) ∧
    (∀ m ∈ (turnR N es 1 s l q st v val got sm).2.1, sendB 1 s st v val (valX 1 st val got sm) = true ∧ ∃ e ∈ es, e.1 = v ∧ m = (e.2.1, valX 1 st val got sm + e.2.2) ∧ fits (valX 1 st val got sm + e.2.2) = true) := by
  have hc := (jchk_zero (vchk_zero hv).1).1
  have hvb : valB 1 st val got sm = true := by unfold valB; rw [if_neg (by decide)]
  unfold turnR at hE ⊢
  rw [if_pos hv, if_neg (by omega), if_pos hvb] at hE ⊢
  generalize valX 1 st val got sm = now at *
  by_cases hs : sendB 1 s st v val now = true
  · rw [if_pos hs] at hE ⊢
    by_cases hm : msgB 1 now (outE N es v).length (outE N es v) = true
    · rw [if_pos hm]
      have hfit : ∀ e ∈ es, e.1 = v → fits (now + e.2.2) = true := by
        intro e he e1
        unfold msgB at hm
        rw [List.all_eq_true] at hm
        have := hm e (by unfold outE fromV; rw [if_pos hc]; exact List.mem_filter.2 ⟨he, by simpa using e1⟩)
        unfold alB at this
        rwa [if_pos rfl] at this
      have hal : ∀ e : Ed, fits (now + e.2.2) = true → alX 1 now e (outE N es v).length = now + e.2.2 := by
        intro e hf; unfold alX; rw [if_pos rfl]; exact told_of hf
      refine ⟨rfl, fun _ e he e1 => ⟨hfit e he e1, ?_⟩, fun m hmm => ⟨hs, ?_⟩⟩
      · show _ ∈ msgL 1 now _ (outE N es v)
        unfold msgL
        refine List.mem_map.2 ⟨e, by unfold outE fromV; rw [if_pos hc]; exact List.mem_filter.2 ⟨he, by simpa using e1⟩, ?_⟩
        rw [hal e (hfit e he e1)]
      · have hmm : m ∈ msgL 1 now (outE N es v).length (outE N es v) := hmm
        unfold msgL at hmm
        obtain ⟨e, he, rfl⟩ := List.mem_map.1 hmm
        unfold outE fromV at he
        rw [if_pos hc] at he
        obtain ⟨he, e1⟩ := List.mem_filter.1 he
        have e1 : e.1 = v := by simpa using e1
        exact ⟨e, he, e1, by rw [hal e (hfit e he e1)], hfit e he e1⟩
    · rw [if_neg hm] at hE; cases hE
  · rw [if_neg hs]
    exact ⟨rfl, fun h => absurd h hs, fun m hm => by simp at hm⟩

/-- What a run of Sssp keeps. -/
structure Way (N : Int) (es : List Ed) (s : Int) (S : St) : Prop where
  nn : ∀ v, v < N.toNat → 0 ≤ vAt S.vals v ∧ vAt S.vals v ≤ far
  src : vAt S.vals s.toNat = 0
  mnn : ∀ m ∈ S.inn, 0 ≤ m.2
  ris : Ris S.inn
  edge : ∀ e ∈ es, vAt S.vals e.1.toNat ≠ far → vAt S.vals e.1.toNat + e.2.2 ≤ far ∧ (vAt S.vals e.2.1.toNat ≤ vAt S.vals e.1.toNat + e.2.2 ∨ ∃ m ∈ S.inn, m.1 = e.2.1 ∧ m.2 ≤ vAt S.vals e.1.toNat + e.2.2)
  back : ∀ v, v < N.toNat → ¬ (v : Int) = s → vAt S.vals v ≠ far → ∃ e ∈ es, e.2.1 = v ∧ vAt S.vals e.1.toNat ≠ far ∧ vAt S.vals e.1.toNat + e.2.2 ≤ vAt S.vals v
  msg : ∀ m ∈ S.inn, ∃ e ∈ es, e.2.1 = m.1 ∧ vAt S.vals e.1.toNat ≠ far ∧ vAt S.vals e.1.toNat + e.2.2 ≤ m.2

theorem fits_le {n : Int} (h : fits n = true) : n ≤ far := by
  unfold fits at h; have := of_decide_eq_true h; unfold far; omega

/-- What a superstep of Sssp comes to, read off. -/
theorem super1 {N : Int} {es : List Ed} {s l q : Int} {S : St} (hj : jchk N es 1 s l q = 0) (hr : rightB N es 1 s l q S = true) (hok : Ok S) (h0 : (superR N es 1 s l q S).2 = 0) :
    (∀ v, v < N.toNat → vAt (superR N es 1 s l q S).1.vals v = (turnS N es 1 s l q S v).1 ∧ (turnS N es 1 s l q S v).2.2.2 = 0 ∧ vchk N es 1 s l q v = 0) ∧
    Ris (superR N es 1 s l q S).1.inn ∧
    (∀ v, v < N.toNat → ∀ m ∈ (turnS N es 1 s l q S v).2.1, ∃ y ∈ (superR N es 1 s l q S).1.inn, y.1 = m.1 ∧ y.2 ≤ m.2) ∧
    (∀ y ∈ (superR N es 1 s l q S).1.inn, ∃ v, v < N.toNat ∧ ∃ m ∈ (turnS N es 1 s l q S v).2.1, m.1 = y.1 ∧ m.2 = y.2) := by
  obtain ⟨h1, h2, h3⟩ := super_zero h0
  rw [h3]
  obtain ⟨f1, f2, f3⟩ := fold1 (sentL_bd hok _) h2
  refine ⟨fun v hv => ⟨valsL_at _ _ _ hv, firstE_zero h1 v hv, ?_⟩, f1, fun v hv m hm => f2 m (sentL_mem.2 ⟨v, hv, hm⟩), fun y hy => ?_⟩
  · unfold vchk; rw [if_pos hj, if_pos (by omega)]
  · obtain ⟨m, hm, e1, e2⟩ := f3 y hy
    obtain ⟨v, hv, hmv⟩ := sentL_mem.1 hm
    exact ⟨v, hv, m, hmv, e1, e2⟩

theorem valX1 (st val got : Int) : valX 1 st val got true = lessI val got ∧ valX 1 st val got false = val := by
  unfold valX foldX
  simp

/-- Of the first superstep. -/
theorem way_first {N : Int} {es : List Ed} {s l q : Int} (hj : jchk N es 1 s l q = 0) (hr : rightB N es 1 s l q (beginS N 1 s) = true) (h0 : (superR N es 1 s l q (beginS N 1 s)).2 = 0) : Way N es s (superR N es 1 s l q (beginS N 1 s)).1 := by
  obtain ⟨hN1, hN2⟩ := jchk_N hj
  obtain ⟨_, ⟨hs0, hs1⟩, _⟩ := badJ_not (jchk_zero hj).2
  have hedge := chk_ok (jchk_zero hj).1
  obtain ⟨a1, a2, a3, a4⟩ := super1 hj hr (begin_ok hN2) h0
  generalize (superR N es 1 s l q (beginS N 1 s)).1 = S' at *
  have hrest : ∀ v, rAt (beginS N 1 s).rest v = false := by
    intro v; unfold rAt beginS; simp [List.getD, List.getElem?_replicate]; split <;> rfl
  have hval : ∀ v, v < N.toNat → vAt (beginS N 1 s).vals v = if (v : Int) = s then 0 else far := by
    intro v hv
    rw [vAt_get _ _ (by simp [beginS]; omega)]
    simp [beginS, startI, far]
  have hT : ∀ v, v < N.toNat → turnS N es 1 s l q (beginS N 1 s) v = turnR N es 1 s l q 0 v (if (v : Int) = s then 0 else far) 0 false := by
    intro v hv
    unfold turnS
    rw [hrest v, if_neg (by simp), hval v hv]
    rfl
  have hnew : ∀ v, v < N.toNat → vAt S'.vals v = if (v : Int) = s then 0 else far := by
    intro v hv
    obtain ⟨b1, b2, b3⟩ := a1 v hv
    rw [b1, hT v hv]
    rw [hT v hv] at b2
    rw [(turn1 b3 ⟨by omega, by omega⟩ b2).1, (valX1 _ _ _).2]
  have hsn : ∀ (v : Nat) (x : Int), sendB 1 s 0 v x x = decide ((v : Int) = s) := by
    intro v x; unfold sendB; rw [if_neg (by decide), if_neg (by decide), Bool.eq_iff_iff]; simp
  have hto : ∀ e ∈ es, 0 ≤ e.1 ∧ e.1 < N ∧ 0 ≤ e.2.1 ∧ e.2.1 < N ∧ 0 ≤ e.2.2 := by
    intro e he; have := edge1_zero.1 (hedge e he); omega
  have hmsg : ∀ m ∈ S'.inn, ∃ e ∈ es, e.2.1 = m.1 ∧ e.1 = s ∧ m.2 = 0 + e.2.2 := by
    intro m hm
    obtain ⟨v, hv, x, hx, x1, x2⟩ := a4 m hm
    obtain ⟨b1, b2, b3⟩ := a1 v hv
    rw [hT v hv] at b2 hx
    obtain ⟨t1, t2, t3⟩ := turn1 b3 ⟨by omega, by omega⟩ b2
    rw [(valX1 _ _ _).2] at t3
    obtain ⟨c1, e, he, e1, e2, _⟩ := t3 x hx
    rw [hsn] at c1
    have c1 : (v : Int) = s := of_decide_eq_true c1
    rw [if_pos c1] at e2
    subst e2
    exact ⟨e, he, x1, by rw [e1, c1], x2.symm⟩
  have hsrc : vAt S'.vals s.toNat = 0 := by rw [hnew _ (by omega), if_pos (by omega)]
  refine ⟨fun v hv => ?_, hsrc, fun m hm => ?_, a2, fun e he hne => ?_, fun v hv hvs hne => ?_, fun m hm => ?_⟩
  · rw [hnew v hv]; split
    · exact ⟨by decide, by decide⟩
    · exact ⟨by decide, by decide⟩
  · obtain ⟨e, he, _, _, e3⟩ := hmsg m hm
    have := hto e he; omega
  · have ht := hto e he
    have hs : e.1 = s := by
      apply Classical.byContradiction
      intro h
      rw [hnew _ (by omega), if_neg (by omega)] at hne
      exact hne rfl
    obtain ⟨b1, b2, b3⟩ := a1 s.toNat (by omega)
    rw [hT _ (by omega)] at b2
    obtain ⟨t1, t2, t3⟩ := turn1 b3 ⟨by omega, by omega⟩ b2
    rw [(valX1 _ _ _).2, hsn, if_pos (by omega)] at t2
    obtain ⟨c1, c2⟩ := t2 (decide_eq_true (by omega)) e he (by omega)
    obtain ⟨y, hy, y1, y2⟩ := a3 s.toNat (by omega) _ (by rw [hT _ (by omega), if_pos (by omega)]; exact c2)
    rw [hs, hsrc]
    refine ⟨fits_le c1, .inr ⟨y, hy, y1, y2⟩⟩
  · rw [hnew v hv, if_neg hvs] at hne; exact absurd rfl hne
  · obtain ⟨e, he, e1, e2, e3⟩ := hmsg m hm
    refine ⟨e, he, e1, ?_, ?_⟩
    · rw [e2, hsrc]; decide
    · rw [e2, hsrc]; omega

/-- Of any later one. -/
theorem way_next {N : Int} {es : List Ed} {s l q : Int} {S : St} (hj : jchk N es 1 s l q = 0) (hr : rightB N es 1 s l q S = true) (hok : Ok S) (hst : 1 ≤ S.step) (hw : Way N es s S) (h0 : (superR N es 1 s l q S).2 = 0) : Way N es s (superR N es 1 s l q S).1 := by
  obtain ⟨hN1, hN2⟩ := jchk_N hj
  obtain ⟨_, ⟨hs0, hs1⟩, _⟩ := badJ_not (jchk_zero hj).2
  have hedge := chk_ok (jchk_zero hj).1
  have hto : ∀ e ∈ es, 0 ≤ e.1 ∧ e.1 < N ∧ 0 ≤ e.2.1 ∧ e.2.1 < N ∧ 0 ≤ e.2.2 := by
    intro e he; have := edge1_zero.1 (hedge e he); omega
  have hst2 := (right_of hr).2.1
  obtain ⟨a1, a2, a3, a4⟩ := super1 hj hr hok h0
  generalize (superR N es 1 s l q S).1 = S' at *
  -- what a turn is
  have hT : ∀ v, v < N.toNat →
      (atB S.inn v = true → vAt S'.vals v = lessI (vAt S.vals v) (atV S.inn v)) ∧ (atB S.inn v = false → vAt S'.vals v = vAt S.vals v) ∧
      (¬ vAt S'.vals v = vAt S.vals v → ∀ e ∈ es, e.1 = v → vAt S'.vals v + e.2.2 ≤ far ∧ ∃ y ∈ S'.inn, y.1 = e.2.1 ∧ y.2 ≤ vAt S'.vals v + e.2.2) ∧
      (∀ m ∈ (turnS N es 1 s l q S v).2.1, ¬ vAt S'.vals v = vAt S.vals v ∧ ∃ e ∈ es, e.1 = v ∧ m = (e.2.1, vAt S'.vals v + e.2.2)) := by
    intro v hv
    obtain ⟨b1, b2, b3⟩ := a1 v hv
    have c3 := a3 v hv
    rw [b1]
    by_cases hres : (rAt S.rest v && !atB S.inn v) = true
    · have hT : turnS N es 1 s l q S v = (vAt S.vals v, [], true, 0) := by unfold turnS; rw [if_pos hres]
      have hnb : atB S.inn v = false := by simp at hres; exact hres.2
      rw [hT]
      refine ⟨fun h => (by rw [hnb] at h; cases h), fun _ => rfl, fun h => absurd rfl h, fun m hm => (by simp at hm)⟩
    · have hT : turnS N es 1 s l q S v = turnR N es 1 s l q S.step v (vAt S.vals v) (atV S.inn v) (atB S.inn v) := by unfold turnS; rw [if_neg hres]
      rw [hT] at b2 c3 ⊢
      obtain ⟨t1, t2, t3⟩ := turn1 b3 hst2 b2
      have hsn : ∀ now, sendB 1 s S.step v (vAt S.vals v) now = decide (¬ now = vAt S.vals v) := by
        intro now
        have : (S.step == 0) = false := by simp; omega
        unfold sendB; rw [if_neg (by decide), if_neg (by decide), this]
        simp
        rfl
      rw [hsn] at t2
      simp only [hsn] at t3
      rw [t1]
      refine ⟨fun h => by rw [h]; exact (valX1 _ _ _).1, fun h => by rw [h]; exact (valX1 _ _ _).2, fun hne e he e1 => ?_, fun m hm => ?_⟩
      · obtain ⟨d1, d2⟩ := t2 (decide_eq_true hne) e he e1
        obtain ⟨y, hy, y1, y2⟩ := c3 _ d2
        exact ⟨fits_le d1, y, hy, y1, y2⟩
      · obtain ⟨d1, e, he, e1, e2, _⟩ := t3 m hm
        exact ⟨of_decide_eq_true d1, e, he, e1, e2⟩
  have hle : ∀ v, v < N.toNat → vAt S'.vals v ≤ vAt S.vals v ∧ 0 ≤ vAt S'.vals v := by
    intro v hv
    obtain ⟨c1, c2, _⟩ := hT v hv
    have hn := (hw.nn v hv).1
    cases hb : atB S.inn v with
    | true =>
      rw [c1 hb]
      have := hw.mnn _ (at_mem hb)
      dsimp only at this
      unfold lessI; split <;> omega
    | false => rw [c2 hb]; omega
  have hnf : ∀ v, v < N.toNat → ¬ vAt S.vals v = far → ¬ vAt S'.vals v = far := by
    intro v hv h
    have := hle v hv; have := hw.nn v hv; unfold far at *; omega
  refine ⟨fun v hv => ?_, ?_, fun y hy => ?_, a2, fun e he hne => ?_, fun v hv hvs hne => ?_, fun y hy => ?_⟩
  · have := hle v hv; have := hw.nn v hv; omega
  · have := hle s.toNat (by omega); have := hw.src; omega
  · obtain ⟨v, hv, m, hm, m1, m2⟩ := a4 y hy
    obtain ⟨_, e, he, e1, rfl⟩ := (hT v hv).2.2.2 m hm
    have := hto e he; have := hle v hv
    dsimp only at m2; omega
  · have ht := hto e he
    have hu : e.1.toNat < N.toNat := by omega
    have ho : e.2.1.toNat < N.toNat := by omega
    by_cases hch : vAt S'.vals e.1.toNat = vAt S.vals e.1.toNat
    · rw [hch] at hne ⊢
      obtain ⟨d1, d2⟩ := hw.edge e he hne
      refine ⟨d1, .inl ?_⟩
      rcases d2 with d2 | ⟨m, hm, m1, m2⟩
      · have := hle e.2.1.toNat ho; omega
      · obtain ⟨p1, p2⟩ := at_ris hw.ris hm
        have e1 : ((e.2.1.toNat : Nat) : Int) = m.1 := by omega
        have := (hT e.2.1.toNat ho).1 (by rw [e1]; exact p1)
        rw [this, e1, p2]
        unfold lessI; split <;> omega
    · obtain ⟨d1, d2⟩ := (hT e.1.toNat hu).2.2.1 hch e he (by omega)
      exact ⟨d1, .inr d2⟩
  · by_cases hch : vAt S'.vals v = vAt S.vals v
    · rw [hch] at hne ⊢
      obtain ⟨e, he, e1, e2, e3⟩ := hw.back v hv hvs hne
      have ht := hto e he
      have hu : e.1.toNat < N.toNat := by omega
      exact ⟨e, he, e1, hnf _ hu e2, by have := hle e.1.toNat hu; omega⟩
    · obtain ⟨c1, c2, _⟩ := hT v hv
      cases hb : atB S.inn v with
      | false => exact absurd (c2 hb) hch
      | true =>
        have hx := c1 hb
        obtain ⟨e, he, e1, e2, e3⟩ := hw.msg _ (at_mem hb)
        dsimp only at e1 e3
        have ht := hto e he
        have hu : e.1.toNat < N.toNat := by omega
        refine ⟨e, he, e1, hnf _ hu e2, ?_⟩
        have := hle e.1.toNat hu
        rw [hx] at hch ⊢
        unfold lessI at hch ⊢
        split
        · omega
        · rename_i h; rw [if_neg h] at hch; exact absurd rfl hch
  · obtain ⟨v, hv, m, hm, m1, m2⟩ := a4 y hy
    obtain ⟨hch, e, he, e1, rfl⟩ := (hT v hv).2.2.2 m hm
    dsimp only at m1 m2
    have ev : e.1.toNat = v := by omega
    refine ⟨e, he, m1, ?_, ?_⟩
    · rw [ev]; have := hle v hv; have := hw.nn v hv; unfold far at *; omega
    · rw [ev]; omega

theorem way_at {N : Int} {es : List Ed} {s l q : Int} (hj : jchk N es 1 s l q = 0) (k : Nat) : ∀ {S : St}, stAt N es 1 s l q (k + 1) = some S → Way N es s S := by
  induction k with
  | zero =>
    intro S h
    obtain ⟨S0, h0, h1, rfl⟩ := stAt_prev h
    injection h0 with h0
    subst h0
    obtain ⟨e, h2, h3⟩ := onw_next h1
    rw [e]
    exact way_first hj h3 h2
  | succ k ih =>
    intro S h
    obtain ⟨S0, h0, h1, rfl⟩ := stAt_prev h
    obtain ⟨e, h2, h3⟩ := onw_next h1
    rw [e]
    have := stAt_step _ h0
    exact way_next hj h3 (stAt_ok (jchk_N hj).2 _ h0) (by omega) (ih h0) h2

/-- Of a run that is done. -/
theorem ways {N : Int} {es : List Ed} {s l q : Int} (hj : jchk N es 1 s l q = 0) {k : Nat} {S : St} (h : stAt N es 1 s l q k = some S) (hq : quietB S = true) :
    S.vals.length = N.toNat ∧ vAt S.vals s.toNat = 0 ∧
    (∀ e ∈ es, ¬ vAt S.vals e.1.toNat = far → vAt S.vals e.1.toNat ≤ far - e.2.2 ∧ vAt S.vals e.2.1.toNat ≤ vAt S.vals e.1.toNat + e.2.2) ∧
    (∀ v, v < N.toNat → ¬ (v : Int) = s → ¬ vAt S.vals v = far → ∃ e ∈ es, e.2.1 = v ∧ ¬ vAt S.vals e.1.toNat = far ∧ vAt S.vals v = vAt S.vals e.1.toNat + e.2.2) ∧ ∀ v, v < N.toNat → 0 ≤ vAt S.vals v ∧ vAt S.vals v ≤ far := by
  obtain ⟨hN1, hN2⟩ := jchk_N hj
  cases k with
  | zero =>
    injection h with h
    subst h
    exfalso
    unfold quietB allB at hq
    simp only [Bool.and_eq_true, List.all_eq_true] at hq
    have := hq.2 false (by simp [beginS]; omega)
    cases this
  | succ k =>
    have hw := way_at hj k h
    have hlen : S.vals.length = N.toNat := by
      obtain ⟨S0, h0, h1, rfl⟩ := stAt_prev h
      obtain ⟨e, h2, h3⟩ := onw_next h1
      rw [e, (super_zero h2).2.2]
      exact valsL_len _ _
    have hin : S.inn = [] := by
      unfold quietB at hq
      simp only [Bool.and_eq_true, decide_eq_true_eq] at hq
      exact List.eq_nil_of_length_eq_zero hq.1
    have hE : ∀ e ∈ es, ¬ vAt S.vals e.1.toNat = far → vAt S.vals e.1.toNat ≤ far - e.2.2 ∧ vAt S.vals e.2.1.toNat ≤ vAt S.vals e.1.toNat + e.2.2 := by
      intro e he hne
      obtain ⟨d1, d2⟩ := hw.edge e he hne
      rw [hin] at d2
      rcases d2 with d2 | ⟨m, hm, _⟩
      · exact ⟨by omega, d2⟩
      · simp at hm
    refine ⟨hlen, hw.src, hE, fun v hv hvs hne => ?_, hw.nn⟩
    obtain ⟨e, he, e1, e2, e3⟩ := hw.back v hv hvs hne
    have := (hE e he e2).2
    have ev : e.2.1.toNat = v := by omega
    rw [ev] at this
    exact ⟨e, he, e1, e2, by omega⟩

end Go.Proofs.Ytkmflofokgkekaa
