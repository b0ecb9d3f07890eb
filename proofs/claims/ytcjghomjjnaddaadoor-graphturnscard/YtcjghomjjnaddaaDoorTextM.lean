/-
  What a graph's text is read as, and that what is read is right. No condition.
-/
import Derived.Test.YtcjghomjjnaddaaDoorWalksN
import Derived.Test.YtcjghomjjnaddaaDoorWalksF
import Derived.Lib.CountLaws
import Derived.Lib.IndexBytes
namespace Go.Proofs.YtcjghomjjnaddaaDoor
set_option linter.unusedVariables false

/-! ### Numbers -/

theorem dg_nat (d : Nat) (h : d < 10) : (UInt8.ofNat (48 + d)).toNat = 48 + d := by rw [UInt8.toNat_ofNat']; omega
theorem dg_isD (d : Nat) (h : d < 10) : isD (UInt8.ofNat (48 + d)) = true := (isD_iff _).2 (by rw [dg_nat d h]; omega)

theorem dec_isD (u : Nat) : (Lib.decDigits u).all isD = true := by
  induction u using Nat.strongRecOn with
  | ind u ih =>
    rw [Lib.decDigits]
    by_cases h : u < 10
    · rw [dif_pos h, List.all_cons, List.all_nil, dg_isD u h]; rfl
    · rw [dif_neg h, List.all_append, ih (u / 10) (by omega), List.all_cons, List.all_nil, dg_isD (u % 10) (by omega)]; rfl

theorem dec_val (u : Nat) : val (Lib.decDigits u) = u := by
  induction u using Nat.strongRecOn with
  | ind u ih =>
    rw [Lib.decDigits]
    by_cases h : u < 10
    · rw [dif_pos h]
      show 10 * 0 + ((UInt8.ofNat (48 + u)).toNat - 48) = u
      rw [dg_nat u h]; omega
    · rw [dif_neg h, val_snoc, ih (u / 10) (by omega), dg_nat (u % 10) (by omega)]
      omega

theorem dec_ne (u : Nat) : Lib.decDigits u ≠ [] := by
  rw [Lib.decDigits]
  split <;> simp

theorem headD_app (a b : List UInt8) (h : a ≠ []) : (a ++ b).headD 0 = a.headD 0 := by
  cases a with
  | nil => exact absurd rfl h
  | cons x r => rfl

theorem dec_head (u : Nat) (hu : 0 < u) : (Lib.decDigits u).headD 0 ≠ 48 := by
  induction u using Nat.strongRecOn with
  | ind u ih =>
    rw [Lib.decDigits]
    by_cases h : u < 10
    · rw [dif_pos h]
      show UInt8.ofNat (48 + u) ≠ 48
      intro e
      have := congrArg UInt8.toNat e
      rw [dg_nat u h] at this
      have h48 : (48 : UInt8).toNat = 48 := rfl
      omega
    · rw [dif_neg h, headD_app _ _ (dec_ne _)]
      exact ih (u / 10) (by omega) (by omega)

theorem nDig_le : ∀ (k u : Nat), u < 10 ^ (k + 1) → Lib.nDigits u ≤ k + 1
  | 0, u, h => by
    rw [Lib.nDigits, dif_pos (by simpa using h)]
    exact Nat.le_refl _
  | k + 1, u, h => by
    rw [Lib.nDigits]
    by_cases h1 : u < 10
    · rw [dif_pos h1]; omega
    · rw [dif_neg h1]
      have : u / 10 < 10 ^ (k + 1) := by
        rw [Nat.pow_succ] at h
        omega
      have := nDig_le k (u / 10) this
      omega

theorem num_dec (n : Int) (h0 : 0 ≤ n) (h1 : n ≤ 4611686018427387904) : numOk (dec n) = true ∧ numV (dec n) = n := by
  have hl : (dec n).length ≤ 19 := by
    unfold dec
    rw [Lib.decDigits_length]
    exact nDig_le 18 _ (by omega)
  have hv : val (dec n) = n.toNat := dec_val _
  have hk : numOk (dec n) = true := by
    unfold numOk shapeOk
    have a1 : 1 ≤ (dec n).length := by
      have := dec_ne n.toNat
      unfold dec
      exact List.length_pos_iff.2 this
    have a2 : (dec n).all isD = true := dec_isD _
    have a3 : ((dec n).headD 0 == 48 && decide (1 < (dec n).length)) = false := by
      by_cases hz : n = 0
      · subst hz
        have : dec 0 = [48] := by unfold dec; rw [show (0 : Int).toNat = 0 from rfl, Lib.decDigits_one (by omega)]; rfl
        rw [this]; rfl
      · have := dec_head n.toNat (by omega)
        rw [show ((dec n).headD 0 == 48) = false by simpa [dec] using this]
        rfl
    rw [a2, a3, hv]
    simp only [decide_eq_true a1, decide_eq_true hl, Bool.not_false, Bool.and_true, Bool.true_and, decide_eq_true_eq]
    omega
  exact ⟨hk, by rw [num_yes hk, hv]; omega⟩

theorem dec_no (n : Int) (c : UInt8) (hc : isD c = false) : c ∉ dec n := by
  intro h
  have := List.all_eq_true.1 (dec_isD n.toNat) c h
  rw [hc] at this
  cases this

/-! ### Words and lines -/

theorem ix_cons : ∀ (a b : List UInt8), (32 : UInt8) ∉ a → Lib.indexByte (a ++ 32 :: b) 32 = (a.length : Int)
  | [], b, _ => rfl
  | x :: a, b, h => by
    have hx : (x == 32) = false := by
      simp only [List.mem_cons, not_or] at h
      simpa using fun e => h.1 e.symm
    have ha : (32 : UInt8) ∉ a := fun hm => h (List.mem_cons_of_mem _ hm)
    show (if x == 32 then 0 else if Lib.indexByte (a ++ 32 :: b) 32 == -1 then -1 else Lib.indexByte (a ++ 32 :: b) 32 + 1) = _
    rw [hx, ix_cons a b ha]
    rw [if_neg (by simp), if_neg (by simp)]
    simp
theorem ix_no : ∀ (a : List UInt8), (32 : UInt8) ∉ a → Lib.indexByte a 32 = -1
  | [], _ => rfl
  | x :: a, h => by
    have hx : (x == 32) = false := by
      simp only [List.mem_cons, not_or] at h
      simpa using fun e => h.1 e.symm
    have ha : (32 : UInt8) ∉ a := fun hm => h (List.mem_cons_of_mem _ hm)
    show (if x == 32 then 0 else if Lib.indexByte a 32 == -1 then -1 else Lib.indexByte a 32 + 1) = _
    rw [hx, ix_no a ha]
    rfl

theorem words_cons (a b : List UInt8) (h : (32 : UInt8) ∉ a) : words (a ++ 32 :: b) = a :: words b := by
  have hi : Lib.index (a ++ 32 :: b) [32] = (a.length : Int) := by rw [Lib.index_one]; exact ix_cons a b h
  have hd : (a ++ 32 :: b).drop (a.length + 1) = b := by
    rw [List.drop_append, List.drop_eq_nil_of_le (by omega)]
    simp
  unfold words Lib.split
  rw [Lib.count_hit (by simp) hi, Nat.add_comm 1]
  conv => lhs; unfold Lib.splitK
  rw [if_neg (by rw [hi]; simp), hi]
  simp only [Int.toNat_natCast, List.length_cons, List.length_nil, Nat.zero_add, Nat.add_zero, hd]
  simp
theorem words_one (a : List UInt8) (h : (32 : UInt8) ∉ a) : words a = [a] := by
  have hi : Lib.index a [32] = -1 := by rw [Lib.index_one]; exact ix_no a h
  unfold words Lib.split
  rw [Lib.count_miss hi]
  rfl

theorem cutA_app : ∀ (a b : List UInt8), (10 : UInt8) ∉ a → cutA (a ++ 10 :: b) = a
  | [], b, _ => rfl
  | x :: a, b, h => by
    have hx : (x != 10) = true := by
      simp only [List.mem_cons, not_or] at h
      simpa using fun e => h.1 e.symm
    have := cutA_app a b (fun hm => h (List.mem_cons_of_mem _ hm))
    unfold cutA at this ⊢
    rw [List.cons_append, List.takeWhile_cons, hx, if_pos rfl, this]
theorem cutB_app : ∀ (a b : List UInt8), (10 : UInt8) ∉ a → cutB (a ++ 10 :: b) = b
  | [], b, _ => rfl
  | x :: a, b, h => by
    have hx : (x != 10) = true := by
      simp only [List.mem_cons, not_or] at h
      simpa using fun e => h.1 e.symm
    have := cutB_app a b (fun hm => h (List.mem_cons_of_mem _ hm))
    unfold cutB at this ⊢
    rw [List.cons_append, List.dropWhile_cons, hx, if_pos rfl, this]

/-- An edge's line, without its end. -/
def body (e : Ed) : List UInt8 := edgeW ++ (dec e.1 ++ 32 :: (dec e.2.1 ++ 32 :: dec e.2.2))
theorem line_body (e : Ed) : line e = body e ++ [10] := by unfold line body edgeW; simp
theorem head_body (N : Int) : headL N = (graphW ++ dec N) ++ [10] := by unfold headL graphW; simp

theorem pre_yes (p r : List UInt8) : Lib.hasPrefix (p ++ r) p = true ∧ Lib.trimPrefix (p ++ r) p = r := by
  have h : Lib.hasPrefix (p ++ r) p = true := by unfold Lib.hasPrefix; simp
  exact ⟨h, by unfold Lib.trimPrefix; rw [if_pos h]; simp⟩

theorem body_no (e : Ed) : (10 : UInt8) ∉ body e := by
  have h1 := dec_no e.1 10 rfl
  have h2 := dec_no e.2.1 10 rfl
  have h3 := dec_no e.2.2 10 rfl
  unfold body edgeW
  simp [h1, h2, h3]
theorem hbody_no (N : Int) : (10 : UInt8) ∉ graphW ++ dec N := by
  have h1 := dec_no N 10 rfl
  unfold graphW
  simp [h1]

theorem edge_read {N : Int} {e : Ed} (hN : N ≤ 24) (h : okEd N e) : edgeNums (body e) = some e := by
  obtain ⟨h1, h2, h3, h4, h5, h6⟩ := edge1_zero.1 h
  obtain ⟨a1, a2⟩ := num_dec e.1 h1 (by omega)
  obtain ⟨b1, b2⟩ := num_dec e.2.1 h3 (by omega)
  obtain ⟨c1, c2⟩ := num_dec e.2.2 h5 h6
  unfold edgeNums body
  obtain ⟨p1, p2⟩ := pre_yes edgeW (dec e.1 ++ 32 :: (dec e.2.1 ++ 32 :: dec e.2.2))
  rw [if_pos p1, p2, words_cons _ _ (dec_no _ 32 rfl), words_cons _ _ (dec_no _ 32 rfl), words_one _ (dec_no _ 32 rfl), three_eq, a1, b1, c1, a2, b2, c2]
  rfl

theorem head_read {N : Int} (h1 : 1 ≤ N) (h2 : N ≤ 24) : readH (graphW ++ dec N) = (N, 0) := by
  obtain ⟨a1, a2⟩ := num_dec N (by omega) (by omega)
  obtain ⟨p1, p2⟩ := pre_yes graphW (dec N)
  unfold readH
  rw [if_pos p1, p2, if_pos a1, a2, if_neg (by omega)]

/-! ### Order -/

theorem ltE_irr {a : Ed} : ¬ ltE a a := by unfold ltE; omega
theorem ltE_asym {a b : Ed} (h : ltE a b) (g : ltE b a) : False := by unfold ltE at *; omega

theorem sorted_uniq : ∀ (a b : List Ed), a.Pairwise ltE → b.Pairwise ltE → a.Perm b → a = b
  | [], b, _, _, h => (List.Perm.nil_eq h)
  | x :: a, [], _, _, h => absurd h.symm.nil_eq (by simp)
  | x :: a, y :: b, ha, hb, h => by
    rw [List.pairwise_cons] at ha hb
    have hxy : x = y := by
      have m1 : x ∈ y :: b := h.subset (by simp)
      have m2 : y ∈ x :: a := h.symm.subset (by simp)
      rcases List.mem_cons.1 m1 with e | m1
      · exact e
      · rcases List.mem_cons.1 m2 with e | m2
        · exact e.symm
        · exact absurd (ha.1 y m2) (fun g => ltE_asym g (hb.1 x m1))
    subst hxy
    rw [sorted_uniq a b ha.2 hb.2 (List.Perm.cons_inv h)]

theorem ins_perm : ∀ (es : List Ed) (e : Ed), (insE es e).Perm (e :: es)
  | [], e => List.Perm.refl _
  | x :: r, e => by
    unfold insE
    split
    · exact ((ins_perm r e).cons x).trans (List.Perm.swap e x r)
    · exact List.Perm.refl _

/-- No two edges have the same ends. -/
def Apart (es : List Ed) : Prop := es.Pairwise fun a b => ¬ keyE a b
theorem apart_perm {a b : List Ed} (h : a.Perm b) : Apart a ↔ Apart b := h.pairwise_iff (fun hxy hk => hxy ⟨hk.1.symm, hk.2.symm⟩)
theorem apart_sorted {es : List Ed} (h : es.Pairwise ltE) : Apart es := h.imp (fun {a b} hl hk => by unfold ltE keyE at *; omega)
theorem apart_has {es : List Ed} {e : Ed} (h : Apart (e :: es)) : hasE es e = false := by
  rw [Apart, List.pairwise_cons] at h
  unfold hasE
  rw [List.any_eq_false]
  intro x hx hk
  simp only [Bool.and_eq_true, beq_iff_eq] at hk
  exact h.1 x hx ⟨hk.1.symm, hk.2.symm⟩

theorem lines_nil {r : List Ed} : lines r = [] ↔ r = [] := by
  cases r with
  | nil => simp [lines]
  | cons e r => simp [lines, line]

theorem lines_ge : ∀ r : List Ed, r.length ≤ (lines r).length
  | [] => by simp
  | e :: r => by
    have := lines_ge r
    unfold lines at this ⊢
    rw [List.flatMap_cons, List.length_append, List.length_cons]
    have : 1 ≤ (line e).length := by unfold line; simp
    omega

theorem go_lines (N : Int) (hN : N ≤ 24) : ∀ (ls : List Ed) (f k : Nat) (es : List Ed), ls ≠ [] → k ≠ 0 → ls.length ≤ f → Apart (es ++ ls) → es.Pairwise ltE → (∀ e ∈ ls, okEd N e) → es.length + ls.length ≤ 80 →
    ∃ r, goL f k N es (lines ls) = ((N, r), 0, 0) ∧ r.Perm (es ++ ls) ∧ r.Pairwise ltE
  | [], _, _, _, h, _, _, _, _, _, _ => absurd rfl h
  | e :: r, 0, _, _, _, _, h, _, _, _, _ => by simp at h
  | e :: r, f + 1, k, es, _, hk, hf, ha, hs, hok, hl => by
    have hoke := hok e (by simp)
    have hp : (es ++ e :: r).Perm (e :: (es ++ r)) := List.perm_middle
    have hh : hasE es e = false := by
      have := (apart_perm hp).1 ha
      refine apart_has (show Apart (e :: es) from ?_)
      exact List.Pairwise.sublist (by simp) this
    have hl1 : es.length + (r.length + 1) ≤ 80 := by simpa using hl
    have hf1 : r.length + 1 ≤ f + 1 := by simpa using hf
    have hr : readE N es (body e) = (0, insE es e) := by
      unfold readE
      rw [edge_read hN hoke]
      show (if 80 ≤ es.length then _ else _) = _
      rw [if_neg (by omega), if_pos (show edge1 N e.1 e.2.1 e.2.2 = 0 from hoke), hh]
      rfl
    have e0 : lines (e :: r) = body e ++ 10 :: lines r := by
      unfold lines
      rw [List.flatMap_cons, line_body]
      simp
    have hA : cutA (lines (e :: r)) = body e := by rw [e0]; exact cutA_app _ _ (body_no e)
    have hB : cutB (lines (e :: r)) = lines r := by rw [e0]; exact cutB_app _ _ (body_no e)
    have hpp : (insE es e ++ r).Perm (es ++ e :: r) := ((ins_perm es e).append_right r).trans hp.symm
    unfold goL
    rw [if_neg hk, hA, hB, hr]
    by_cases hn : r = []
    · subst hn
      refine ⟨insE es e, by simp [lines], by simpa using hpp, ins_sorted hs hh⟩
    · obtain ⟨q, q1, q2, q3⟩ := go_lines N hN r f (k + 1) (insE es e) hn (by omega) (by omega) ((apart_perm hpp).2 ha) (ins_sorted hs hh) (fun x hx => hok x (by simp [hx])) (by rw [ins_len]; omega)
      refine ⟨q, ?_, q2.trans hpp, q3⟩
      rw [if_pos rfl, if_neg (by rw [lines_nil]; exact hn)]
      exact q1

/-! ### Right graphs -/

def Good (N : Int) (es : List Ed) : Prop := 1 ≤ N ∧ N ≤ 24 ∧ es.length ≤ 80 ∧ (∀ e ∈ es, okEd N e) ∧ es.Pairwise ltE

theorem good_of {N : Int} {es : List Ed} (h : chk N es = 0) : Good N es := by
  obtain ⟨h1, h2, h3, h4⟩ := chk_zero h
  refine ⟨h1, h2, h3, chk_ok h, (rises_iff es).1 ?_⟩
  have step : ∀ k, k + 1 < es.length → ltE (eAt es k) (eAt es (k + 1)) := by
    intro k hk
    have := h4 (k + 1) hk
    have ho := errAt_ok this
    unfold errAt at this
    rw [if_pos (show edge1 N (eAt es (k + 1)).1 (eAt es (k + 1)).2.1 (eAt es (k + 1)).2.2 = 0 from ho), if_neg (by omega), Nat.add_sub_cancel] at this
    by_cases c1 : cmpE (eAt es (k + 1)) (eAt es k) = 0
    · rw [if_pos c1] at this; cases this
    · rw [if_neg c1] at this
      by_cases c2 : cmpE (eAt es (k + 1)) (eAt es k) < 0
      · rw [if_pos c2] at this; cases this
      · rw [cmpE_zero] at c1
        rw [cmpE_neg] at c2
        unfold ltE at c2 ⊢
        omega
  intro a b hab
  induction b with
  | zero => omega
  | succ b ih =>
    intro hb
    by_cases hc : a = b
    · subst hc; exact step a hb
    · exact ltE_trans (ih (by omega) (by omega)) (step b hb)

theorem firstErr_all (N : Int) (es : List Ed) : ∀ (n k : Nat), (∀ j, k ≤ j → j < k + n → errAt N es j = 0) → firstErr N es k n = 0
  | 0, _, _ => rfl
  | n + 1, k, h => by
    unfold firstErr
    rw [if_pos (h k (Nat.le_refl _) (by omega))]
    exact firstErr_all N es n (k + 1) (fun j h1 h2 => h j (by omega) (by omega))

theorem chk_good {N : Int} {es : List Ed} (h : Good N es) : chk N es = 0 := by
  obtain ⟨h1, h2, h3, h4, h5⟩ := h
  rw [chk_else N es (by omega) (by omega)]
  refine firstErr_all N es _ 0 ?_
  intro j _ hj
  have hj' : j < es.length := by omega
  have ho : okEd N (eAt es j) := by rw [eAt_get es j hj']; exact h4 _ (List.getElem_mem hj')
  unfold errAt
  rw [if_pos (show edge1 N (eAt es j).1 (eAt es j).2.1 (eAt es j).2.2 = 0 from ho)]
  by_cases hz : j = 0
  · rw [if_pos hz]
  · rw [if_neg hz]
    have := (rises_iff es).2 h5 (j - 1) j (by omega) hj'
    rw [if_neg (by rw [cmpE_zero]; unfold ltE at this; omega), if_neg (by rw [cmpE_neg]; exact fun g => ltE_asym g this)]

/-- A right graph's lines, in any order, are read as the graph. -/
theorem parse_lines {N : Int} {es ls : List Ed} (h : chk N es = 0) (hp : ls.Perm es) (hl : (headL N ++ lines ls).length ≤ 4000) : parseL (headL N ++ lines ls) = ((N, es), 0, 0) := by
  obtain ⟨h1, h2, h3, h4, h5⟩ := good_of h
  unfold parseL
  rw [if_neg (by omega)]
  have e0 : headL N ++ lines ls = (graphW ++ dec N) ++ 10 :: lines ls := by rw [head_body]; simp
  have hA : cutA (headL N ++ lines ls) = graphW ++ dec N := by rw [e0]; exact cutA_app _ _ (hbody_no N)
  have hB : cutB (headL N ++ lines ls) = lines ls := by rw [e0]; exact cutB_app _ _ (hbody_no N)
  unfold goL
  rw [if_pos rfl, hA, hB, head_read h1 h2, if_pos rfl]
  by_cases hn : ls = []
  · subst hn
    have : es = [] := hp.nil_eq.symm
    subst this
    rw [if_pos (lines_nil.2 rfl)]
  · rw [if_neg (by rw [lines_nil]; exact hn)]
    have hf : ls.length ≤ (headL N ++ lines ls).length := by
      have := lines_ge ls
      rw [List.length_append]; omega
    obtain ⟨r, r1, r2, r3⟩ := go_lines N h2 ls (headL N ++ lines ls).length 1 [] hn (by omega) hf ((apart_perm hp).2 (apart_sorted h5)) List.Pairwise.nil (fun e he => h4 e (hp.subset he)) (by rw [hp.length_eq]; simpa using h3)
    show goL _ (0 + 1) N [] (lines ls) = _
    rw [r1]
    have : r = es := sorted_uniq r es r3 h5 ((by simpa using r2 : r.Perm ls).trans hp)
    rw [this]

theorem parse_txt {N : Int} {es : List Ed} (h : chk N es = 0) (hl : (txt N es).length ≤ 4000) : parseL (txt N es) = ((N, es), 0, 0) := parse_lines h (List.Perm.refl _) hl
theorem parse_long {l : List UInt8} (hl : 4000 < l.length) : parseL l = ((0, []), 0, 3) := by unfold parseL; rw [if_pos hl]

/-! ### What is read is right -/

theorem readH_good {l : List UInt8} (h : (readH l).2 = 0) : 1 ≤ (readH l).1 ∧ (readH l).1 ≤ 24 := by
  unfold readH at h ⊢
  by_cases h1 : Lib.hasPrefix l graphW = true
  · rw [if_pos h1] at h ⊢
    by_cases h2 : numOk (Lib.trimPrefix l graphW) = true
    · rw [if_pos h2] at h ⊢
      by_cases h3 : numV (Lib.trimPrefix l graphW) < 1 ∨ 24 < numV (Lib.trimPrefix l graphW)
      · rw [if_pos h3] at h; cases h
      · rw [if_neg h3]; exact ⟨by show _ ≤ numV _; omega, by show numV _ ≤ _; omega⟩
    · rw [if_neg h2] at h; cases h
  · rw [if_neg h1] at h; cases h

theorem readE_good {N : Int} {es : List Ed} {l : List UInt8} (hg : Good N es) (h : (readE N es l).1 = 0) : Good N (readE N es l).2 := by
  obtain ⟨h1, h2, h3, h4, h5⟩ := hg
  refine ⟨h1, h2, readE_len h3, ?_, readE_sorted h5⟩
  unfold readE at h ⊢
  cases he : edgeNums l with
  | none => exact h4
  | some e =>
    rw [he] at h
    show ∀ x ∈ (if 80 ≤ es.length then _ else _ : Int × List Ed).2, _
    replace h : (if 80 ≤ es.length then _ else _ : Int × List Ed).1 = 0 := h
    by_cases h6 : 80 ≤ es.length
    · rw [if_pos h6]; exact h4
    · rw [if_neg h6] at h ⊢
      by_cases h7 : edge1 N e.1 e.2.1 e.2.2 = 0
      · rw [if_pos h7] at h ⊢
        by_cases h8 : hasE es e = true
        · rw [if_pos h8]; exact h4
        · rw [if_neg h8]
          intro x hx
          rcases mem_ins.1 hx with rfl | hx
          · exact h7
          · exact h4 x hx
      · rw [if_neg h7]; exact h4

theorem go_good : ∀ (f k : Nat) (N : Int) (es : List Ed) (l : List UInt8), l.length < f → (k ≠ 0 → Good N es) →
    ((goL f k N es l).2.2 = 0 ∧ (goL f k N es l).2.1 = 0 ∧ chk (goL f k N es l).1.1 (goL f k N es l).1.2 = 0) ∨ ((goL f k N es l).2.2 ≠ 0 ∧ (goL f k N es l).1 = (0, []) ∧ (goL f k N es l).2.1 ≤ k + l.length + 1)
  | 0, _, _, _, l, h, _ => absurd h (Nat.not_lt_zero _)
  | f + 1, k, N, es, l, hf, hg => by
    have hB : cutB l ≠ [] → (cutB l).length + 1 ≤ l.length := by
      intro h
      have h1 := cutB_len l
      have h2 := List.length_pos_iff.2 h
      omega
    unfold goL
    by_cases hk : k = 0
    · rw [if_pos hk]
      by_cases hr : (readH (cutA l)).2 = 0
      · rw [if_pos hr]
        have hgood : Good (readH (cutA l)).1 [] := ⟨(readH_good hr).1, (readH_good hr).2, by simp, by simp, List.Pairwise.nil⟩
        by_cases hc : cutB l = []
        · rw [if_pos hc]
          exact .inl ⟨rfl, rfl, chk_good hgood⟩
        · rw [if_neg hc]
          have hB' := hB hc
          rcases go_good f (k + 1) (readH (cutA l)).1 [] (cutB l) (by omega) (fun _ => hgood) with h | ⟨a, b, c⟩
          · exact .inl h
          · exact .inr ⟨a, b, by omega⟩
      · rw [if_neg hr]
        exact .inr ⟨hr, rfl, by show k + 1 ≤ _; omega⟩
    · rw [if_neg hk]
      by_cases hr : (readE N es (cutA l)).1 = 0
      · rw [if_pos hr]
        have hgood := readE_good (hg hk) hr
        by_cases hc : cutB l = []
        · rw [if_pos hc]
          exact .inl ⟨rfl, rfl, chk_good hgood⟩
        · rw [if_neg hc]
          have hB' := hB hc
          rcases go_good f (k + 1) N (readE N es (cutA l)).2 (cutB l) (by omega) (fun _ => hgood) with h | ⟨a, b, c⟩
          · exact .inl h
          · exact .inr ⟨a, b, by omega⟩
      · rw [if_neg hr]
        exact .inr ⟨hr, rfl, by show k + 1 ≤ _; omega⟩

theorem parse_good (l : List UInt8) : ((parseL l).2.2 = 0 ∧ (parseL l).2.1 = 0 ∧ chk (parseL l).1.1 (parseL l).1.2 = 0) ∨ ((parseL l).2.2 ≠ 0 ∧ (parseL l).1 = (0, []) ∧ (parseL l).2.1 ≤ l.length + 1) := by
  by_cases h : 4000 < l.length
  · rw [parse_long h]
    exact .inr ⟨by decide, rfl, Nat.zero_le _⟩
  · unfold parseL
    rw [if_neg h]
    have := go_good (l.length + 1) 0 0 [] l (by omega) (fun h => absurd rfl h)
    rwa [Nat.zero_add] at this

end Go.Proofs.YtcjghomjjnaddaaDoor
