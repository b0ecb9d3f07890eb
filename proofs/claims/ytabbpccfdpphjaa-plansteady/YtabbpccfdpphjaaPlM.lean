import Derived.Test.YtabbpccfdpphjaaPb
/-
  Plain mathematics of plans, ahead of stage 10: moves and what they make, loads, making even: it never makes the greatest load greater; what is even is left alone. No condition.
-/
namespace Go.Proofs.Ytabbpccfdpphjaa
set_option linter.unusedVariables false

def idB (w : Int) : Bool := decide (1 ≤ w ∧ w ≤ 99)
/-- Owners that are right. -/
def rightO (os : List Int) : Bool := decide (1 ≤ os.length ∧ os.length ≤ 6) && os.all idB
abbrev Mv := Int × Int × Int
/-- The moves of the first k partitions. -/
def mvN (old fresh : List Int) : Nat → List Mv
  | 0 => []
  | k + 1 => mvN old fresh k ++ (if iAt old k = iAt fresh k then [] else [((k : Int), iAt old k, iAt fresh k)])
theorem mvN_no {old fresh : List Int} {k : Nat} (h : iAt old k = iAt fresh k) : mvN old fresh (k + 1) = mvN old fresh k := by rw [mvN, if_pos h, List.append_nil]
theorem mvN_yes {old fresh : List Int} {k : Nat} (h : ¬ iAt old k = iAt fresh k) : mvN old fresh (k + 1) = mvN old fresh k ++ [((k : Int), iAt old k, iAt fresh k)] := by rw [mvN, if_neg h]
theorem mvN_len (old fresh : List Int) (k : Nat) : (mvN old fresh k).length ≤ k := by
  induction k with
  | zero => exact Nat.le_refl _
  | succ k ih =>
    by_cases h : iAt old k = iAt fresh k
    · rw [mvN_no h]; omega
    · rw [mvN_yes h, List.length_append, List.length_singleton]; omega
theorem mvN_mem {old fresh : List Int} {k : Nat} {m : Mv} (h : m ∈ mvN old fresh k) : 0 ≤ m.1 ∧ m.1 < k ∧ m.2.1 ≠ m.2.2 := by
  induction k with
  | zero => cases h
  | succ k ih =>
    by_cases he : iAt old k = iAt fresh k
    · rw [mvN_no he] at h
      have := ih h
      exact ⟨this.1, by omega, this.2.2⟩
    · rw [mvN_yes he] at h
      rcases List.mem_append.1 h with h | h
      · have := ih h
        exact ⟨this.1, by omega, this.2.2⟩
      · rw [List.mem_singleton] at h
        subst h
        exact ⟨by simp only; omega, by simp only; omega, he⟩
theorem mvN_rise (old fresh : List Int) (k : Nat) : (mvN old fresh k).Pairwise fun a b => a.1 < b.1 := by
  induction k with
  | zero => exact List.Pairwise.nil
  | succ k ih =>
    by_cases he : iAt old k = iAt fresh k
    · rw [mvN_no he]; exact ih
    · rw [mvN_yes he]
      refine List.pairwise_append.2 ⟨ih, List.pairwise_singleton _ _, fun a ha b hb => ?_⟩
      rw [List.mem_singleton] at hb
      subst hb
      exact (mvN_mem ha).2.1
/-- What is wrong with a move. -/
def apE (out : List Int) (m : Mv) : Int := if m.1 < 0 ∨ (out.length : Int) ≤ m.1 then 4 else if iAt out m.1.toNat ≠ m.2.1 then 6 else if idB m.2.2 = true then 0 else 1
/-- The owners behind some moves, or the error. -/
def apL (out : List Int) : List Mv → List Int × Int
  | [] => (out, 0)
  | m :: r => if apE out m = 0 then apL (out.set m.1.toNat m.2.2) r else ([], apE out m)
def applyR (os : List Int) (l : List Mv) : List Int × Int := if rightO os = true then apL os l else ([], 1)
theorem apL_app (out : List Int) (a b : List Mv) : apL out (a ++ b) = if (apL out a).2 = 0 then apL (apL out a).1 b else ([], (apL out a).2) := by
  induction a generalizing out with
  | nil => rfl
  | cons m r ih =>
    show apL out (m :: (r ++ b)) = _
    rw [apL]
    by_cases h : apE out m = 0
    · rw [if_pos h, ih, show apL out (m :: r) = apL (out.set m.1.toNat m.2.2) r by rw [apL, if_pos h]]
    · rw [if_neg h, show apL out (m :: r) = ([], apE out m) by rw [apL, if_neg h], if_neg h]
/-- Behind the moves of the first k partitions those have their fresh owners. -/
theorem ap_mv {old fresh : List Int} (hl : old.length = fresh.length) (hf : fresh.all idB = true) (k : Nat) (hk : k ≤ old.length) : apL old (mvN old fresh k) = (fresh.take k ++ old.drop k, 0) := by
  induction k with
  | zero => simp [mvN, apL]
  | succ k ih =>
    have ih := ih (by omega)
    have hk1 : k < old.length := by omega
    have hk2 : k < fresh.length := by omega
    have ht := itake_at fresh k hk2
    have hd := idrop_at old k hk1
    by_cases he : iAt old k = iAt fresh k
    · rw [mvN_no he, ih, ht, hd, ← he, List.append_assoc]; rfl
    · rw [mvN_yes he, apL_app, ih, if_pos rfl]
      have hlen : (fresh.take k ++ old.drop k).length = old.length := by rw [List.length_append, List.length_take, List.length_drop]; omega
      have hat : iAt (fresh.take k ++ old.drop k) k = iAt old k := by
        have e2 : k + (k - (fresh.take k).length) = k := by rw [List.length_take]; omega
        rw [iAt_get _ k (by rw [hlen]; exact hk1), List.getElem_append_right (by rw [List.length_take]; omega), iAt_get old k hk1, List.getElem_drop]
        simp only [e2]
      have hid : idB (iAt fresh k) = true := List.all_eq_true.1 hf _ (iAt_mem fresh k hk2)
      have hE : apE (fresh.take k ++ old.drop k) ((k : Int), iAt old k, iAt fresh k) = 0 := by
        unfold apE
        rw [if_neg (by simp only; rw [hlen]; omega), if_neg (by simp only [Int.toNat_natCast]; rw [hat]; simp), if_pos hid]
      rw [apL, if_pos hE, apL]
      simp only [Int.toNat_natCast]
      rw [hd, List.set_append_right _ _ (by rw [List.length_take]; omega)]
      have : k - (fresh.take k).length = 0 := by rw [List.length_take]; omega
      rw [this, List.set_cons_zero, ht, List.append_assoc]; rfl
theorem back_mv {old fresh : List Int} (hl : old.length = fresh.length) (hf : rightO fresh = true) : apL old (mvN old fresh old.length) = (fresh, 0) := by
  unfold rightO at hf
  rw [Bool.and_eq_true] at hf
  rw [ap_mv hl hf.2 _ (Nat.le_refl _), List.drop_length, List.append_nil, hl, List.take_length]
/-- A worker's load. -/
def ldI (os cost : List Int) (w slow : Int) : Nat → Int
  | 0 => 0
  | k + 1 => ldI os cost w slow k + (if iAt os k = w then iAt cost k * slow else 0)
theorem ldI_yes {os cost : List Int} {w slow : Int} {k : Nat} (h : iAt os k = w) : ldI os cost w slow (k + 1) = ldI os cost w slow k + iAt cost k * slow := by rw [ldI, if_pos h]
theorem ldI_no {os cost : List Int} {w slow : Int} {k : Nat} (h : ¬ iAt os k = w) : ldI os cost w slow (k + 1) = ldI os cost w slow k := by rw [ldI, if_neg h, Int.add_zero]
theorem iAt_set (l : List Int) (q : Nat) (v : Int) (k : Nat) (hq : q < l.length) : iAt (l.set q v) k = if k = q then v else iAt l k := by
  unfold iAt
  rw [List.getD_eq_getElem?_getD, List.getD_eq_getElem?_getD, List.getElem?_set]
  by_cases h : k = q
  · subst h; rw [if_pos rfl, if_pos hq, if_pos rfl]; rfl
  · rw [if_neg (fun e => h e.symm), if_neg h]
/-- A partition's cost goes from the one to the other. -/
theorem ldI_set {os cost : List Int} {q : Nat} (hq : q < os.length) (v w slow : Int) : ∀ n : Nat, ldI (os.set q v) cost w slow n = ldI os cost w slow n + (if q < n then (if v = w then iAt cost q * slow else 0) - (if iAt os q = w then iAt cost q * slow else 0) else 0) := by
  intro n
  induction n with
  | zero => simp [ldI]
  | succ n ih =>
    rw [ldI, ldI, ih, iAt_set os q v n hq]
    by_cases h : n = q
    · subst h
      rw [if_pos rfl, if_neg (Nat.lt_irrefl _), if_pos (Nat.lt_succ_self _)]
      generalize (if v = w then iAt cost n * slow else 0) = c
      generalize (if iAt os n = w then iAt cost n * slow else 0) = d
      omega
    · rw [if_neg h]
      generalize (if iAt os n = w then iAt cost n * slow else 0) = b
      by_cases h2 : q < n
      · rw [if_pos h2, if_pos (show q < n + 1 by omega)]
        generalize (if v = w then iAt cost q * slow else 0) = c
        generalize (if iAt os q = w then iAt cost q * slow else 0) = d
        omega
      · rw [if_neg h2, if_neg (show ¬ q < n + 1 by omega)]; omega
theorem ldI_other {os cost : List Int} {q : Nat} (hq : q < os.length) {v w slow : Int} (h1 : v ≠ w) (h2 : iAt os q ≠ w) (n : Nat) : ldI (os.set q v) cost w slow n = ldI os cost w slow n := by
  rw [ldI_set hq, if_neg h1, if_neg h2]
  split <;> omega
def ldL (os ms cost slow : List Int) : List Int := (List.range ms.length).map fun i => ldI os cost (iAt ms i) (iAt slow i) os.length
theorem ldL_len (os ms cost slow : List Int) : (ldL os ms cost slow).length = ms.length := by unfold ldL; simp
theorem ldL_at {os ms cost slow : List Int} {i : Nat} (h : i < ms.length) : iAt (ldL os ms cost slow) i = ldI os cost (iAt ms i) (iAt slow i) os.length := by
  rw [iAt_get _ i (by rw [ldL_len]; exact h)]; unfold ldL; simp
/-- What is wrong with owners, members, costs and how slow each is. -/
def ldE (os ms cost slow : List Int) : Int :=
  if rightO os = true ∧ rgt ms = true ∧ cost.length = os.length ∧ slow.length = ms.length ∧ (∀ x ∈ cost, 0 ≤ x ∧ x ≤ 1000) ∧ (∀ x ∈ slow, 1 ≤ x ∧ x ≤ 10) then (if ∀ x ∈ os, x ∈ ms then 0 else 4) else 1
theorem ldE_zero {os ms cost slow : List Int} (h : ldE os ms cost slow = 0) : (rightO os = true ∧ rgt ms = true ∧ cost.length = os.length ∧ slow.length = ms.length ∧ (∀ x ∈ cost, 0 ≤ x ∧ x ≤ 1000) ∧ (∀ x ∈ slow, 1 ≤ x ∧ x ≤ 10)) ∧ ∀ x ∈ os, x ∈ ms := by
  unfold ldE at h
  split at h
  · rename_i h1
    split at h
    · rename_i h2; exact ⟨h1, h2⟩
    · cases h
  · cases h
theorem ldE_of {os ms cost slow : List Int} (h1 : rightO os = true ∧ rgt ms = true ∧ cost.length = os.length ∧ slow.length = ms.length ∧ (∀ x ∈ cost, 0 ≤ x ∧ x ≤ 1000) ∧ (∀ x ∈ slow, 1 ≤ x ∧ x ≤ 10)) (h2 : ∀ x ∈ os, x ∈ ms) : ldE os ms cost slow = 0 := by
  unfold ldE
  rw [if_pos h1, if_pos h2]
/-- The first of the greatest, of the least, of the first n numbers. -/
def amax (l : List Int) : Nat → Nat
  | 0 => 0
  | k + 1 => if iAt l (amax l k) < iAt l k then k else amax l k
def amin (l : List Int) : Nat → Nat
  | 0 => 0
  | k + 1 => if iAt l k < iAt l (amin l k) then k else amin l k
theorem amax_le (l : List Int) : ∀ (n i : Nat), i < n → iAt l i ≤ iAt l (amax l n) := by
  intro n
  induction n with
  | zero => intro i h; omega
  | succ n ih =>
    intro i h
    rw [amax]
    by_cases h1 : iAt l (amax l n) < iAt l n
    · rw [if_pos h1]
      by_cases h2 : i < n
      · have := ih i h2; omega
      · obtain rfl : i = n := by omega
        exact Int.le_refl _
    · rw [if_neg h1]
      by_cases h2 : i < n
      · exact ih i h2
      · obtain rfl : i = n := by omega
        omega
theorem amax_lt (l : List Int) : ∀ n, 0 < n → amax l n < n := by
  intro n
  induction n with
  | zero => intro h; omega
  | succ n ih =>
    intro _
    rw [amax]
    split
    · exact Nat.lt_succ_self _
    · by_cases h : 0 < n
      · have := ih h; omega
      · obtain rfl : n = 0 := by omega
        exact Nat.lt_succ_self _
theorem amin_lt (l : List Int) : ∀ n, 0 < n → amin l n < n := by
  intro n
  induction n with
  | zero => intro h; omega
  | succ n ih =>
    intro _
    rw [amin]
    split
    · exact Nat.lt_succ_self _
    · by_cases h : 0 < n
      · have := ih h; omega
      · obtain rfl : n = 0 := by omega
        exact Nat.lt_succ_self _
/-- The greater load of the two, when partition q is given away. -/
def tryI (os ms cost slow : List Int) (h w q : Nat) : Int :=
  max (ldI (os.set q (iAt ms w)) cost (iAt ms h) (iAt slow h) os.length) (ldI (os.set q (iAt ms w)) cost (iAt ms w) (iAt slow w) os.length)
/-- The best one so far, and the greater load with it. -/
def bst (os ms cost slow : List Int) (h w : Nat) : Nat → Int × Int
  | 0 => (-1, iAt (ldL os ms cost slow) h)
  | q + 1 => if iAt os q = iAt ms h ∧ h ≠ w ∧ tryI os ms cost slow h w q < (bst os ms cost slow h w q).2 then ((q : Int), tryI os ms cost slow h w q) else bst os ms cost slow h w q
theorem bst_spec (os ms cost slow : List Int) (h w : Nat) : ∀ n : Nat, (bst os ms cost slow h w n).1 = -1 ∨ (0 ≤ (bst os ms cost slow h w n).1 ∧ (bst os ms cost slow h w n).1 < n ∧ iAt os (bst os ms cost slow h w n).1.toNat = iAt ms h ∧ h ≠ w ∧ tryI os ms cost slow h w (bst os ms cost slow h w n).1.toNat < iAt (ldL os ms cost slow) h ∧ (bst os ms cost slow h w n).2 < iAt (ldL os ms cost slow) h) ∧ (bst os ms cost slow h w n).2 = tryI os ms cost slow h w (bst os ms cost slow h w n).1.toNat := by
  intro n
  induction n with
  | zero => exact .inl rfl
  | succ n ih =>
    rw [bst]
    by_cases hc : iAt os n = iAt ms h ∧ h ≠ w ∧ tryI os ms cost slow h w n < (bst os ms cost slow h w n).2
    · rw [if_pos hc]
      right
      have hle : (bst os ms cost slow h w n).2 ≤ iAt (ldL os ms cost slow) h := by
        rcases ih with h1 | h1
        · have : ∀ k : Nat, (bst os ms cost slow h w k).1 = -1 → (bst os ms cost slow h w k).2 = iAt (ldL os ms cost slow) h := by
            intro k
            induction k with
            | zero => intro _; rfl
            | succ k ihk =>
              intro hk
              rw [bst] at hk ⊢
              split at hk
              · simp only at hk; omega
              · rename_i hn; rw [if_neg hn]; exact ihk hk
          rw [this n h1]; exact Int.le_refl _
        · exact Int.le_of_lt h1.1.2.2.2.2.2
      exact ⟨⟨by simp only; omega, by simp only; omega, by simpa using hc.1, hc.2.1, by simp only [Int.toNat_natCast]; omega, by simp only; omega⟩, by simp⟩
    · rw [if_neg hc]
      rcases ih with h1 | ⟨⟨a1, a2, a3⟩, a4⟩
      · exact .inl h1
      · exact .inr ⟨⟨a1, by omega, a3⟩, a4⟩
/-- One move of making even. -/
def onceI (os ms cost slow : List Int) : List Int :=
  if (bst os ms cost slow (amax (ldL os ms cost slow) ms.length) (amin (ldL os ms cost slow) ms.length) os.length).1 < 0 then os
  else os.set (bst os ms cost slow (amax (ldL os ms cost slow) ms.length) (amin (ldL os ms cost slow) ms.length) os.length).1.toNat (iAt ms (amin (ldL os ms cost slow) ms.length))
theorem iAt_inj {ms : List Int} (h : rgt ms = true) {i j : Nat} (hi : i < ms.length) (hj : j < ms.length) (he : iAt ms i = iAt ms j) : i = j := by
  rw [iAt_get ms i hi, iAt_get ms j hj] at he
  have hp := rise_pairs (rgt_rise h)
  rcases Nat.lt_trichotomy i j with h1 | h1 | h1
  · have := List.pairwise_iff_getElem.1 hp i j hi hj h1; omega
  · exact h1
  · have := List.pairwise_iff_getElem.1 hp j i hj hi h1; omega
/-- What one move does: nothing; or it makes the loads of two smaller than the greatest was, and leaves the others. -/
theorem once_spec {os ms cost slow : List Int} (h0 : ldE os ms cost slow = 0) : ldE (onceI os ms cost slow) ms cost slow = 0 ∧ (onceI os ms cost slow).length = os.length ∧ ∀ i, i < ms.length → iAt (ldL (onceI os ms cost slow) ms cost slow) i ≤ iAt (ldL os ms cost slow) (amax (ldL os ms cost slow) ms.length) := by
  obtain ⟨⟨hro, hrm, hc, hs, hcb, hsb⟩, hin⟩ := ldE_zero h0
  have hm0 : 0 < ms.length := (rgt_len hrm).1
  have hmax := amax_le (ldL os ms cost slow) ms.length
  have hhl := amax_lt (ldL os ms cost slow) ms.length hm0
  have hwl := amin_lt (ldL os ms cost slow) ms.length hm0
  unfold onceI
  generalize amax (ldL os ms cost slow) ms.length = h at *
  generalize amin (ldL os ms cost slow) ms.length = w at *
  have hb := bst_spec os ms cost slow h w os.length
  generalize bst os ms cost slow h w os.length = b at *
  by_cases hn : b.1 < 0
  · rw [if_pos hn]
    exact ⟨h0, rfl, hmax⟩
  · rw [if_neg hn]
    rcases hb with hb | ⟨⟨b1, b2, b3, b4, b5, b6⟩, b7⟩
    · omega
    · have hq : b.1.toNat < os.length := by omega
      generalize b.1.toNat = q at *
      refine ⟨ldE_of ⟨?_, hrm, by rw [List.length_set]; exact hc, hs, hcb, hsb⟩ ?_, List.length_set .., ?_⟩
      · unfold rightO at hro ⊢
        rw [Bool.and_eq_true] at hro ⊢
        refine ⟨by rw [List.length_set]; exact hro.1, List.all_eq_true.2 fun x hx => ?_⟩
        rcases List.mem_or_eq_of_mem_set hx with hx | rfl
        · exact List.all_eq_true.1 hro.2 x hx
        · exact decide_eq_true (rgt_mem hrm (iAt_mem ms w hwl))
      · intro x hx
        rcases List.mem_or_eq_of_mem_set hx with hx | rfl
        · exact hin x hx
        · exact iAt_mem ms w hwl
      · intro i hi
        rw [ldL_at hi, List.length_set]
        unfold tryI at b5
        by_cases h1 : i = h
        · subst h1; omega
        · by_cases h2 : i = w
          · subst h2; omega
          · rw [ldI_other hq (fun e => h2 (iAt_inj hrm hwl hi e).symm) (fun e => h1 (iAt_inj hrm hi hhl (b3.symm.trans e).symm)), ← ldL_at hi]
            exact hmax i hi
/-- Making even, at most n moves. -/
def evN (ms cost slow : List Int) : Nat → List Int → List Int
  | 0, os => os
  | n + 1, os => if onceI os ms cost slow = os then os else evN ms cost slow n (onceI os ms cost slow)
/-- The greatest of some numbers, or 0. -/
def mostI (l : List Int) : Int := l.foldl (fun a x => if a < x then x else a) 0
theorem most_fold (l : List Int) (a : Int) : a ≤ l.foldl (fun a x => if a < x then x else a) a ∧ ∀ x ∈ l, x ≤ l.foldl (fun a x => if a < x then x else a) a := by
  induction l generalizing a with
  | nil => exact ⟨Int.le_refl _, fun x hx => by cases hx⟩
  | cons y r ih =>
    rw [List.foldl_cons]
    by_cases h : a < y
    · rw [if_pos h]
      have := ih y
      exact ⟨by omega, fun x hx => by rcases List.mem_cons.1 hx with rfl | hx; exact this.1; exact this.2 x hx⟩
    · rw [if_neg h]
      have := ih a
      exact ⟨this.1, fun x hx => by rcases List.mem_cons.1 hx with rfl | hx; omega; exact this.2 x hx⟩
theorem most_le {l : List Int} {b : Int} (hb : 0 ≤ b) (h : ∀ x ∈ l, x ≤ b) : mostI l ≤ b := by
  unfold mostI
  have : ∀ (l : List Int) (a : Int), a ≤ b → (∀ x ∈ l, x ≤ b) → l.foldl (fun a x => if a < x then x else a) a ≤ b := by
    intro l
    induction l with
    | nil => intro a h _; exact h
    | cons y r ih =>
      intro a h1 h2
      rw [List.foldl_cons]
      apply ih
      · split
        · exact h2 y List.mem_cons_self
        · exact h1
      · exact fun x hx => h2 x (List.mem_cons_of_mem _ hx)
  exact this l 0 hb h
theorem even_better {ms cost slow : List Int} : ∀ (n : Nat) (os : List Int), ldE os ms cost slow = 0 → ldE (evN ms cost slow n os) ms cost slow = 0 ∧ (evN ms cost slow n os).length = os.length ∧ mostI (ldL (evN ms cost slow n os) ms cost slow) ≤ mostI (ldL os ms cost slow) := by
  intro n
  induction n with
  | zero => intro os h; exact ⟨h, rfl, Int.le_refl _⟩
  | succ n ih =>
    intro os h
    rw [evN]
    by_cases he : onceI os ms cost slow = os
    · rw [if_pos he]; exact ⟨h, rfl, Int.le_refl _⟩
    · rw [if_neg he]
      obtain ⟨a1, a2, a3⟩ := once_spec h
      obtain ⟨b1, b2, b3⟩ := ih _ a1
      refine ⟨b1, b2.trans a2, Int.le_trans b3 (most_le (most_fold _ 0).1 fun x hx => ?_)⟩
      obtain ⟨i, hi, rfl⟩ := List.mem_iff_getElem.1 hx
      rw [ldL_len] at hi
      have h1 := a3 i hi
      rw [iAt_get _ i (by rw [ldL_len]; exact hi)] at h1
      have hm0 : 0 < ms.length := by omega
      have h2 := (most_fold (ldL os ms cost slow) 0).2 _ (iAt_mem (ldL os ms cost slow) (amax (ldL os ms cost slow) ms.length) (by rw [ldL_len]; exact amax_lt _ _ hm0))
      exact Int.le_trans h1 h2
/-- How many moves are made. -/
def stN (ms cost slow : List Int) : Nat → List Int → Nat
  | 0, os => 0
  | n + 1, os => if onceI os ms cost slow = os then 0 else stN ms cost slow n (onceI os ms cost slow) + 1
theorem even_fix {ms cost slow : List Int} : ∀ (n : Nat) (os : List Int), stN ms cost slow n os < n → onceI (evN ms cost slow n os) ms cost slow = evN ms cost slow n os := by
  intro n
  induction n with
  | zero => intro os h; omega
  | succ n ih =>
    intro os h
    rw [stN] at h
    rw [evN]
    by_cases he : onceI os ms cost slow = os
    · rw [if_pos he]; exact he
    · rw [if_neg he] at h ⊢
      exact ih _ (by omega)
theorem even_stays {ms cost slow : List Int} {os : List Int} (h : onceI os ms cost slow = os) (n : Nat) : evN ms cost slow n os = os := by
  cases n with
  | zero => rfl
  | succ n => rw [evN, if_pos h]
end Go.Proofs.Ytabbpccfdpphjaa

