import Derived.Test.YtgdgjkdigbohlaaBase
/-
  Plain mathematics of the ring: numbers mixed, places, spots, the first one at a place or behind it, the nearest one going round, and that both have one worker; what becomes of owners when a worker comes or goes. No condition.
-/
namespace Go.Proofs.Ytgdgjkdigbohlaa
set_option linter.unusedVariables false

/-- The exclusive or of a number and it down. -/
def xs (x s : Nat) : Nat := x ^^^ x / s
theorem xs_lt {x : Nat} (s : Nat) (h : x < 18446744073709551616) : xs x s < 18446744073709551616 := by
  unfold xs
  have h2 : x / s < 18446744073709551616 := Nat.lt_of_le_of_lt (Nat.div_le_self _ _) h
  exact Nat.xor_lt_two_pow (n := 64) h h2
def mixA (x : Nat) : Nat := xs x 1073741824 * 13787848793156543929 % 18446744073709551616
def mixB (x : Nat) : Nat := xs x 134217728 * 10723151780598845931 % 18446744073709551616
/-- To mix a number. -/
def mixN (x : Nat) : Nat := xs (mixB (mixA x)) 2147483648
theorem mixA_lt (x : Nat) : mixA x < 18446744073709551616 := Nat.mod_lt _ (by decide)
theorem mixB_lt (x : Nat) : mixB x < 18446744073709551616 := Nat.mod_lt _ (by decide)
theorem mixN_lt (x : Nat) : mixN x < 18446744073709551616 := xs_lt _ (mixB_lt _)
theorem mixN_0 : mixN 0 = 0 := by decide
theorem mixN_1 : mixN 1 = 6238072747940578789 := by decide
/-- The upper 32 bits of a number, mixed. -/
def upI (n : Int) : Int := ((mixN n.toNat / 4294967296 : Nat) : Int)
theorem upI_bd (n : Int) : 0 ≤ upI n ∧ upI n < 4294967296 := by
  unfold upI
  have := mixN_lt n.toNat
  omega
def plI (v i : Int) : Int := if 1 ≤ v ∧ v ≤ 99 ∧ 0 ≤ i ∧ i ≤ 7 then upI (1000 * v + i) else 0
def keyI (p : Int) : Int := if 0 ≤ p ∧ p < 6 then upI (1000000 + p) else 0
theorem plI_bd (v i : Int) : 0 ≤ plI v i ∧ plI v i < 4294967296 := by
  unfold plI
  split
  · exact upI_bd _
  · decide
theorem keyI_bd (p : Int) : 0 ≤ keyI p ∧ keyI p < 4294967296 := by
  unfold keyI
  split
  · exact upI_bd _
  · decide
theorem plI_yes {v i : Int} (h : 1 ≤ v ∧ v ≤ 99 ∧ 0 ≤ i ∧ i ≤ 7) : plI v i = upI (1000 * v + i) := by unfold plI; rw [if_pos h]
theorem plI_no {v i : Int} (h : ¬ (1 ≤ v ∧ v ≤ 99 ∧ 0 ≤ i ∧ i ≤ 7)) : plI v i = 0 := by unfold plI; rw [if_neg h]
theorem keyI_yes {p : Int} (h : 0 ≤ p ∧ p < 6) : keyI p = upI (1000000 + p) := by unfold keyI; rw [if_pos h]
theorem keyI_no {p : Int} (h : ¬ (0 ≤ p ∧ p < 6)) : keyI p = 0 := by unfold keyI; rw [if_neg h]
/-- A spot: its place and its worker. -/
abbrev Sp := Int × Int
/-- A worker's spots, the first k of them. -/
def sp1 (v : Int) (k : Nat) : List Sp := (List.range k).map fun (i : Nat) => (plI v i, v)
theorem sp1_succ (v : Int) (k : Nat) : sp1 v (k + 1) = sp1 v k ++ [(plI v k, v)] := by unfold sp1; rw [List.range_succ, List.map_append]; rfl
theorem sp1_len (v : Int) (k : Nat) : (sp1 v k).length = k := by unfold sp1; simp
/-- All spots of some workers. -/
def spL (ms : List Int) : List Sp := ms.flatMap fun v => sp1 v 8
theorem spL_app (a b : List Int) : spL (a ++ b) = spL a ++ spL b := by unfold spL; simp
theorem spL_one (v : Int) : spL [v] = sp1 v 8 := by unfold spL; simp
theorem spL_snoc (a : List Int) (v : Int) : spL (a ++ [v]) = spL a ++ sp1 v 8 := by rw [spL_app, spL_one]
theorem spL_nil : spL [] = [] := rfl
theorem spL_len (ms : List Int) : (spL ms).length = ms.length * 8 := by
  induction ms with
  | nil => rfl
  | cons a l ih => rw [show spL (a :: l) = sp1 a 8 ++ spL l from rfl, List.length_append, ih, sp1_len, List.length_cons]; omega
theorem mem_spL {s : Sp} {ms : List Int} (h : s ∈ spL ms) : s.2 ∈ ms ∧ 0 ≤ s.1 ∧ s.1 < 4294967296 := by
  unfold spL at h
  obtain ⟨v, hv, hs⟩ := List.mem_flatMap.1 h
  unfold sp1 at hs
  obtain ⟨i, hi, rfl⟩ := List.mem_map.1 hs
  exact ⟨hv, plI_bd _ _⟩
theorem spL_mono {a b : List Int} (h : ∀ x ∈ a, x ∈ b) {s : Sp} (hs : s ∈ spL a) : s ∈ spL b := by
  unfold spL at *
  obtain ⟨v, hv, hs⟩ := List.mem_flatMap.1 hs
  exact List.mem_flatMap.2 ⟨v, h v hv, hs⟩
theorem spL_of {a : List Int} {s : Sp} {b : List Int} (hs : s ∈ spL a) (h : s.2 ∈ b) : s ∈ spL b := by
  unfold spL at *
  obtain ⟨v, hv, hs⟩ := List.mem_flatMap.1 hs
  have : s.2 = v := by unfold sp1 at hs; obtain ⟨i, hi, rfl⟩ := List.mem_map.1 hs; rfl
  exact List.mem_flatMap.2 ⟨s.2, h, by rw [this]; exact hs⟩
theorem spL_some {ms : List Int} (h : ms ≠ []) : ∃ s, s ∈ spL ms := by
  cases ms with
  | nil => exact absurd rfl h
  | cons a l => exact ⟨(plI a 0, a), by unfold spL sp1; simp [List.range_succ]⟩
/-- Members that are right. -/
def rise : Int → List Int → Bool
  | _, [] => true
  | a, b :: l => decide (1 ≤ b ∧ b ≤ 99 ∧ a < b) && rise b l
def rgt (ms : List Int) : Bool := decide (1 ≤ ms.length ∧ ms.length ≤ 5) && rise 0 ms
theorem rise_mem : ∀ {ms : List Int} {a : Int}, rise a ms = true → ∀ v ∈ ms, 1 ≤ v ∧ v ≤ 99 ∧ a < v := by
  intro ms
  induction ms with
  | nil => intro a h v hv; cases hv
  | cons b l ih =>
    intro a h v hv
    rw [rise, Bool.and_eq_true, decide_eq_true_eq] at h
    rcases List.mem_cons.1 hv with rfl | hv
    · exact h.1
    · have := ih h.2 v hv
      omega
theorem rgt_mem {ms : List Int} (h : rgt ms = true) {v : Int} (hv : v ∈ ms) : 1 ≤ v ∧ v ≤ 99 := by
  unfold rgt at h
  rw [Bool.and_eq_true] at h
  have := rise_mem h.2 v hv
  omega
theorem rgt_len {ms : List Int} (h : rgt ms = true) : 1 ≤ ms.length ∧ ms.length ≤ 5 := by
  unfold rgt at h
  rw [Bool.and_eq_true, decide_eq_true_eq] at h
  exact h.1
theorem rgt_rise {ms : List Int} (h : rgt ms = true) : rise 0 ms = true := by
  unfold rgt at h
  rw [Bool.and_eq_true] at h
  exact h.2
theorem rise_pairs : ∀ {ms : List Int} {a : Int}, rise a ms = true → ms.Pairwise (· < ·) := by
  intro ms
  induction ms with
  | nil => intro a h; exact List.Pairwise.nil
  | cons b l ih =>
    intro a h
    rw [rise, Bool.and_eq_true, decide_eq_true_eq] at h
    exact List.Pairwise.cons (fun v hv => (rise_mem h.2 v hv).2.2) (ih h.2)
theorem pairs_rise : ∀ {ms : List Int} {a : Int}, ms.Pairwise (· < ·) → (∀ v ∈ ms, 1 ≤ v ∧ v ≤ 99 ∧ a < v) → rise a ms = true := by
  intro ms
  induction ms with
  | nil => intro a h h2; rfl
  | cons b l ih =>
    intro a h h2
    rw [rise, Bool.and_eq_true, decide_eq_true_eq]
    have h3 := List.pairwise_cons.1 h
    exact ⟨h2 b List.mem_cons_self, ih h3.2 fun v hv => ⟨(h2 v (List.mem_cons_of_mem _ hv)).1, (h2 v (List.mem_cons_of_mem _ hv)).2.1, h3.1 v hv⟩⟩
/-- How far a place is behind another one, going round. -/
def wayI (k p : Int) : Int := (p - k) % 4294967296
theorem wayI_bd (k p : Int) : 0 ≤ wayI k p ∧ wayI k p < 4294967296 := by unfold wayI; omega
/-- The order of spots, seen from a place. -/
def kap (k : Int) (s : Sp) : Int := wayI k s.1 * 1000 + s.2
/-- The worker of the nearest spot. -/
def IsOwn (ms : List Int) (k v : Int) : Prop := ∃ s ∈ spL ms, s.2 = v ∧ ∀ t ∈ spL ms, kap k s ≤ kap k t
def small (ms : List Int) : Prop := ∀ v ∈ ms, 1 ≤ v ∧ v ≤ 99
theorem IsOwn.mem {ms : List Int} {k v : Int} (h : IsOwn ms k v) : v ∈ ms := by
  obtain ⟨s, hs, rfl, _⟩ := h
  exact (mem_spL hs).1
theorem kap_inj {ms ms' : List Int} {k : Int} {s t : Sp} (hm : small ms) (hm' : small ms') (hs : s ∈ spL ms) (ht : t ∈ spL ms') (h : kap k s = kap k t) : s.2 = t.2 := by
  have h1 := hm _ (mem_spL hs).1
  have h2 := hm' _ (mem_spL ht).1
  unfold kap at h
  omega
theorem IsOwn.uniq {ms : List Int} {k a b : Int} (hm : small ms) (h : IsOwn ms k a) (h' : IsOwn ms k b) : a = b := by
  obtain ⟨s, hs, rfl, h1⟩ := h
  obtain ⟨t, ht, rfl, h2⟩ := h'
  exact kap_inj hm hm hs ht (Int.le_antisymm (h1 t ht) (h2 s hs))
/-- A worker comes: what was stays, or is its. -/
theorem own_comes {ms more : List Int} {v k a b : Int} (hm : small ms) (hm' : small more) (h1 : ∀ x ∈ ms, x ∈ more) (h2 : ∀ x ∈ more, x ∈ ms ∨ x = v) (ha : IsOwn ms k a) (hb : IsOwn more k b) : b = a ∨ b = v := by
  have hbm := hb.mem
  obtain ⟨s, hs, rfl, hs1⟩ := ha
  obtain ⟨t, ht, rfl, ht1⟩ := hb
  rcases h2 _ hbm with h | h
  · left
    have hts : t ∈ spL ms := spL_of ht h
    exact (kap_inj hm hm hs hts (Int.le_antisymm (hs1 t hts) (ht1 s (spL_mono h1 hs)))).symm
  · exact .inr h
/-- A worker goes: what was not its stays. -/
theorem own_goes {ms less : List Int} {v k a b : Int} (hm : small ms) (h1 : ∀ x ∈ less, x ∈ ms) (h2 : ∀ x ∈ ms, x ∈ less ∨ x = v) (ha : IsOwn ms k a) (hb : IsOwn less k b) (hne : a ≠ v) : b = a := by
  have hml : small less := fun x hx => hm x (h1 x hx)
  rcases own_comes hml hm h1 h2 hb ha with h | h
  · exact h.symm
  · exact absurd h hne
/-- Which of two spots is the first one on the ring. -/
def earI (b s : Sp) : Sp := if (b.1 = 0 ∧ b.2 = 0) ∨ s.1 < b.1 then s else if s.1 = b.1 ∧ s.2 < b.2 then s else b
theorem earI_1 {b s : Sp} (h : (b.1 = 0 ∧ b.2 = 0) ∨ s.1 < b.1) : earI b s = s := by unfold earI; rw [if_pos h]
theorem earI_2 {b s : Sp} (h : ¬ ((b.1 = 0 ∧ b.2 = 0) ∨ s.1 < b.1)) (h2 : s.1 = b.1 ∧ s.2 < b.2) : earI b s = s := by unfold earI; rw [if_neg h, if_pos h2]
theorem earI_3 {b s : Sp} (h : ¬ ((b.1 = 0 ∧ b.2 = 0) ∨ s.1 < b.1)) (h2 : ¬ (s.1 = b.1 ∧ s.2 < b.2)) : earI b s = b := by unfold earI; rw [if_neg h, if_neg h2]
def fstI (l : List Sp) : Sp := l.foldl earI (0, 0)
def behI (k : Int) (l : List Sp) : Sp := (l.filter fun s => decide (k ≤ s.1)).foldl earI (0, 0)
def nextI (k : Int) (l : List Sp) : Sp := if (behI k l).1 = 0 ∧ (behI k l).2 = 0 then fstI l else behI k l
theorem fstI_snoc (l : List Sp) (s : Sp) : fstI (l ++ [s]) = earI (fstI l) s := by unfold fstI; rw [List.foldl_append]; rfl
theorem behI_yes (l : List Sp) {s : Sp} {k : Int} (h : k ≤ s.1) : behI k (l ++ [s]) = earI (behI k l) s := by
  unfold behI; rw [List.filter_append, List.foldl_append]; simp [h]
theorem behI_no (l : List Sp) {s : Sp} {k : Int} (h : ¬ k ≤ s.1) : behI k (l ++ [s]) = behI k l := by
  unfold behI; rw [List.filter_append, List.foldl_append]; simp [h]
def lam (s : Sp) : Int := s.1 * 1000 + s.2
theorem ear_min : ∀ (l : List Sp), (∀ s ∈ l, 1 ≤ s.2 ∧ s.2 ≤ 99) → (l = [] ∧ fstI l = (0, 0)) ∨ (fstI l ∈ l ∧ ∀ t ∈ l, lam (fstI l) ≤ lam t) := by
  intro l
  have H : ∀ n (l : List Sp), l.length = n → (∀ s ∈ l, 1 ≤ s.2 ∧ s.2 ≤ 99) → (l = [] ∧ fstI l = (0, 0)) ∨ (fstI l ∈ l ∧ ∀ t ∈ l, lam (fstI l) ≤ lam t) := by
    intro n
    induction n with
    | zero => intro l hl _; have := List.eq_nil_of_length_eq_zero hl; subst this; exact .inl ⟨rfl, rfl⟩
    | succ n ih =>
      intro l hl hs
      right
      have hne : l ≠ [] := by intro h; subst h; simp at hl
      rw [← List.dropLast_concat_getLast hne] at hs ⊢
      generalize hq : l.getLast hne = u at hs ⊢
      have hlen : l.dropLast.length = n := by rw [List.length_dropLast]; omega
      generalize l.dropLast = r at hs hlen ⊢
      have hr : ∀ s ∈ r, 1 ≤ s.2 ∧ s.2 ≤ 99 := fun s h => hs s (List.mem_append_left _ h)
      have hu : 1 ≤ u.2 ∧ u.2 ≤ 99 := hs u (by simp)
      rw [fstI_snoc]
      rcases ih r hlen hr with ⟨rfl, h0⟩ | ⟨hm, hmin⟩
      · rw [h0, earI_1 (.inl ⟨rfl, rfl⟩)]
        exact ⟨by simp, fun t ht => by simp at ht; subst ht; exact Int.le_refl _⟩
      · have hf := hr _ hm
        by_cases h1 : ((fstI r).1 = 0 ∧ (fstI r).2 = 0) ∨ u.1 < (fstI r).1
        · rw [earI_1 h1]
          refine ⟨by simp, fun t ht => ?_⟩
          rcases List.mem_append.1 ht with ht | ht
          · have := hmin t ht
            unfold lam at *
            omega
          · simp at ht; subst ht; exact Int.le_refl _
        · by_cases h2 : u.1 = (fstI r).1 ∧ u.2 < (fstI r).2
          · rw [earI_2 h1 h2]
            refine ⟨by simp, fun t ht => ?_⟩
            rcases List.mem_append.1 ht with ht | ht
            · have := hmin t ht
              unfold lam at *
              omega
            · simp at ht; subst ht; exact Int.le_refl _
          · rw [earI_3 h1 h2]
            refine ⟨List.mem_append_left _ hm, fun t ht => ?_⟩
            rcases List.mem_append.1 ht with ht | ht
            · exact hmin t ht
            · simp at ht; subst ht
              unfold lam
              omega
  exact H _ l rfl
theorem next_own {ms : List Int} (hm : small ms) (hne : ms ≠ []) {k : Int} (hk : 0 ≤ k ∧ k < 4294967296) : IsOwn ms k (nextI k (spL ms)).2 := by
  have hall : ∀ s ∈ spL ms, 1 ≤ s.2 ∧ s.2 ≤ 99 := fun s hs => hm _ (mem_spL hs).1
  have hfil : ∀ s ∈ (spL ms).filter (fun s => decide (k ≤ s.1)), 1 ≤ s.2 ∧ s.2 ≤ 99 := fun s hs => hall s (List.mem_filter.1 hs).1
  have hb : behI k (spL ms) = fstI ((spL ms).filter fun s => decide (k ≤ s.1)) := rfl
  unfold nextI
  rcases ear_min _ hfil with ⟨he, h0⟩ | ⟨hin, hmin⟩
  · rw [hb, h0, if_pos ⟨rfl, rfl⟩]
    rcases ear_min _ hall with ⟨he2, _⟩ | ⟨hin, hmin⟩
    · obtain ⟨s, hs⟩ := spL_some hne
      rw [he2] at hs
      cases hs
    · refine ⟨_, hin, rfl, fun t ht => ?_⟩
      have hlow : ∀ t ∈ spL ms, t.1 < k := by
        intro t ht
        have := List.filter_eq_nil_iff.1 he t ht
        simpa using this
      have a1 := hlow _ hin
      have a2 := hlow _ ht
      have b1 := mem_spL hin
      have b2 := mem_spL ht
      have := hmin t ht
      unfold lam at this
      unfold kap wayI
      omega
  · rw [← hb] at hin hmin
    have hin' := List.mem_filter.1 hin
    have hk1 : k ≤ (behI k (spL ms)).1 := by simpa using hin'.2
    have hw := hall _ hin'.1
    rw [if_neg (by omega)]
    refine ⟨_, hin'.1, rfl, fun t ht => ?_⟩
    have b1 := mem_spL hin'.1
    have b2 := mem_spL ht
    have hwt := hall _ ht
    by_cases hkt : k ≤ t.1
    · have := hmin t (List.mem_filter.2 ⟨ht, by simpa using hkt⟩)
      unfold lam at this
      unfold kap wayI
      omega
    · unfold kap wayI
      omega
/-- The document's way: the nearest one so far and how far it is. -/
def refS (k : Int) (b : Sp) (s : Sp) : Sp := if b.1 = 0 ∨ wayI k s.1 < b.2 then (s.2, wayI k s.1) else b
theorem refS_yes {k : Int} {b s : Sp} (h : b.1 = 0 ∨ wayI k s.1 < b.2) : refS k b s = (s.2, wayI k s.1) := by unfold refS; rw [if_pos h]
theorem refS_no {k : Int} {b s : Sp} (h : ¬ (b.1 = 0 ∨ wayI k s.1 < b.2)) : refS k b s = b := by unfold refS; rw [if_neg h]
def refL (k : Int) (l : List Sp) : Sp := l.foldl (refS k) (0, 0)
theorem refL_snoc (k : Int) (l : List Sp) (s : Sp) : refL k (l ++ [s]) = refS k (refL k l) s := by unfold refL; rw [List.foldl_append]; rfl
def RefR (k : Int) (l : List Sp) : Prop := (l = [] ∧ refL k l = (0, 0)) ∨ ∃ s ∈ l, refL k l = (s.2, wayI k s.1) ∧ ∀ t ∈ l, kap k s ≤ kap k t
theorem ref_min (k : Int) : ∀ (n : Nat) (l : List Sp), l.length = n → (∀ s ∈ l, 1 ≤ s.2 ∧ s.2 ≤ 99) → l.Pairwise (fun a b => a.2 ≤ b.2) → RefR k l := by
  intro n
  induction n with
  | zero => intro l hl _ _; have := List.eq_nil_of_length_eq_zero hl; subst this; exact .inl ⟨rfl, rfl⟩
  | succ n ih =>
    intro l hl hs hp
    right
    have hne : l ≠ [] := by intro h; subst h; simp at hl
    rw [← List.dropLast_concat_getLast hne] at hs hp ⊢
    generalize hq : l.getLast hne = u at hs hp ⊢
    have hlen : l.dropLast.length = n := by rw [List.length_dropLast]; omega
    generalize l.dropLast = r at hs hp hlen ⊢
    have hr : ∀ s ∈ r, 1 ≤ s.2 ∧ s.2 ≤ 99 := fun s h => hs s (List.mem_append_left _ h)
    have hu : 1 ≤ u.2 ∧ u.2 ≤ 99 := hs u (by simp)
    have hp' := List.pairwise_append.1 hp
    rw [refL_snoc]
    rcases ih r hlen hr hp'.1 with ⟨rfl, h0⟩ | ⟨s, hm, he, hmin⟩
    · rw [h0, refS_yes (.inl rfl)]
      exact ⟨u, by simp, rfl, fun t ht => by simp at ht; subst ht; exact Int.le_refl _⟩
    · have hf := hr _ hm
      have hsu : s.2 ≤ u.2 := hp'.2.2 s hm u (by simp)
      by_cases h1 : (refL k r).1 = 0 ∨ wayI k u.1 < (refL k r).2
      · rw [refS_yes h1]
        refine ⟨u, by simp, rfl, fun t ht => ?_⟩
        rw [he] at h1
        simp only at h1
        rcases List.mem_append.1 ht with ht | ht
        · have := hmin t ht
          unfold kap at *
          omega
        · simp at ht; subst ht; exact Int.le_refl _
      · rw [refS_no h1]
        refine ⟨s, List.mem_append_left _ hm, he, fun t ht => ?_⟩
        rw [he] at h1
        simp only at h1
        rcases List.mem_append.1 ht with ht | ht
        · exact hmin t ht
        · simp at ht; subst ht
          unfold kap
          omega
theorem sp1_pairs (v : Int) (k : Nat) : (sp1 v k).Pairwise (fun a b => a.2 ≤ b.2) := by
  unfold sp1
  rw [List.pairwise_map]
  exact List.Pairwise.imp (fun _ => Int.le_refl _) (List.pairwise_lt_range (n := k))
theorem spL_pairs : ∀ {ms : List Int}, ms.Pairwise (· < ·) → (spL ms).Pairwise (fun a b => a.2 ≤ b.2) := by
  intro ms
  induction ms with
  | nil => intro _; exact List.Pairwise.nil
  | cons v l ih =>
    intro h
    have h3 := List.pairwise_cons.1 h
    rw [show spL (v :: l) = sp1 v 8 ++ spL l from rfl]
    refine List.pairwise_append.2 ⟨sp1_pairs v 8, ih h3.2, fun a ha b hb => ?_⟩
    unfold sp1 at ha
    obtain ⟨i, _, rfl⟩ := List.mem_map.1 ha
    exact Int.le_of_lt (h3.1 _ (mem_spL hb).1)
/-- The document's owner of a partition. -/
def rownI (ms : List Int) (p : Int) : Int := (refL (keyI p) (spL ms)).1
/-- The program's. -/
def ownI (ms : List Int) (p : Int) : Int := (nextI (keyI p) (spL ms)).2
theorem rgt_small {ms : List Int} (h : rgt ms = true) : small ms := fun v hv => rgt_mem h hv
theorem rgt_ne {ms : List Int} (h : rgt ms = true) : ms ≠ [] := by intro e; subst e; simp [rgt] at h
theorem ownI_is {ms : List Int} (h : rgt ms = true) (p : Int) : IsOwn ms (keyI p) (ownI ms p) := next_own (rgt_small h) (rgt_ne h) (keyI_bd p)
theorem rownI_is {ms : List Int} (h : rgt ms = true) (p : Int) : IsOwn ms (keyI p) (rownI ms p) := by
  rcases ref_min (keyI p) _ (spL ms) rfl (fun s hs => rgt_mem h (mem_spL hs).1) (spL_pairs (rise_pairs (rgt_rise h))) with ⟨he, _⟩ | ⟨s, hs, he, hmin⟩
  · obtain ⟨s, hs⟩ := spL_some (rgt_ne h)
    rw [he] at hs
    cases hs
  · exact ⟨s, hs, by unfold rownI; rw [he], hmin⟩
theorem own_same {ms : List Int} (h : rgt ms = true) (p : Int) : ownI ms p = rownI ms p := IsOwn.uniq (rgt_small h) (ownI_is h p) (rownI_is h p)
theorem own_mem {ms : List Int} (h : rgt ms = true) (p : Int) : ownI ms p ∈ ms := (ownI_is h p).mem
/-- The owners of the partitions from 0 on. -/
def ownL (ms : List Int) (n : Nat) : List Int := (List.range n).map fun (p : Nat) => ownI ms p
def rownL (ms : List Int) (n : Nat) : List Int := (List.range n).map fun (p : Nat) => rownI ms p
theorem ownL_len (ms : List Int) (n : Nat) : (ownL ms n).length = n := by unfold ownL; simp
theorem rownL_len (ms : List Int) (n : Nat) : (rownL ms n).length = n := by unfold rownL; simp
theorem rownL_succ (ms : List Int) (n : Nat) : rownL ms (n + 1) = rownL ms n ++ [rownI ms n] := by unfold rownL; rw [List.range_succ, List.map_append]; rfl
theorem ownL_same {ms : List Int} (h : rgt ms = true) (n : Nat) : ownL ms n = rownL ms n := by
  unfold ownL rownL
  exact List.map_congr_left fun p _ => own_same h p
theorem ownL_at {ms : List Int} {n i : Nat} (h : i < n) : (ownL ms n)[i]? = some (ownI ms i) := by unfold ownL; simp [h]
/-- The members that there are among some numbers, of 1 to k, rising, at most n. -/
def made (l : List Int) (n : Nat) : Nat → List Int
  | 0 => []
  | k + 1 => if (made l n k).length < n ∧ ((k : Int) + 1) ∈ l then made l n k ++ [(k : Int) + 1] else made l n k
theorem made_yes {l : List Int} {n k : Nat} (h1 : (made l n k).length < n) (h2 : ((k : Int) + 1) ∈ l) : made l n (k + 1) = made l n k ++ [(k : Int) + 1] := by rw [made, if_pos ⟨h1, h2⟩]
theorem made_no {l : List Int} {n k : Nat} (h2 : ¬ ((k : Int) + 1) ∈ l) : made l n (k + 1) = made l n k := by rw [made, if_neg (fun h => h2 h.2)]
theorem made_full {l : List Int} {n k : Nat} (h2 : ¬ (made l n k).length < n) : made l n (k + 1) = made l n k := by rw [made, if_neg (fun h => h2 h.1)]
theorem made_full_all {l : List Int} {n k : Nat} (h : ¬ (made l n k).length < n) (m : Nat) : made l n (k + m) = made l n k := by
  induction m with
  | zero => rfl
  | succ m ih => rw [show k + (m + 1) = (k + m) + 1 from rfl, made_full (by rw [ih]; exact h), ih]
theorem made_len (l : List Int) (n k : Nat) : (made l n k).length ≤ n := by
  induction k with
  | zero => simp [made]
  | succ k ih =>
    by_cases h : (made l n k).length < n ∧ ((k : Int) + 1) ∈ l
    · rw [made, if_pos h]; simp; omega
    · rw [made, if_neg h]; exact ih
theorem made_mem {l : List Int} {n : Nat} : ∀ {k : Nat} {v : Int}, v ∈ made l n k → v ∈ l ∧ 1 ≤ v ∧ v ≤ k := by
  intro k
  induction k with
  | zero => intro v h; cases h
  | succ k ih =>
    intro v hv
    by_cases h : (made l n k).length < n ∧ ((k : Int) + 1) ∈ l
    · rw [made, if_pos h] at hv
      rcases List.mem_append.1 hv with hv | hv
      · have := ih hv; exact ⟨this.1, by omega, by omega⟩
      · simp at hv; subst hv; exact ⟨h.2, by omega, by omega⟩
    · rw [made, if_neg h] at hv
      have := ih hv; exact ⟨this.1, by omega, by omega⟩
theorem made_pairs (l : List Int) (n : Nat) : ∀ k : Nat, (made l n k).Pairwise (· < ·) := by
  intro k
  induction k with
  | zero => exact List.Pairwise.nil
  | succ k ih =>
    by_cases h : (made l n k).length < n ∧ ((k : Int) + 1) ∈ l
    · rw [made, if_pos h]
      refine List.pairwise_append.2 ⟨ih, by simp, fun a ha b hb => ?_⟩
      simp at hb; subst hb
      have := (made_mem ha).2.2
      omega
    · rw [made, if_neg h]; exact ih
theorem made_rgt {l : List Int} {n : Nat} (hn : n ≤ 5) (h : made l n 99 ≠ []) : rgt (made l n 99) = true := by
  unfold rgt
  rw [Bool.and_eq_true, decide_eq_true_eq]
  refine ⟨⟨by cases hm : made l n 99 with | nil => exact absurd hm h | cons a r => simp, Nat.le_trans (made_len l n 99) hn⟩, pairs_rise (made_pairs l n 99) fun v hv => ?_⟩
  have := made_mem hv
  omega
/-- Of a list with no more than n different numbers in a rising list each is found. -/
theorem made_all {l r : List Int} {n : Nat} (hr : r.Pairwise (· < ·)) (hn : r.length ≤ n) (h1 : ∀ v ∈ l, v ∈ r) (h2 : ∀ v ∈ r, v ∈ l) : ∀ k : Nat, made l n k = r.filter fun (v : Int) => decide (1 ≤ v ∧ v ≤ (k : Int)) := by
  intro k
  induction k with
  | zero =>
    refine (List.filter_eq_nil_iff.2 ?_).symm
    intro v _
    simp
    omega
  | succ k ih =>
    have hcut : ∀ (q : List Int), q.Pairwise (· < ·) → q.filter (fun v => decide (1 ≤ v ∧ v ≤ ((k + 1 : Nat) : Int))) = q.filter (fun v => decide (1 ≤ v ∧ v ≤ (k : Int))) ++ (if ((k : Int) + 1) ∈ q then [(k : Int) + 1] else []) := by
      intro q
      induction q with
      | nil => intro _; simp
      | cons a q ihq =>
        intro hq
        have hq3 := List.pairwise_cons.1 hq
        have hrec := ihq hq3.2
        by_cases ha : 1 ≤ a ∧ a ≤ (k : Int)
        · have hne : ¬ ((k : Int) + 1 = a) := by omega
          rw [List.filter_cons_of_pos (by simp; omega), List.filter_cons_of_pos (by simpa using ha), hrec, List.cons_append]
          congr 2
          simp [hne]
        · by_cases he : a = (k : Int) + 1
          · subst he
            have hno : ∀ x ∈ q, ¬ (1 ≤ x ∧ x ≤ ((k + 1 : Nat) : Int)) := by intro x hx h; have := hq3.1 x hx; omega
            have hno2 : ∀ x ∈ q, ¬ (1 ≤ x ∧ x ≤ (k : Int)) := by intro x hx h; have := hq3.1 x hx; omega
            rw [List.filter_cons_of_pos (by simp; omega), List.filter_cons_of_neg (by simp; omega), if_pos List.mem_cons_self,
              List.filter_eq_nil_iff.2 (by intro x hx; simpa using hno x hx), List.filter_eq_nil_iff.2 (by intro x hx; simpa using hno2 x hx)]
            rfl
          · rw [List.filter_cons_of_neg (by simp; omega), List.filter_cons_of_neg (by simp; omega), hrec]
            congr 1
            have hne : ¬ ((k : Int) + 1 = a) := by omega
            simp [hne]
    rw [hcut r hr]
    by_cases hin : ((k : Int) + 1) ∈ r
    · have hlt : (made l n k).length < n := by
        rw [ih]
        have h3 : (r.filter fun v => decide (1 ≤ v ∧ v ≤ (k : Int))).length < r.length := by
          rw [List.length_filter_lt_length_iff_exists]
          exact ⟨_, hin, by simp; omega⟩
        omega
      rw [made_yes hlt (h2 _ hin), ih, if_pos hin]
    · rw [made_no (fun h => hin (h1 _ h)), ih, if_neg hin, List.append_nil]
end Go.Proofs.Ytgdgjkdigbohlaa
