/-
  Plain mathematics of a stable sort by merges in place: exchanging two ranges, turning a range round a place, and the merge of two sorted ranges by halves (symmetric merge). No program in this text. No condition.
-/
import Derived.Sort.LotA
namespace Go.Proofs.Ytkmflofokgkekaa
open Go.Sort
set_option linter.unusedVariables false
variable {α : Type} [Inhabited α]

/-- n places from a, and n from b, exchanged. -/
def swR (d : Array α) (a b n t : Nat) : α := if a ≤ t ∧ t < a + n then d[b + (t - a)]! else if b ≤ t ∧ t < b + n then d[a + (t - b)]! else d[t]!

/-- What stands from a to m, and from m to b, in the other order. -/
def rotA (d : Array α) (a m b t : Nat) : α := if a ≤ t ∧ t < a + (b - m) then d[m + (t - a)]! else if a + (b - m) ≤ t ∧ t < b then d[a + (t - (a + (b - m)))]! else d[t]!

theorem swR_zero (d : Array α) (a b t : Nat) : d[t]! = swR d a b 0 t := by
  unfold swR; rw [if_neg (by omega), if_neg (by omega)]

theorem swR_step (d dk : Array α) (a b n i : Nat) (hab : a + n ≤ b) (hi : i < n) (hb : b + n ≤ d.size) (hd : dk.size = d.size) (hk : ∀ t, dk[t]! = swR d a b i t) (t : Nat) : (swp dk (a + i) (b + i))[t]! = swR d a b (i + 1) t := by
  by_cases h1 : t = a + i
  · subst h1
    rw [swp_left _ _ _ (by omega) (by omega), hk]
    unfold swR
    rw [if_neg (by omega), if_neg (by omega), if_pos (by omega)]
    congr 1; omega
  · by_cases h2 : t = b + i
    · subst h2
      rw [swp_right _ _ _ (by omega), hk]
      unfold swR
      rw [if_neg (by omega), if_neg (by omega), if_neg (by omega), if_pos (by omega)]
      congr 1; omega
    · rw [swp_other _ _ _ _ h1 h2, hk]
      unfold swR
      repeat' split
      all_goals first | rfl | (exfalso; omega)

/-- One round of the turning, the first range being the longer one. -/
theorem rotA_left (d d' : Array α) (m i j : Nat) (hm : i ≤ m) (hij : j < i) (h : ∀ t, d'[t]! = swR d (m - i) m j t) (t : Nat) : rotA d' (m - (i - j)) m (m + j) t = rotA d (m - i) m (m + j) t := by
  unfold rotA
  simp only [h]
  unfold swR
  repeat' split
  all_goals first | rfl | (exfalso; omega) | (congr 1; omega)

theorem rotA_right (d d' : Array α) (m i j : Nat) (hm : i ≤ m) (hij : i < j) (h : ∀ t, d'[t]! = swR d (m - i) (m + j - i) i t) (t : Nat) : rotA d' (m - i) m (m + (j - i)) t = rotA d (m - i) m (m + j) t := by
  unfold rotA
  simp only [h]
  unfold swR
  repeat' split
  all_goals first | rfl | (exfalso; omega) | (congr 1; omega)

theorem rotA_same (d : Array α) (m i : Nat) (hm : i ≤ m) (t : Nat) : swR d (m - i) m i t = rotA d (m - i) m (m + i) t := by
  unfold rotA swR
  repeat' split
  all_goals first | rfl | (exfalso; omega) | (congr 1; omega)

/-- A turning by single exchanges: the first one goes up. -/
theorem rotA_up (d dk : Array α) (a k b : Nat) (hak : a ≤ k) (hk1 : k + 1 < b) (hb : b ≤ d.size) (hs : dk.size = d.size) (h : ∀ t, dk[t]! = rotA d a (a + 1) (k + 1) t) (t : Nat) : (swp dk k (k + 1))[t]! = rotA d a (a + 1) (k + 1 + 1) t := by
  by_cases h1 : t = k
  · subst h1
    rw [swp_left _ _ _ (by omega) (by omega), h]
    unfold rotA
    rw [if_neg (by omega), if_neg (by omega), if_pos (by omega)]
    congr 1; omega
  · by_cases h2 : t = k + 1
    · subst h2
      rw [swp_right _ _ _ (by omega), h]
      unfold rotA
      rw [if_neg (by omega), if_pos (by omega), if_neg (by omega), if_pos (by omega)]
      congr 1; omega
    · rw [swp_other _ _ _ _ h1 h2, h]
      unfold rotA
      by_cases c1 : a ≤ t ∧ t < a + (k + 1 - (a + 1))
      · rw [if_pos c1, if_pos (by omega)]
      · rw [if_neg c1, if_neg (by omega), if_neg (by omega), if_neg (by omega)]

/-- .. the last one goes down. -/
theorem rotA_down (d dk : Array α) (k m : Nat) (hk : k < m) (hm : m < d.size) (hs : dk.size = d.size) (h : ∀ t, dk[t]! = rotA d (k + 1) m (m + 1) t) (t : Nat) : (swp dk (k + 1) k)[t]! = rotA d k m (m + 1) t := by
  by_cases h1 : t = k + 1
  · subst h1
    rw [swp_left _ _ _ (by omega) (by omega), h]
    unfold rotA
    rw [if_neg (by omega), if_neg (by omega), if_neg (by omega), if_pos (by omega)]
    congr 1; omega
  · by_cases h2 : t = k
    · subst h2
      rw [swp_right _ _ _ (by omega), h]
      unfold rotA
      rw [if_pos (by omega), if_pos (by omega)]
      congr 1; omega
    · rw [swp_other _ _ _ _ h1 h2, h]
      unfold rotA
      rw [if_neg (by omega), if_neg (show ¬ (k ≤ t ∧ t < k + (m + 1 - m)) by omega)]
      by_cases c1 : k + 1 + (m + 1 - m) ≤ t ∧ t < m + 1
      · rw [if_pos c1, if_pos (by omega)]
        congr 1; omega
      · rw [if_neg c1, if_neg (by omega)]

theorem rotA_none_up (d : Array α) (a t : Nat) : d[t]! = rotA d a (a + 1) (a + 1) t := by
  unfold rotA
  rw [if_neg (by omega)]
  split
  · congr 1; omega
  · rfl
theorem rotA_none_down (d : Array α) (m t : Nat) : d[t]! = rotA d m m (m + 1) t := by
  unfold rotA
  split
  · congr 1; omega
  · rw [if_neg (by omega)]

variable {lt : α → α → Bool}

omit [Inhabited α] in
theorem asym (W : SWO lt) {x y : α} (h : lt x y = true) : lt y x = false := by
  cases e : lt y x with
  | false => rfl
  | true => have := W.trans x y x h e; rw [W.irrefl] at this; cases this

theorem SortedIn.le (W : SWO lt) {a b : Nat} {d : Array α} (h : SortedIn lt a b d) {i j : Nat} (h1 : a ≤ i) (h2 : i ≤ j) (h3 : j < b) : lt d[j]! d[i]! = false := by
  rcases Nat.lt_or_eq_of_le h2 with h4 | rfl
  · exact h i j h1 h4 h3
  · exact W.irrefl _

omit [Inhabited α] in
theorem ltle (W : SWO lt) {x y z : α} (h : lt y x = false) (h2 : lt y z = true) : lt x z = true := by
  cases e : lt x z with
  | true => rfl
  | false => rw [W.ntrans y x z h e] at h2; cases h2

/-! ### the three searches -/
/-- One against a range: those below i are less, those from j are not. -/
def Se1 (lt : α → α → Bool) (d : Array α) (a m b i j : Nat) : Prop := (∀ c, m ≤ c → c < i → lt d[c]! d[a]! = true) ∧ ∀ c, j ≤ c → c < b → lt d[c]! d[a]! = false
theorem Se1.up (W : SWO lt) {d : Array α} {a m b i j h : Nat} (s : Se1 lt d a m b i j) (hs : SortedIn lt m b d) (hh : h < b) (hl : lt d[h]! d[a]! = true) : Se1 lt d a m b (h + 1) j :=
  ⟨fun c h1 h2 => ltle W (SortedIn.le W hs h1 (show c ≤ h by omega) hh) hl, s.2⟩
theorem Se1.down (W : SWO lt) {d : Array α} {a m b i j h : Nat} (s : Se1 lt d a m b i j) (hs : SortedIn lt m b d) (hm : m ≤ h) (hl : lt d[h]! d[a]! = false) : Se1 lt d a m b i h :=
  ⟨s.1, fun c h1 h2 => W.ntrans _ _ _ (SortedIn.le W hs hm h1 h2) hl⟩
theorem Se1.sorted (W : SWO lt) {d d' : Array α} {a b i : Nat} (s : Se1 lt d a (a + 1) b i i) (hs : SortedIn lt (a + 1) b d) (h1 : a + 1 ≤ i) (h2 : i ≤ b) (h : ∀ t, d'[t]! = rotA d a (a + 1) i t) : SortedIn lt a b d' := by
  intro x y hx hxy hy
  rw [h, h]
  unfold rotA
  by_cases c1 : x < a + (i - (a + 1))
  · rw [if_pos (show a ≤ x ∧ x < a + (i - (a + 1)) by omega)]
    by_cases c2 : y < a + (i - (a + 1))
    · rw [if_pos (by omega)]; exact hs _ _ (by omega) (by omega) (by omega)
    · rw [if_neg (by omega)]
      by_cases c3 : y < i
      · rw [if_pos (by omega)]
        have : a + (y - (a + (i - (a + 1)))) = a := by omega
        rw [this]
        exact asym W (s.1 _ (by omega) (by omega))
      · rw [if_neg (by omega)]; exact hs _ _ (by omega) (by omega) (by omega)
  · rw [if_neg (show ¬ (a ≤ x ∧ x < a + (i - (a + 1))) by omega)]
    rw [if_neg (show ¬ (a ≤ y ∧ y < a + (i - (a + 1))) by omega)]
    by_cases c3 : x < i
    · rw [if_pos (show a + (i - (a + 1)) ≤ x ∧ x < i by omega), if_neg (by omega)]
      have : a + (x - (a + (i - (a + 1)))) = a := by omega
      rw [this]
      exact s.2 _ (by omega) (by omega)
    · rw [if_neg (by omega), if_neg (by omega)]; exact hs _ _ (by omega) (by omega) (by omega)

/-- A range against one: those below i aren't beyond it, those from j are. -/
def Se2 (lt : α → α → Bool) (d : Array α) (a m i j : Nat) : Prop := (∀ c, a ≤ c → c < i → lt d[m]! d[c]! = false) ∧ ∀ c, j ≤ c → c < m → lt d[m]! d[c]! = true
theorem Se2.up (W : SWO lt) {d : Array α} {a m i j h : Nat} (s : Se2 lt d a m i j) (hs : SortedIn lt a m d) (hh : h < m) (hl : lt d[m]! d[h]! = false) : Se2 lt d a m (h + 1) j :=
  ⟨fun c h1 h2 => W.ntrans _ _ _ hl (SortedIn.le W hs h1 (show c ≤ h by omega) hh), s.2⟩
theorem Se2.down (W : SWO lt) {d : Array α} {a m i j h : Nat} (s : Se2 lt d a m i j) (hs : SortedIn lt a m d) (hm : a ≤ h) (hl : lt d[m]! d[h]! = true) : Se2 lt d a m i h :=
  ⟨s.1, fun c h1 h2 => by
    cases e : lt d[m]! d[c]! with
    | true => rfl
    | false => rw [W.ntrans _ _ _ e (SortedIn.le W hs hm h1 h2)] at hl; cases hl⟩
theorem Se2.sorted (W : SWO lt) {d d' : Array α} {a m i : Nat} (s : Se2 lt d a m i i) (hs : SortedIn lt a m d) (h1 : a ≤ i) (h2 : i ≤ m) (h : ∀ t, d'[t]! = rotA d i m (m + 1) t) : SortedIn lt a (m + 1) d' := by
  intro x y hx hxy hy
  rw [h, h]
  unfold rotA
  by_cases c1 : x < i
  · rw [if_neg (show ¬ (i ≤ x ∧ x < i + (m + 1 - m)) by omega), if_neg (show ¬ (i + (m + 1 - m) ≤ x ∧ x < m + 1) by omega)]
    by_cases c2 : y < i
    · rw [if_neg (by omega), if_neg (by omega)]; exact hs _ _ (by omega) (by omega) (by omega)
    · by_cases c3 : y = i
      · rw [if_pos (by omega)]
        have : m + (y - i) = m := by omega
        rw [this]
        exact s.1 _ (by omega) (by omega)
      · rw [if_neg (by omega), if_pos (by omega)]; exact hs _ _ (by omega) (by omega) (by omega)
  · by_cases c3 : x = i
    · rw [if_pos (show i ≤ x ∧ x < i + (m + 1 - m) by omega), if_neg (by omega), if_pos (by omega)]
      have : m + (x - i) = m := by omega
      rw [this]
      exact asym W (s.2 _ (by omega) (by omega))
    · rw [if_neg (show ¬ (i ≤ x ∧ x < i + (m + 1 - m)) by omega), if_pos (show i + (m + 1 - m) ≤ x ∧ x < m + 1 by omega), if_neg (by omega), if_pos (by omega)]
      exact hs _ _ (by omega) (by omega) (by omega)

/-- The search of both halves: of [s0, r0), those below s aren't beyond their fellows (at p less them), those from r are. -/
def Se3 (lt : α → α → Bool) (d : Array α) (p s0 r0 s r : Nat) : Prop := (∀ c, s0 ≤ c → c < s → lt d[p - c]! d[c]! = false) ∧ ∀ c, r ≤ c → c < r0 → lt d[p - c]! d[c]! = true
theorem Se3.up (W : SWO lt) {d : Array α} {a m b p s0 r0 s r c : Nat} (h : Se3 lt d p s0 r0 s r) (hA : SortedIn lt a m d) (hB : SortedIn lt m b d) (ha : a ≤ s0) (hc1 : c < m) (hp : m ≤ p - c) (hp2 : p - s0 < b) (hl : lt d[p - c]! d[c]! = false) : Se3 lt d p s0 r0 (c + 1) r :=
  ⟨fun x h1 h2 => W.ntrans _ _ _ (W.ntrans _ _ _ (SortedIn.le W hB hp (show p - c ≤ p - x by omega) (by omega)) hl) (SortedIn.le W hA (by omega) (show x ≤ c by omega) hc1), h.2⟩
theorem Se3.down (W : SWO lt) {d : Array α} {a m b p s0 r0 s r c : Nat} (h : Se3 lt d p s0 r0 s r) (hA : SortedIn lt a m d) (hB : SortedIn lt m b d) (ha : a ≤ c) (hr : r0 ≤ m) (hp : m + r0 ≤ p + 1) (hp2 : p - c < b) (hl : lt d[p - c]! d[c]! = true) : Se3 lt d p s0 r0 s c :=
  ⟨h.1, fun x h1 h2 => by
    have e1 := SortedIn.le W hA ha h1 (show x < m by omega)
    have e2 := SortedIn.le W hB (show m ≤ p - x by omega) (show p - x ≤ p - c by omega) hp2
    cases e : lt d[p - x]! d[x]! with
    | true => rfl
    | false => rw [W.ntrans _ _ _ (W.ntrans _ _ _ e2 e) e1] at hl; cases hl⟩

/-- Behind the search and the turning: four sorted ranges, and nothing of the upper half is less than anything of the lower one. -/
structure Halves (lt : α → α → Bool) (d : Array α) (a s mid e b : Nat) : Prop where
  s1 : SortedIn lt a s d
  s2 : SortedIn lt s mid d
  s3 : SortedIn lt mid e d
  s4 : SortedIn lt e b d
  cr : ∀ i j, a ≤ i → i < mid → mid ≤ j → j < b → lt d[j]! d[i]! = false

theorem halves (W : SWO lt) {d d' : Array α} {a m b mid s e : Nat} (hA : SortedIn lt a m d) (hB : SortedIn lt m b d) (h1 : a ≤ s) (h2 : s ≤ m) (h3 : m ≤ e) (h4 : e ≤ b) (hm : s + e = mid + m)
    (c1 : s = a ∨ e = b ∨ lt d[e]! d[s - 1]! = false) (c2 : s = m ∨ e = m ∨ lt d[e - 1]! d[s]! = true) (h : ∀ t, d'[t]! = rotA d s m e t) : Halves lt d' a s mid e b := by
  have v1 : ∀ t, t < s → d'[t]! = d[t]! := fun t ht => by rw [h]; unfold rotA; rw [if_neg (by omega), if_neg (by omega)]
  have v2 : ∀ t, s ≤ t → t < mid → d'[t]! = d[m + (t - s)]! := fun t ht ht2 => by rw [h]; unfold rotA; rw [if_pos (by omega)]
  have v3 : ∀ t, mid ≤ t → t < e → d'[t]! = d[s + (t - mid)]! := fun t ht ht2 => by
    rw [h]; unfold rotA; rw [if_neg (by omega), if_pos (by omega)]
    congr 1; omega
  have v4 : ∀ t, e ≤ t → d'[t]! = d[t]! := fun t ht => by rw [h]; unfold rotA; rw [if_neg (by omega), if_neg (by omega)]
  refine ⟨?_, ?_, ?_, ?_, ?_⟩
  · intro i j hi hij hj; rw [v1 i (by omega), v1 j hj]; exact hA _ _ hi hij (by omega)
  · intro i j hi hij hj; rw [v2 i hi (by omega), v2 j (by omega) hj]; exact hB _ _ (by omega) (by omega) (by omega)
  · intro i j hi hij hj; rw [v3 i hi (by omega), v3 j (by omega) hj]; exact hA _ _ (by omega) (by omega) (by omega)
  · intro i j hi hij hj; rw [v4 i (by omega), v4 j (by omega)]; exact hB _ _ (by omega) (by omega) (by omega)
  · intro i j hi him hj hjb
    by_cases k1 : i < s
    · rw [v1 i k1]
      by_cases k2 : j < e
      · rw [v3 j hj k2]; exact hA _ _ hi (by omega) (by omega)
      · rw [v4 j (by omega)]
        rcases c1 with c | c | c
        · omega
        · omega
        · exact W.ntrans _ _ _ (W.ntrans _ _ _ (SortedIn.le W hB (by omega) (show e ≤ j by omega) hjb) c) (SortedIn.le W hA hi (show i ≤ s - 1 by omega) (by omega))
    · rw [v2 i (by omega) him]
      by_cases k2 : j < e
      · rw [v3 j hj k2]
        rcases c2 with c | c | c
        · omega
        · omega
        · exact W.ntrans _ _ _ (W.ntrans _ _ _ (SortedIn.le W hA (by omega) (show s ≤ s + (j - mid) by omega) (by omega)) (asym W c)) (SortedIn.le W hB (by omega) (show m + (i - s) ≤ e - 1 by omega) (by omega))
      · rw [v4 j (by omega)]; exact hB _ _ (by omega) (by omega) hjb

theorem sorted_one {a b s : Nat} {d : Array α} (h1 : SortedIn lt a s d) (h2 : SortedIn lt s b d) (h : s ≤ a ∨ b ≤ s) : SortedIn lt a b d := by
  intro i j hi hij hj
  rcases h with h | h
  · exact h2 i j (by omega) hij hj
  · exact h1 i j hi hij (by omega)

theorem sorted_same {a b : Nat} {d d' : Array α} (h : SortedIn lt a b d) (e : ∀ i, a ≤ i → i < b → d'[i]! = d[i]!) : SortedIn lt a b d' := by
  intro i j hi hij hj
  rw [e i hi (by omega), e j (by omega) hj]
  exact h i j hi hij hj

theorem join (W : SWO lt) {d d1 d2 : Array α} {a s mid e b : Nat} (h : Halves lt d a s mid e b) (ham : a ≤ mid) (hmb : mid ≤ b) (hb : b ≤ d.size) (p1 : PermIn a mid d d1) (s1 : SortedIn lt a mid d1) (p2 : PermIn mid b d1 d2) (s2 : SortedIn lt mid b d2) :
    PermIn a b d d2 ∧ SortedIn lt a b d2 := by
  have hb1 : b ≤ d1.size := by rw [p1.1]; exact hb
  refine ⟨permIn_trans _ _ _ _ _ (permIn_mono _ _ _ _ _ _ (Nat.le_refl a) hmb hb p1) (permIn_mono _ _ _ _ _ _ ham (Nat.le_refl b) hb1 p2), ?_⟩
  intro i j hi hij hj
  by_cases c1 : j < mid
  · rw [p2.2.1 i (by omega), p2.2.1 j (by omega)]; exact s1 i j hi hij c1
  · by_cases c2 : mid ≤ i
    · exact s2 i j c2 hij hj
    · have k1 : ∀ x, a ≤ x → x < mid → ∀ y, mid ≤ y → y < b → lt d1[y]! d1[x]! = false := by
        intro x hx hxm y hy hyb
        rw [p1.2.1 y (by omega)]
        exact permIn_all d d1 a mid (fun v => lt d[y]! v = false) (by omega) p1 (fun z hz hzm => h.cr z y hz hzm hy hyb) x hx hxm
      rw [p2.2.1 i (by omega)]
      exact permIn_all d1 d2 mid b (fun v => lt v d1[i]! = false) hb1 p2 (fun z hz hzm => k1 i hi (by omega) z hz hzm) j (by omega) hj

/-! ### blocks -/
/-- Each block of s places is sorted (the last one as far as there is something). -/
def Blk (lt : α → α → Bool) (s n : Nat) (d : Array α) : Prop := ∀ k, SortedIn lt (k * s) (min (k * s + s) n) d

/-- Those below q by 2 * s, those from there by s. -/
def BlkAt (lt : α → α → Bool) (s n q : Nat) (d : Array α) : Prop := (∀ k, k < q → SortedIn lt (k * (2 * s)) (min (k * (2 * s) + 2 * s) n) d) ∧ ∀ k, 2 * q ≤ k → SortedIn lt (k * s) (min (k * s + s) n) d

theorem Blk.at (s n : Nat) (d : Array α) (h : Blk lt s n d) : BlkAt lt s n 0 d := ⟨fun k hk => by omega, fun k _ => h k⟩

/-- The first phase: those below q are sorted. -/
def BlkTo (lt : α → α → Bool) (s n q : Nat) (d : Array α) : Prop := ∀ k, k < q → SortedIn lt (k * s) (min (k * s + s) n) d
theorem BlkTo.step {s n q : Nat} {d d' : Array α} (hn : n ≤ d.size) (h : BlkTo lt s n q d) (hp : PermIn (q * s) (q * s + s) d d') (hs : SortedIn lt (q * s) (q * s + s) d') : BlkTo lt s n (q + 1) d' := by
  intro k hk
  by_cases e : k = q
  · subst e
    intro i j hi hij hj
    exact hs i j hi hij (by omega)
  · have hlt : k + 1 ≤ q := by omega
    have := Nat.mul_le_mul_right s hlt
    rw [Nat.add_mul, Nat.one_mul] at this
    exact sorted_same (h k (by omega)) (fun i _ hi => hp.2.1 i (by omega))
theorem BlkTo.last {s n q : Nat} {d d' : Array α} (h : BlkTo lt s n q d) (hq : n < q * s + s) (hp : PermIn (q * s) n d d') (hs : SortedIn lt (q * s) n d') : Blk lt s n d' := by
  intro k
  by_cases e : k = q
  · subst e
    intro i j hi hij hj
    exact hs i j hi hij (by omega)
  · by_cases hlt : k < q
    · have := Nat.mul_le_mul_right s (show k + 1 ≤ q from hlt)
      rw [Nat.add_mul, Nat.one_mul] at this
      exact sorted_same (h k hlt) (fun i _ hi => hp.2.1 i (by omega))
    · have := Nat.mul_le_mul_right s (show q + 1 ≤ k by omega)
      rw [Nat.add_mul, Nat.one_mul] at this
      intro i j hi hij hj
      omega

theorem two_mul_q (q s : Nat) : q * (2 * s) = 2 * q * s := by rw [← Nat.mul_assoc, Nat.mul_comm q 2]
theorem BlkAt.ends {s n q : Nat} {d : Array α} (h : BlkAt lt s n q d) : SortedIn lt (q * (2 * s)) (min (q * (2 * s) + s) n) d ∧ SortedIn lt (q * (2 * s) + s) (min (q * (2 * s) + 2 * s) n) d := by
  have h1 := h.2 (2 * q) (Nat.le_refl _)
  have h2 := h.2 (2 * q + 1) (by omega)
  rw [Nat.add_mul, Nat.one_mul] at h2
  rw [two_mul_q]
  refine ⟨h1, ?_⟩
  have e : 2 * q * s + s + s = 2 * q * s + 2 * s := by omega
  rw [e] at h2
  exact h2
theorem BlkAt.step {s n q : Nat} {d d' : Array α} (h : BlkAt lt s n q d) (e : Nat) (he : e = min (q * (2 * s) + 2 * s) n) (hp : PermIn (q * (2 * s)) e d d') (hs : SortedIn lt (q * (2 * s)) e d') : BlkAt lt s n (q + 1) d' := by
  refine ⟨fun k hk => ?_, fun k hk => ?_⟩
  · by_cases c : k = q
    · subst c; rw [← he]; exact hs
    · have := Nat.mul_le_mul_right (2 * s) (show k + 1 ≤ q by omega)
      rw [Nat.add_mul, Nat.one_mul] at this
      exact sorted_same (h.1 k (by omega)) (fun i _ hi => hp.2.1 i (by omega))
  · have h1 := Nat.mul_le_mul_right s (show 2 * q + 2 ≤ k by omega)
    rw [Nat.add_mul, ← two_mul_q] at h1
    exact sorted_same (h.2 k (by omega)) (fun i hi _ => hp.2.1 i (by omega))
theorem BlkAt.done {s n q : Nat} {d : Array α} (h : BlkAt lt s n q d) (hq : n ≤ q * (2 * s) + s) : Blk lt (2 * s) n d := by
  intro k
  by_cases c : k < q
  · exact h.1 k c
  · by_cases c2 : k = q
    · subst c2
      have := h.ends.1
      intro i j hi hij hj
      exact this i j hi hij (by omega)
    · have := Nat.mul_le_mul_right (2 * s) (show q + 1 ≤ k by omega)
      rw [Nat.add_mul, Nat.one_mul] at this
      intro i j hi hij hj
      omega
theorem Blk.whole {s n : Nat} {d : Array α} (h : Blk lt s n d) (hs : n ≤ s) : SortedIn lt 0 n d := by
  have := h 0
  rw [Nat.zero_mul, Nat.zero_add] at this
  intro i j hi hij hj
  exact this i j hi hij (by omega)

end Go.Proofs.Ytkmflofokgkekaa
