import Derived.Sort.LotA
import Derived.Test.YtpgdddjjjfkneaaGreatDoorKa
import Derived.Test.YtpgdddjjjfkneaaGreatDoorKb
import Derived.Test.YtpgdddjjjfkneaaGreatDoorChecked
import Derived.Shelf.SlSortFuncK.RowK2
import Derived.Shelf.SlSortCmp.QuietGrown
import Derived.Deep.LoopGhost
import Derived.Lib.SmallJoins
import Derived.BigRegion
import Derived.BigQuiet
/-
  Plain mathematics of a stable sort by merges in place: exchanging two ranges, turning a range round a place, and the merge of two sorted ranges by halves (symmetric merge). No program in this text. No condition.
-/
namespace Go.Proofs.YtpgdddjjjfkneaaGreatDoor
open Go.Sort
set_option linter.unusedVariables false
variable {α : Type} [Inhabited α]

/-- n places from a, and n from b, exchanged. -/
def swR (d : Array α) (a b n t : Nat) : α := if a ≤ t ∧ t < a + n then d[b + (t - a)]! else if b ≤ t ∧ t < b + n then d[a + (t - b)]! else d[t]!
/-- What stands from a to m, and from m to b, in the other order. -/
def rotA (d : Array α) (a m b t : Nat) : α := if a ≤ t ∧ t < a + (b - m) then d[m + (t - a)]! else if a + (b - m) ≤ t ∧ t < b then d[a + (t - (a + (b - m)))]! else d[t]!
theorem swR_zero (d : Array α) (a b t : Nat) : d[t]! = swR d a b 0 t := by
  unfold swR; rw [if_neg (by omega), if_neg (by omega)]
theorem swR_step (d dk : Array α) (a b n i : Nat) (hab : a + n ≤ b) (hi : i < n) (hb : b + n ≤ d.size) (hd : dk.size = d.size) (hk : ∀ t, dk[t]! = swR d a b i t) (t : Nat) : (swp dk (a + i) (b + i))[t]! = swR d a b (i + 1) t := by
  by_cases h1 : t = a + i
  · subst h1
    rw [swp_left _ _ _ (by omega) (by omega), hk]
    unfold swR
    rw [if_neg (by omega), if_neg (by omega), if_pos (by omega)]
    congr 1; omega
  · by_cases h2 : t = b + i
    · subst h2
      rw [swp_right _ _ _ (by omega), hk]
      unfold swR
      rw [if_neg (by omega), if_neg (by omega), if_neg (by omega), if_pos (by omega)]
      congr 1; omega
    · rw [swp_other _ _ _ _ h1 h2, hk]
      unfold swR
      repeat' split
      all_goals first | rfl | (exfalso; omega)
/-- One round of the turning, the first range being the longer one. -/
theorem rotA_left (d d' : Array α) (m i j : Nat) (hm : i ≤ m) (hij : j < i) (h : ∀ t, d'[t]! = swR d (m - i) m j t) (t : Nat) : rotA d' (m - (i - j)) m (m + j) t = rotA d (m - i) m (m + j) t := by
  unfold rotA
  simp only [h]
  unfold swR
  repeat' split
  all_goals first | rfl | (exfalso; omega) | (congr 1; omega)
theorem rotA_right (d d' : Array α) (m i j : Nat) (hm : i ≤ m) (hij : i < j) (h : ∀ t, d'[t]! = swR d (m - i) (m + j - i) i t) (t : Nat) : rotA d' (m - i) m (m + (j - i)) t = rotA d (m - i) m (m + j) t := by
  unfold rotA
  simp only [h]
  unfold swR
  repeat' split
  all_goals first | rfl | (exfalso; omega) | (congr 1; omega)
theorem rotA_same (d : Array α) (m i : Nat) (hm : i ≤ m) (t : Nat) : swR d (m - i) m i t = rotA d (m - i) m (m + i) t := by
  unfold rotA swR
  repeat' split
  all_goals first | rfl | (exfalso; omega) | (congr 1; omega)
/-- A turning by single exchanges: the first one goes up. -/
theorem rotA_up (d dk : Array α) (a k b : Nat) (hak : a ≤ k) (hk1 : k + 1 < b) (hb : b ≤ d.size) (hs : dk.size = d.size) (h : ∀ t, dk[t]! = rotA d a (a + 1) (k + 1) t) (t : Nat) : (swp dk k (k + 1))[t]! = rotA d a (a + 1) (k + 1 + 1) t := by
  by_cases h1 : t = k
  · subst h1
    rw [swp_left _ _ _ (by omega) (by omega), h]
    unfold rotA
    rw [if_neg (by omega), if_neg (by omega), if_pos (by omega)]
    congr 1; omega
  · by_cases h2 : t = k + 1
    · subst h2
      rw [swp_right _ _ _ (by omega), h]
      unfold rotA
      rw [if_neg (by omega), if_pos (by omega), if_neg (by omega), if_pos (by omega)]
      congr 1; omega
    · rw [swp_other _ _ _ _ h1 h2, h]
      unfold rotA
      by_cases c1 : a ≤ t ∧ t < a + (k + 1 - (a + 1))
      · rw [if_pos c1, if_pos (by omega)]
      · rw [if_neg c1, if_neg (by omega), if_neg (by omega), if_neg (by omega)]
/-- .. the last one goes down. -/
theorem rotA_down (d dk : Array α) (k m : Nat) (hk : k < m) (hm : m < d.size) (hs : dk.size = d.size) (h : ∀ t, dk[t]! = rotA d (k + 1) m (m + 1) t) (t : Nat) : (swp dk (k + 1) k)[t]! = rotA d k m (m + 1) t := by
  by_cases h1 : t = k + 1
  · subst h1
    rw [swp_left _ _ _ (by omega) (by omega), h]
    unfold rotA
    rw [if_neg (by omega), if_neg (by omega), if_neg (by omega), if_pos (by omega)]
    congr 1; omega
  · by_cases h2 : t = k
    · subst h2
      rw [swp_right _ _ _ (by omega), h]
      unfold rotA
      rw [if_pos (by omega), if_pos (by omega)]
      congr 1; omega
    · rw [swp_other _ _ _ _ h1 h2, h]
      unfold rotA
      rw [if_neg (by omega), if_neg (show ¬ (k ≤ t ∧ t < k + (m + 1 - m)) by omega)]
      by_cases c1 : k + 1 + (m + 1 - m) ≤ t ∧ t < m + 1
      · rw [if_pos c1, if_pos (by omega)]
        congr 1; omega
      · rw [if_neg c1, if_neg (by omega)]
theorem rotA_none_up (d : Array α) (a t : Nat) : d[t]! = rotA d a (a + 1) (a + 1) t := by
  unfold rotA
  rw [if_neg (by omega)]
  split
  · congr 1; omega
  · rfl
theorem rotA_none_down (d : Array α) (m t : Nat) : d[t]! = rotA d m m (m + 1) t := by
  unfold rotA
  split
  · congr 1; omega
  · rw [if_neg (by omega)]
variable {lt : α → α → Bool}

omit [Inhabited α] in
theorem asym (W : SWO lt) {x y : α} (h : lt x y = true) : lt y x = false := by
  cases e : lt y x with
  | false => rfl
  | true => have := W.trans x y x h e; rw [W.irrefl] at this; cases this
theorem SortedIn.le (W : SWO lt) {a b : Nat} {d : Array α} (h : SortedIn lt a b d) {i j : Nat} (h1 : a ≤ i) (h2 : i ≤ j) (h3 : j < b) : lt d[j]! d[i]! = false := by
  rcases Nat.lt_or_eq_of_le h2 with h4 | rfl
  · exact h i j h1 h4 h3
  · exact W.irrefl _
omit [Inhabited α] in
theorem ltle (W : SWO lt) {x y z : α} (h : lt y x = false) (h2 : lt y z = true) : lt x z = true := by
  cases e : lt x z with
  | true => rfl
  | false => rw [W.ntrans y x z h e] at h2; cases h2
/-! ### the three searches -/
/-- One against a range: those below i are less, those from j are not. -/
def Se1 (lt : α → α → Bool) (d : Array α) (a m b i j : Nat) : Prop := (∀ c, m ≤ c → c < i → lt d[c]! d[a]! = true) ∧ ∀ c, j ≤ c → c < b → lt d[c]! d[a]! = false
theorem Se1.up (W : SWO lt) {d : Array α} {a m b i j h : Nat} (s : Se1 lt d a m b i j) (hs : SortedIn lt m b d) (hh : h < b) (hl : lt d[h]! d[a]! = true) : Se1 lt d a m b (h + 1) j :=
  ⟨fun c h1 h2 => ltle W (SortedIn.le W hs h1 (show c ≤ h by omega) hh) hl, s.2⟩
theorem Se1.down (W : SWO lt) {d : Array α} {a m b i j h : Nat} (s : Se1 lt d a m b i j) (hs : SortedIn lt m b d) (hm : m ≤ h) (hl : lt d[h]! d[a]! = false) : Se1 lt d a m b i h :=
  ⟨s.1, fun c h1 h2 => W.ntrans _ _ _ (SortedIn.le W hs hm h1 h2) hl⟩
theorem Se1.sorted (W : SWO lt) {d d' : Array α} {a b i : Nat} (s : Se1 lt d a (a + 1) b i i) (hs : SortedIn lt (a + 1) b d) (h1 : a + 1 ≤ i) (h2 : i ≤ b) (h : ∀ t, d'[t]! = rotA d a (a + 1) i t) : SortedIn lt a b d' := by
  intro x y hx hxy hy
  rw [h, h]
  unfold rotA
  by_cases c1 : x < a + (i - (a + 1))
  · rw [if_pos (show a ≤ x ∧ x < a + (i - (a + 1)) by omega)]
    by_cases c2 : y < a + (i - (a + 1))
    · rw [if_pos (by omega)]; exact hs _ _ (by omega) (by omega) (by omega)
    · rw [if_neg (by omega)]
      by_cases c3 : y < i
      · rw [if_pos (by omega)]
        have : a + (y - (a + (i - (a + 1)))) = a := by omega
        rw [this]
        exact asym W (s.1 _ (by omega) (by omega))
      · rw [if_neg (by omega)]; exact hs _ _ (by omega) (by omega) (by omega)
  · rw [if_neg (show ¬ (a ≤ x ∧ x < a + (i - (a + 1))) by omega)]
    rw [if_neg (show ¬ (a ≤ y ∧ y < a + (i - (a + 1))) by omega)]
    by_cases c3 : x < i
    · rw [if_pos (show a + (i - (a + 1)) ≤ x ∧ x < i by omega), if_neg (by omega)]
      have : a + (x - (a + (i - (a + 1)))) = a := by omega
      rw [this]
      exact s.2 _ (by omega) (by omega)
    · rw [if_neg (by omega), if_neg (by omega)]; exact hs _ _ (by omega) (by omega) (by omega)
/-- A range against one: those below i aren't beyond it, those from j are. -/
def Se2 (lt : α → α → Bool) (d : Array α) (a m i j : Nat) : Prop := (∀ c, a ≤ c → c < i → lt d[m]! d[c]! = false) ∧ ∀ c, j ≤ c → c < m → lt d[m]! d[c]! = true
theorem Se2.up (W : SWO lt) {d : Array α} {a m i j h : Nat} (s : Se2 lt d a m i j) (hs : SortedIn lt a m d) (hh : h < m) (hl : lt d[m]! d[h]! = false) : Se2 lt d a m (h + 1) j :=
  ⟨fun c h1 h2 => W.ntrans _ _ _ hl (SortedIn.le W hs h1 (show c ≤ h by omega) hh), s.2⟩
theorem Se2.down (W : SWO lt) {d : Array α} {a m i j h : Nat} (s : Se2 lt d a m i j) (hs : SortedIn lt a m d) (hm : a ≤ h) (hl : lt d[m]! d[h]! = true) : Se2 lt d a m i h :=
  ⟨s.1, fun c h1 h2 => by
    cases e : lt d[m]! d[c]! with
    | true => rfl
    | false => rw [W.ntrans _ _ _ e (SortedIn.le W hs hm h1 h2)] at hl; cases hl⟩
theorem Se2.sorted (W : SWO lt) {d d' : Array α} {a m i : Nat} (s : Se2 lt d a m i i) (hs : SortedIn lt a m d) (h1 : a ≤ i) (h2 : i ≤ m) (h : ∀ t, d'[t]! = rotA d i m (m + 1) t) : SortedIn lt a (m + 1) d' := by
  intro x y hx hxy hy
  rw [h, h]
  unfold rotA
  by_cases c1 : x < i
  · rw [if_neg (show ¬ (i ≤ x ∧ x < i + (m + 1 - m)) by omega), if_neg (show ¬ (i + (m + 1 - m) ≤ x ∧ x < m + 1) by omega)]
    by_cases c2 : y < i
    · rw [if_neg (by omega), if_neg (by omega)]; exact hs _ _ (by omega) (by omega) (by omega)
    · by_cases c3 : y = i
      · rw [if_pos (by omega)]
        have : m + (y - i) = m := by omega
        rw [this]
        exact s.1 _ (by omega) (by omega)
      · rw [if_neg (by omega), if_pos (by omega)]; exact hs _ _ (by omega) (by omega) (by omega)
  · by_cases c3 : x = i
    · rw [if_pos (show i ≤ x ∧ x < i + (m + 1 - m) by omega), if_neg (by omega), if_pos (by omega)]
      have : m + (x - i) = m := by omega
      rw [this]
      exact asym W (s.2 _ (by omega) (by omega))
    · rw [if_neg (show ¬ (i ≤ x ∧ x < i + (m + 1 - m)) by omega), if_pos (show i + (m + 1 - m) ≤ x ∧ x < m + 1 by omega), if_neg (by omega), if_pos (by omega)]
      exact hs _ _ (by omega) (by omega) (by omega)
/-- The search of both halves: of [s0, r0), those below s aren't beyond their fellows (at p less them), those from r are. -/
def Se3 (lt : α → α → Bool) (d : Array α) (p s0 r0 s r : Nat) : Prop := (∀ c, s0 ≤ c → c < s → lt d[p - c]! d[c]! = false) ∧ ∀ c, r ≤ c → c < r0 → lt d[p - c]! d[c]! = true
theorem Se3.up (W : SWO lt) {d : Array α} {a m b p s0 r0 s r c : Nat} (h : Se3 lt d p s0 r0 s r) (hA : SortedIn lt a m d) (hB : SortedIn lt m b d) (ha : a ≤ s0) (hc1 : c < m) (hp : m ≤ p - c) (hp2 : p - s0 < b) (hl : lt d[p - c]! d[c]! = false) : Se3 lt d p s0 r0 (c + 1) r :=
  ⟨fun x h1 h2 => W.ntrans _ _ _ (W.ntrans _ _ _ (SortedIn.le W hB hp (show p - c ≤ p - x by omega) (by omega)) hl) (SortedIn.le W hA (by omega) (show x ≤ c by omega) hc1), h.2⟩
theorem Se3.down (W : SWO lt) {d : Array α} {a m b p s0 r0 s r c : Nat} (h : Se3 lt d p s0 r0 s r) (hA : SortedIn lt a m d) (hB : SortedIn lt m b d) (ha : a ≤ c) (hr : r0 ≤ m) (hp : m + r0 ≤ p + 1) (hp2 : p - c < b) (hl : lt d[p - c]! d[c]! = true) : Se3 lt d p s0 r0 s c :=
  ⟨h.1, fun x h1 h2 => by
    have e1 := SortedIn.le W hA ha h1 (show x < m by omega)
    have e2 := SortedIn.le W hB (show m ≤ p - x by omega) (show p - x ≤ p - c by omega) hp2
    cases e : lt d[p - x]! d[x]! with
    | true => rfl
    | false => rw [W.ntrans _ _ _ (W.ntrans _ _ _ e2 e) e1] at hl; cases hl⟩
/-- Behind the search and the turning: four sorted ranges, and nothing of the upper half is less than anything of the lower one. -/
structure Halves (lt : α → α → Bool) (d : Array α) (a s mid e b : Nat) : Prop where
  s1 : SortedIn lt a s d
  s2 : SortedIn lt s mid d
  s3 : SortedIn lt mid e d
  s4 : SortedIn lt e b d
  cr : ∀ i j, a ≤ i → i < mid → mid ≤ j → j < b → lt d[j]! d[i]! = false
theorem halves (W : SWO lt) {d d' : Array α} {a m b mid s e : Nat} (hA : SortedIn lt a m d) (hB : SortedIn lt m b d) (h1 : a ≤ s) (h2 : s ≤ m) (h3 : m ≤ e) (h4 : e ≤ b) (hm : s + e = mid + m)
    (c1 : s = a ∨ e = b ∨ lt d[e]! d[s - 1]! = false) (c2 : s = m ∨ e = m ∨ lt d[e - 1]! d[s]! = true) (h : ∀ t, d'[t]! = rotA d s m e t) : Halves lt d' a s mid e b := by
  have v1 : ∀ t, t < s → d'[t]! = d[t]! := fun t ht => by rw [h]; unfold rotA; rw [if_neg (by omega), if_neg (by omega)]
  have v2 : ∀ t, s ≤ t → t < mid → d'[t]! = d[m + (t - s)]! := fun t ht ht2 => by rw [h]; unfold rotA; rw [if_pos (by omega)]
  have v3 : ∀ t, mid ≤ t → t < e → d'[t]! = d[s + (t - mid)]! := fun t ht ht2 => by
    rw [h]; unfold rotA; rw [if_neg (by omega), if_pos (by omega)]
    congr 1; omega
  have v4 : ∀ t, e ≤ t → d'[t]! = d[t]! := fun t ht => by rw [h]; unfold rotA; rw [if_neg (by omega), if_neg (by omega)]
  refine ⟨?_, ?_, ?_, ?_, ?_⟩
  · intro i j hi hij hj; rw [v1 i (by omega), v1 j hj]; exact hA _ _ hi hij (by omega)
  · intro i j hi hij hj; rw [v2 i hi (by omega), v2 j (by omega) hj]; exact hB _ _ (by omega) (by omega) (by omega)
  · intro i j hi hij hj; rw [v3 i hi (by omega), v3 j (by omega) hj]; exact hA _ _ (by omega) (by omega) (by omega)
  · intro i j hi hij hj; rw [v4 i (by omega), v4 j (by omega)]; exact hB _ _ (by omega) (by omega) (by omega)
  · intro i j hi him hj hjb
    by_cases k1 : i < s
    · rw [v1 i k1]
      by_cases k2 : j < e
      · rw [v3 j hj k2]; exact hA _ _ hi (by omega) (by omega)
      · rw [v4 j (by omega)]
        rcases c1 with c | c | c
        · omega
        · omega
        · exact W.ntrans _ _ _ (W.ntrans _ _ _ (SortedIn.le W hB (by omega) (show e ≤ j by omega) hjb) c) (SortedIn.le W hA hi (show i ≤ s - 1 by omega) (by omega))
    · rw [v2 i (by omega) him]
      by_cases k2 : j < e
      · rw [v3 j hj k2]
        rcases c2 with c | c | c
        · omega
        · omega
        · exact W.ntrans _ _ _ (W.ntrans _ _ _ (SortedIn.le W hA (by omega) (show s ≤ s + (j - mid) by omega) (by omega)) (asym W c)) (SortedIn.le W hB (by omega) (show m + (i - s) ≤ e - 1 by omega) (by omega))
      · rw [v4 j (by omega)]; exact hB _ _ (by omega) (by omega) hjb
theorem sorted_one {a b s : Nat} {d : Array α} (h1 : SortedIn lt a s d) (h2 : SortedIn lt s b d) (h : s ≤ a ∨ b ≤ s) : SortedIn lt a b d := by
  intro i j hi hij hj
  rcases h with h | h
  · exact h2 i j (by omega) hij hj
  · exact h1 i j hi hij (by omega)
theorem sorted_same {a b : Nat} {d d' : Array α} (h : SortedIn lt a b d) (e : ∀ i, a ≤ i → i < b → d'[i]! = d[i]!) : SortedIn lt a b d' := by
  intro i j hi hij hj
  rw [e i hi (by omega), e j (by omega) hj]
  exact h i j hi hij hj
theorem join (W : SWO lt) {d d1 d2 : Array α} {a s mid e b : Nat} (h : Halves lt d a s mid e b) (ham : a ≤ mid) (hmb : mid ≤ b) (hb : b ≤ d.size) (p1 : PermIn a mid d d1) (s1 : SortedIn lt a mid d1) (p2 : PermIn mid b d1 d2) (s2 : SortedIn lt mid b d2) :
    PermIn a b d d2 ∧ SortedIn lt a b d2 := by
  have hb1 : b ≤ d1.size := by rw [p1.1]; exact hb
  refine ⟨permIn_trans _ _ _ _ _ (permIn_mono _ _ _ _ _ _ (Nat.le_refl a) hmb hb p1) (permIn_mono _ _ _ _ _ _ ham (Nat.le_refl b) hb1 p2), ?_⟩
  intro i j hi hij hj
  by_cases c1 : j < mid
  · rw [p2.2.1 i (by omega), p2.2.1 j (by omega)]; exact s1 i j hi hij c1
  · by_cases c2 : mid ≤ i
    · exact s2 i j c2 hij hj
    · have k1 : ∀ x, a ≤ x → x < mid → ∀ y, mid ≤ y → y < b → lt d1[y]! d1[x]! = false := by
        intro x hx hxm y hy hyb
        rw [p1.2.1 y (by omega)]
        exact permIn_all d d1 a mid (fun v => lt d[y]! v = false) (by omega) p1 (fun z hz hzm => h.cr z y hz hzm hy hyb) x hx hxm
      rw [p2.2.1 i (by omega)]
      exact permIn_all d1 d2 mid b (fun v => lt v d1[i]! = false) hb1 p2 (fun z hz hzm => k1 i hi (by omega) z hz hzm) j (by omega) hj
/-! ### blocks -/
/-- Each block of s places is sorted (the last one as far as there is something). -/
def Blk (lt : α → α → Bool) (s n : Nat) (d : Array α) : Prop := ∀ k, SortedIn lt (k * s) (min (k * s + s) n) d
/-- Those below q by 2 * s, those from there by s. -/
def BlkAt (lt : α → α → Bool) (s n q : Nat) (d : Array α) : Prop := (∀ k, k < q → SortedIn lt (k * (2 * s)) (min (k * (2 * s) + 2 * s) n) d) ∧ ∀ k, 2 * q ≤ k → SortedIn lt (k * s) (min (k * s + s) n) d
theorem Blk.at (s n : Nat) (d : Array α) (h : Blk lt s n d) : BlkAt lt s n 0 d := ⟨fun k hk => by omega, fun k _ => h k⟩
/-- The first phase: those below q are sorted. -/
def BlkTo (lt : α → α → Bool) (s n q : Nat) (d : Array α) : Prop := ∀ k, k < q → SortedIn lt (k * s) (min (k * s + s) n) d
theorem BlkTo.step {s n q : Nat} {d d' : Array α} (hn : n ≤ d.size) (h : BlkTo lt s n q d) (hp : PermIn (q * s) (q * s + s) d d') (hs : SortedIn lt (q * s) (q * s + s) d') : BlkTo lt s n (q + 1) d' := by
  intro k hk
  by_cases e : k = q
  · subst e
    intro i j hi hij hj
    exact hs i j hi hij (by omega)
  · have hlt : k + 1 ≤ q := by omega
    have := Nat.mul_le_mul_right s hlt
    rw [Nat.add_mul, Nat.one_mul] at this
    exact sorted_same (h k (by omega)) (fun i _ hi => hp.2.1 i (by omega))
theorem BlkTo.last {s n q : Nat} {d d' : Array α} (h : BlkTo lt s n q d) (hq : n < q * s + s) (hp : PermIn (q * s) n d d') (hs : SortedIn lt (q * s) n d') : Blk lt s n d' := by
  intro k
  by_cases e : k = q
  · subst e
    intro i j hi hij hj
    exact hs i j hi hij (by omega)
  · by_cases hlt : k < q
    · have := Nat.mul_le_mul_right s (show k + 1 ≤ q from hlt)
      rw [Nat.add_mul, Nat.one_mul] at this
      exact sorted_same (h k hlt) (fun i _ hi => hp.2.1 i (by omega))
    · have := Nat.mul_le_mul_right s (show q + 1 ≤ k by omega)
      rw [Nat.add_mul, Nat.one_mul] at this
      intro i j hi hij hj
      omega
theorem two_mul_q (q s : Nat) : q * (2 * s) = 2 * q * s := by rw [← Nat.mul_assoc, Nat.mul_comm q 2]
theorem BlkAt.ends {s n q : Nat} {d : Array α} (h : BlkAt lt s n q d) : SortedIn lt (q * (2 * s)) (min (q * (2 * s) + s) n) d ∧ SortedIn lt (q * (2 * s) + s) (min (q * (2 * s) + 2 * s) n) d := by
  have h1 := h.2 (2 * q) (Nat.le_refl _)
  have h2 := h.2 (2 * q + 1) (by omega)
  rw [Nat.add_mul, Nat.one_mul] at h2
  rw [two_mul_q]
  refine ⟨h1, ?_⟩
  have e : 2 * q * s + s + s = 2 * q * s + 2 * s := by omega
  rw [e] at h2
  exact h2
theorem BlkAt.step {s n q : Nat} {d d' : Array α} (h : BlkAt lt s n q d) (e : Nat) (he : e = min (q * (2 * s) + 2 * s) n) (hp : PermIn (q * (2 * s)) e d d') (hs : SortedIn lt (q * (2 * s)) e d') : BlkAt lt s n (q + 1) d' := by
  refine ⟨fun k hk => ?_, fun k hk => ?_⟩
  · by_cases c : k = q
    · subst c; rw [← he]; exact hs
    · have := Nat.mul_le_mul_right (2 * s) (show k + 1 ≤ q by omega)
      rw [Nat.add_mul, Nat.one_mul] at this
      exact sorted_same (h.1 k (by omega)) (fun i _ hi => hp.2.1 i (by omega))
  · have h1 := Nat.mul_le_mul_right s (show 2 * q + 2 ≤ k by omega)
    rw [Nat.add_mul, ← two_mul_q] at h1
    exact sorted_same (h.2 k (by omega)) (fun i hi _ => hp.2.1 i (by omega))
theorem BlkAt.done {s n q : Nat} {d : Array α} (h : BlkAt lt s n q d) (hq : n ≤ q * (2 * s) + s) : Blk lt (2 * s) n d := by
  intro k
  by_cases c : k < q
  · exact h.1 k c
  · by_cases c2 : k = q
    · subst c2
      have := h.ends.1
      intro i j hi hij hj
      exact this i j hi hij (by omega)
    · have := Nat.mul_le_mul_right (2 * s) (show q + 1 ≤ k by omega)
      rw [Nat.add_mul, Nat.one_mul] at this
      intro i j hi hij hj
      omega
theorem Blk.whole {s n : Nat} {d : Array α} (h : Blk lt s n d) (hs : n ≤ s) : SortedIn lt 0 n d := by
  have := h 0
  rw [Nat.zero_mul, Nat.zero_add] at this
  intro i j hi hij hj
  exact this i j hi hij (by omega)
end Go.Proofs.YtpgdddjjjfkneaaGreatDoor

/-
  Messages as pairs of numbers and as cells; their order; the contracts of cmp.Compare, cmp.Or and compare. No condition.
-/
namespace Go.Proofs.YtpgdddjjjfkneaaGreatDoor
open Go.RowKit Go.Sort
set_option linter.unusedVariables false

def me (m : Ms) : List Value := [.int .i64 m.1, .int .i64 m.2]
def c3 (a b : Int) : Int := if a < b then -1 else if b < a then 1 else 0
theorem c3_lt {a b : Int} (h : a < b) : c3 a b = -1 := by unfold c3; rw [if_pos h]
theorem c3_gt {a b : Int} (h : b < a) : c3 a b = 1 := by unfold c3; rw [if_neg (by omega), if_pos h]
theorem c3_eq (a : Int) : c3 a a = 0 := by unfold c3; simp
/-- The order of two messages, as a number. -/
def cmpM (a b : Ms) : Int := orI (c3 a.1 b.1) (c3 a.2 b.2)
/-- Does one stand ahead of the other? -/
def ltM (a b : Ms) : Bool := decide (cmpM a b < 0)
theorem ltM_iff (a b : Ms) : ltM a b = true ↔ (a.1 < b.1 ∨ (a.1 = b.1 ∧ a.2 < b.2)) := by
  unfold ltM cmpM orI c3
  rw [decide_eq_true_iff]
  repeat' split
  all_goals first | (constructor <;> intro h <;> omega) | omega
theorem ltM_not (a b : Ms) : ltM a b = false ↔ ¬ (a.1 < b.1 ∨ (a.1 = b.1 ∧ a.2 < b.2)) := by
  rw [← ltM_iff]; cases ltM a b <;> simp
theorem ltM_swo : SWO ltM where
  irrefl x := by rw [ltM_not]; omega
  trans x y z h1 h2 := by rw [ltM_iff] at *; omega
  ntrans x y z h1 h2 := by rw [ltM_not] at *; omega
theorem ltM_total (x y : Ms) (h1 : ltM x y = false) (h2 : ltM y x = false) : x = y := by
  rw [ltM_not] at h1 h2
  have : x.1 = y.1 ∧ x.2 = y.2 := by omega
  exact Prod.ext this.1 this.2
theorem compareI_any (x y : Int) (w : World) : Calls Tryz.prog 51 #[.int .i64 x, .int .i64 y] w fun e w' => e = .returned (.int .i64 (c3 x y)) ∧ w = w' := by
  rcases Int.lt_trichotomy x y with h | h | h
  · have HV := Lib.hid (c3_lt h)
    go_enter Tryz.func51, Tryz.ntmps51
    go_wp2
    go_ret
    exact ⟨ret_int HV.out.symm, rfl⟩
  · subst h
    have HV := Lib.hid (c3_eq x)
    go_enter Tryz.func51, Tryz.ntmps51
    go_wp2
    go_ret
    exact ⟨ret_int HV.out.symm, rfl⟩
  · have HV := Lib.hid (c3_gt h)
    have h2 : ¬ x < y := by omega
    go_enter Tryz.func51, Tryz.ntmps51
    go_wp2
    go_ret
    exact ⟨ret_int HV.out.symm, rfl⟩
theorem compareJ_any (x y : Int) (w : World) : Calls Tryz.prog 107 #[.int .i64 x, .int .i64 y] w fun e w' => e = .returned (.int .i64 (c3 x y)) ∧ w = w' := by
  rcases Int.lt_trichotomy x y with h | h | h
  · have HV := Lib.hid (c3_lt h)
    go_enter Tryz.func107, Tryz.ntmps107
    go_wp2
    go_ret
    exact ⟨ret_int HV.out.symm, rfl⟩
  · subst h
    have HV := Lib.hid (c3_eq x)
    go_enter Tryz.func107, Tryz.ntmps107
    go_wp2
    go_ret
    exact ⟨ret_int HV.out.symm, rfl⟩
  · have HV := Lib.hid (c3_gt h)
    have h2 : ¬ x < y := by omega
    go_enter Tryz.func107, Tryz.ntmps107
    go_wp2
    go_ret
    exact ⟨ret_int HV.out.symm, rfl⟩
theorem compareI_still (x y : Int) (w : World) : Calls Tryz.prog 51 #[.int .i64 x, .int .i64 y] w fun e w' => e = .returned (.int .i64 (c3 x y)) ∧ w' = w := (compareI_any x y w).mono fun _ _ ⟨a, b⟩ => ⟨a, b.symm⟩
theorem compareJ_still (x y : Int) (w : World) : Calls Tryz.prog 107 #[.int .i64 x, .int .i64 y] w fun e w' => e = .returned (.int .i64 (c3 x y)) ∧ w' = w := (compareJ_any x y w).mono fun _ _ ⟨a, b⟩ => ⟨a, b.symm⟩
theorem grown3 (w : World) (A B C : Obj) : (((w.alloc A).alloc B).alloc C).drew = grow (w.drewN 1) (#[A] ++ #[B] ++ #[C]) := by
  rw [alloc_eq_grow, alloc_eq_grow, alloc_eq_grow, grow_grow, grow_grow]; rfl
attribute [local irreducible] wpStill in
theorem mcompare_any (a b : Ms) (w : World) :
    Calls Tryz.prog 85 #[.agg #[.int .i64 a.1, .int .i64 a.2], .agg #[.int .i64 b.1, .int .i64 b.2]] w fun e w' => e = .returned (.int .i64 (cmpM a b)) ∧ ∃ q os, w' = grow (w.drewN q) os := by
  go_enter Tryz.func85, Tryz.ntmps85
  go_wp2_with fail
  refine still_tail 10 (by kernel_rfl) (by kernel_rfl) ?_
  simp only [List.take_succ_cons, List.take_zero, List.drop_succ_cons, List.drop_zero]
  iterate 4 still_step
  still_call (compareI_still _ _ _)
  iterate 4 still_step
  still_call (compareJ_still _ _ _)
  refine wpStill_nil ?_
  go_wp2_with fail
  refine (or_any _ (c3 a.1 b.1) (c3 a.2 b.2) _ (by simp [go_sem]) (by simp [go_sem])).mono ?_
  rintro e w' ⟨rfl, rfl⟩
  go_wp2_with fail
  go_ret
  exact ⟨rfl, 1, _, grown3 _ _ _ _⟩
end Go.Proofs.YtpgdddjjjfkneaaGreatDoor

/-
  The worlds that a sort in place passes through: a row of messages in one block, all else as it was, blocks and draws behind. What a walk wants of them: loads, comparisons, exchanges. No condition.
-/
namespace Go.Proofs.YtpgdddjjjfkneaaGreatDoor
open Go.RowKit Go.Sort
set_option linter.unusedVariables false

/-- W is w0 with the row at (blk, off) holding dk, some draws and some blocks on. -/
def Sw (w0 : World) (blk off : Nat) (dk : Array Ms) (W : World) : Prop := ∃ n os, W = grow (putRowK me 2 (Sort.ahead w0 n) blk off dk) os
theorem me_len (m : Ms) : (me m).length = 2 := rfl
variable {w0 W : World} {blk off N : Nat} {dk : Array Ms}

theorem Sw.start (h : HoldsK me 2 w0 blk off dk) : Sw w0 blk off dk w0 := ⟨0, #[], by rw [grow_empty]; exact (putRowK_self me 2 w0 blk off dk h).symm⟩
theorem Sw.grown (h : Sw w0 blk off dk W) (n : Nat) (os : Array Obj) : Sw w0 blk off dk (grow (W.drewN n) os) := by
  obtain ⟨m, os0, rfl⟩ := h
  refine ⟨m + n, os0 ++ os, ?_⟩
  show grow (grow ((putRowK me 2 (Sort.ahead w0 m) blk off dk).drewN n) os0) os = _
  rw [grow_grow, putRowK_drewN]
theorem Sw.drew (h : Sw w0 blk off dk W) : Sw w0 blk off dk W.drew := by
  have := h.grown 1 #[]
  rw [grow_empty] at this
  exact this
/-- The row, told once. -/
structure Row (w0 : World) (blk off N : Nat) : Prop where
  hH : ∃ d0 : Array Ms, d0.size = N ∧ HoldsK me 2 w0 blk off d0
  hblk : blk < w0.heap.size
theorem Sw.holds (h : Sw w0 blk off dk W) (R : Row w0 blk off N) (hs : dk.size = N) : HoldsK me 2 W blk off dk := by
  obtain ⟨n, os, rfl⟩ := h
  obtain ⟨d0, h0, hH⟩ := R.hH
  subst h0
  exact holdsK_grow me 2 _ os blk off dk (by rw [size_putRowK]; exact R.hblk) (holdsK_putRowK me 2 _ blk off d0 dk (holdsK_ahead me 2 w0 n blk off d0 hH) hs)
theorem Sw.cell (h : Sw w0 blk off dk W) (R : Row w0 blk off N) (hs : dk.size = N) {i : Nat} (hi : i < dk.size) :
    W.cell? ⟨blk, off + i * 2, none⟩ = some (.int .i64 dk[i]!.1) ∧ W.cell? ⟨blk, off + i * 2 + 1, none⟩ = some (.int .i64 dk[i]!.2) := by
  have a := (HoldsK.cell (h.holds R hs) hi (c := 0) (by decide)).1
  have b := (HoldsK.cell (h.holds R hs) hi (c := 1) (by decide)).1
  exact ⟨a, b⟩
/-- The cells of a message, in every world on from one. -/
theorem Sw.ld (h : Sw w0 blk off dk W) (R : Row w0 blk off N) (hs : dk.size = N) {i : Nat} (hi : i < dk.size) (n : Nat) (os : Array Obj) :
    (grow (W.drewN n) os).cell? ⟨blk, off + i * 2, none⟩ = some (.int .i64 dk[i]!.1) ∧ (grow (W.drewN n) os).cell? ⟨blk, off + i * 2 + 1, none⟩ = some (.int .i64 dk[i]!.2) := (h.grown n os).cell R hs hi
theorem Sw.fr (h : Sw w0 blk off dk W) (R : Row w0 blk off N) (hs : dk.size = N) {i : Nat} (hi : i < dk.size) :
    W.frozen? ⟨blk, off + i * 2, none⟩ = false ∧ W.frozen? ⟨blk, off + i * 2 + 1, none⟩ = false := by
  have a := (HoldsK.cell (h.holds R hs) hi (c := 0) (by decide)).2
  have b := (HoldsK.cell (h.holds R hs) hi (c := 1) (by decide)).2
  exact ⟨a, b⟩
theorem Sw.cmp (h : Sw w0 blk off dk W) (x y : Ms) (n : Nat) (os : Array Obj) :
    Calls Tryz.prog 85 #[.agg #[.int .i64 x.1, .int .i64 x.2], .agg #[.int .i64 y.1, .int .i64 y.2]] (grow (W.drewN n) os) fun e w' => e = .returned (.int .i64 (cmpM x y)) ∧ ∃ q os', w' = grow ((grow (W.drewN n) os).drewN q) os' := mcompare_any x y _
theorem Sw.swapped (h : Sw w0 blk off dk W) (R : Row w0 blk off N) (i j : Nat) (hi : i < dk.size) (hj : j < dk.size) :
    Sw w0 blk off (swp dk i j) ((W.drew.setCells blk (off + i * 2) (me dk[j]!)).setCells blk (off + j * 2) (me dk[i]!)) := by
  obtain ⟨n, os, hw⟩ := h.drew
  rw [hw]
  refine ⟨n, os, ?_⟩
  rw [← putRowK_grow me 2 (Sort.ahead w0 n) os blk off dk R.hblk, putRowK_swp me 2 me_len _ blk off dk i j hi hj, putRowK_grow me 2 (Sort.ahead w0 n) os blk off _ R.hblk]
/-- All that an exchange asks and leaves. -/
theorem Sw.sw (h : Sw w0 blk off dk W) (R : Row w0 blk off N) (hs : dk.size = N) (i j : Nat) (hi : i < dk.size) (hj : j < dk.size) :
    (W.setCell ⟨blk, off + i * 2, none⟩ (.int .i64 dk[j]!.1)).cell? ⟨blk, off + i * 2 + 1, none⟩ = some (.int .i64 dk[i]!.2) ∧
    (((W.setCell ⟨blk, off + i * 2, none⟩ (.int .i64 dk[j]!.1)).setCell ⟨blk, off + i * 2 + 1, none⟩ (.int .i64 dk[j]!.2)).cell? ⟨blk, off + j * 2, none⟩ = some (.int .i64 dk[j]!.1)) ∧
    ((((W.setCell ⟨blk, off + i * 2, none⟩ (.int .i64 dk[j]!.1)).setCell ⟨blk, off + i * 2 + 1, none⟩ (.int .i64 dk[j]!.2)).setCell ⟨blk, off + j * 2, none⟩ (.int .i64 dk[i]!.1)).cell? ⟨blk, off + j * 2 + 1, none⟩ = some (.int .i64 dk[j]!.2)) ∧
    Sw w0 blk off (swp dk i j) ((((W.setCell ⟨blk, off + i * 2, none⟩ (.int .i64 dk[j]!.1)).setCell ⟨blk, off + i * 2 + 1, none⟩ (.int .i64 dk[j]!.2)).setCell ⟨blk, off + j * 2, none⟩ (.int .i64 dk[i]!.1)).setCell ⟨blk, off + j * 2 + 1, none⟩ (.int .i64 dk[i]!.2)).drew := by
  obtain ⟨a0, a1⟩ := h.cell R hs hi
  obtain ⟨b0, b1⟩ := h.cell R hs hj
  have ne : ∀ (X : World) (o o' : Nat) (v : Value), o ≠ o' → (X.setCell ⟨blk, o, none⟩ v).cell? ⟨blk, o', none⟩ = X.cell? ⟨blk, o', none⟩ := fun X o o' v hne => World.cell?_setCell_other _ _ _ _ (by simp)
  refine ⟨?_, ?_, ?_, h.swapped R i j hi hj⟩
  · rw [ne _ _ _ _ (by omega)]; exact a1
  · by_cases e : i = j
    · subst e
      rw [ne _ _ _ _ (by omega)]
      exact World.cell?_setCell_same' _ _ _ (by rw [a0]; rfl)
    · rw [ne _ _ _ _ (by omega), ne _ _ _ _ (by omega)]; exact b0
  · rw [ne _ _ _ _ (by omega)]
    by_cases e : i = j
    · subst e
      exact World.cell?_setCell_same' _ _ _ (by rw [ne _ _ _ _ (by omega), a1]; rfl)
    · rw [ne _ _ _ _ (by omega), ne _ _ _ _ (by omega)]; exact b1
end Go.Proofs.YtpgdddjjjfkneaaGreatDoor

/-
  The contracts of swapRangeCmpFunc and rotateCmpFunc. No condition but the ranges.
-/
namespace Go.Proofs.YtpgdddjjjfkneaaGreatDoor
open Go.RowKit Go.Sort
set_option linter.unusedVariables false
variable {w0 : World} {blk off N : Nat}

set_option maxHeartbeats 2000000 in
theorem swapRange_any (cap a b n lo hi : Nat) (d : Array Ms) (w : World) (R : Row w0 blk off N) (hs : d.size = N) (S : Sw w0 blk off d w) (hab : a + n ≤ b) (hlo : lo ≤ a) (hbn : b + n ≤ hi) (hhi : hi ≤ N) (hsz : N < 4611686018427387904) :
    Calls Tryz.prog 145 #[.slice (some ⟨blk, off, none⟩) N cap, .int .i64 a, .int .i64 b, .int .i64 n, .func (.func 85) #[] #[]] w fun e w' => e = .returned (.tuple #[]) ∧ ∃ d', Sw w0 blk off d' w' ∧ PermIn lo hi d d' ∧ ∀ t, d'[t]! = swR d a b n t := by
  have S0 := Lib.hid S
  clear S
  go_enter Tryz.func145, Tryz.ntmps145
  go_wp2
  go_loopg [10] n (fun g vi wr => ∃ (i : Nat) (dk : Array Ms), vi = .int .i64 i ∧ i ≤ n ∧ n - i ≤ g ∧ Hid (Sw w0 blk off dk wr) ∧ Hid (PermIn lo hi d dk) ∧ Hid (∀ t, dk[t]! = swR d a b i t))
  case atStart => exact ⟨0, d, rfl, Nat.zero_le _, by omega, S0, Lib.hid (permIn_refl _ _ _), Lib.hid (fun t => swR_zero d a b t)⟩
  case round =>
    clear S0
    obtain ⟨i, dk, rfl, hin, hg, S1, P1, V1⟩ := hrel
    by_cases hlt : i < n
    · have hds : dk.size = d.size := P1.out.1
      have hltz : (i : Int) < (n : Int) := by omega
      obtain ⟨ca0, ca1⟩ := S1.out.cell R (hds.trans hs) (i := a + i) (by omega)
      obtain ⟨cb0, cb1⟩ := S1.out.cell R (hds.trans hs) (i := b + i) (by omega)
      obtain ⟨fa0, fa1⟩ := S1.out.fr R (hds.trans hs) (i := a + i) (by omega)
      obtain ⟨fb0, fb1⟩ := S1.out.fr R (hds.trans hs) (i := b + i) (by omega)
      obtain ⟨x1, x2, x3, x4⟩ := S1.out.sw R (hds.trans hs) (a + i) (b + i) (by omega) (by omega)
      have S2 := Lib.hid x4
      have P2 := Lib.hid (permIn_trans _ _ _ _ _ P1.out (swp_permIn dk lo hi (a + i) (b + i) (by omega) (by omega) (by omega) (by omega) (by omega)))
      have V2 := Lib.hid (swR_step d dk a b n i hab hlt (by omega) hds V1.out)
      clear x4 S1 P1 V1
      go_wp2_with fail
      go_region
      all_goals go_wp2
      all_goals go_roundg (n - (i + 1))
      case measure => omega
      case rel => exact ⟨i + 1, _, by go_num, by omega, Nat.le_refl _, S2, P2, V2⟩
    · go_wp2
      go_end0
      have : i = n := by omega
      subst this
      exact ⟨rfl, dk, S1.out, P1.out, V1.out⟩
theorem rotA_eq (d : Array Ms) {a m b a' b' : Nat} (h1 : a = a') (h2 : b = b') (t : Nat) : rotA d a m b t = rotA d a' m b' t := by rw [h1, h2]
set_option maxHeartbeats 2000000 in
theorem rotate_any (cap a m b : Nat) (d : Array Ms) (w : World) (R : Row w0 blk off N) (hs : d.size = N) (S : Sw w0 blk off d w) (ham : a < m) (hmb : m < b) (hb : b ≤ N) (hsz : N < 4611686018427387904) :
    Calls Tryz.prog 144 #[.slice (some ⟨blk, off, none⟩) N cap, .int .i64 a, .int .i64 m, .int .i64 b, .func (.func 85) #[] #[]] w fun e w' => e = .returned (.tuple #[]) ∧ ∃ d', Sw w0 blk off d' w' ∧ PermIn a b d d' ∧ ∀ t, d'[t]! = rotA d a m b t := by
  have S0 := Lib.hid S
  have i0 : (m : Int) - (a : Int) = ((m - a : Nat) : Int) := by omega
  have j0 : (b : Int) - (m : Int) = ((b - m : Nat) : Int) := by omega
  clear S
  go_enter Tryz.func144, Tryz.ntmps144
  go_wp2_with fail
  go_loopg [10, 11] (b - a) (fun g vi vj wr => ∃ (i j : Nat) (dk : Array Ms), vi = .int .i64 i ∧ vj = .int .i64 j ∧ 1 ≤ i ∧ 1 ≤ j ∧ i ≤ m - a ∧ j ≤ b - m ∧ i + j ≤ g ∧ Hid (Sw w0 blk off dk wr) ∧ Hid (PermIn a b d dk) ∧ Hid (∀ t, rotA dk (m - i) m (m + j) t = rotA d a m b t))
  case atStart => exact ⟨m - a, b - m, d, by rw [← i0], by rw [← j0], by omega, by omega, Nat.le_refl _, Nat.le_refl _, by omega, S0, Lib.hid (permIn_refl _ _ _), Lib.hid (rotA_eq d (by omega) (by omega))⟩
  case round =>
    clear S0
    obtain ⟨i, j, dk, rfl, rfl, hi1, hj1, him, hjb, hg, S1, P1, V1⟩ := hrel
    have hds : dk.size = d.size := P1.out.1
    have ei : (m : Int) - (i : Int) = ((m - i : Nat) : Int) := by omega
    rcases Nat.lt_trichotomy i j with hlt | hlt | hlt
    · have hne : ((i : Int) == (j : Int)) = false := beq_eq_false_iff_ne.2 (by omega)
      have hng : ¬ (j : Int) < (i : Int) := by omega
      have hc := swapRange_any (blk := blk) cap (m - i) (m + j - i) i a b dk wr R (hds.trans hs) S1.out (by omega) (by omega) (by omega) (by omega) hsz
      rw [show ((m + j - i : Nat) : Int) = (m : Int) + (j : Int) - (i : Int) by omega] at hc
      have ej : (j : Int) - (i : Int) = ((j - i : Nat) : Int) := by omega
      have HC := Lib.hid hc
      clear hc hs
      go_wp2_with fail
      refine HC.out.mono ?_
      rintro e w' ⟨rfl, d', S', P', V'⟩
      have V2 := Lib.hid (fun t => (rotA_right dk d' m i j (by omega) hlt V' t).trans (V1.out t))
      have P2 := Lib.hid (permIn_trans _ _ _ _ _ P1.out P')
      have S2 := Lib.hid S'
      clear S' P' V' HC S1 P1 V1
      go_wp2_with fail
      go_roundg (gk - 1)
      case measure => omega
      case rel => exact ⟨i, j - i, d', rfl, rfl, by omega, by omega, by omega, by omega, by omega, S2, P2, V2⟩
    · subst hlt
      have hc := swapRange_any (blk := blk) cap (m - i) m i a b dk wr R (hds.trans hs) S1.out (by omega) (by omega) (by omega) (by omega) hsz
      have HC := Lib.hid hc
      clear hc hs
      go_wp2_with fail
      refine HC.out.mono ?_
      rintro e w' ⟨rfl, d', S', P', V'⟩
      go_wp2_with fail
      go_end0
      exact ⟨rfl, d', S', permIn_trans _ _ _ _ _ P1.out P', fun t => ((V' t).trans (rotA_same dk m i (by omega) t)).trans (V1.out t)⟩
    · have hne : ((i : Int) == (j : Int)) = false := beq_eq_false_iff_ne.2 (by omega)
      have hng : (j : Int) < (i : Int) := by omega
      have hc := swapRange_any (blk := blk) cap (m - i) m j a b dk wr R (hds.trans hs) S1.out (by omega) (by omega) (by omega) (by omega) hsz
      have ej : (i : Int) - (j : Int) = ((i - j : Nat) : Int) := by omega
      have HC := Lib.hid hc
      clear hc hs
      go_wp2_with fail
      refine HC.out.mono ?_
      rintro e w' ⟨rfl, d', S', P', V'⟩
      have V2 := Lib.hid (fun t => (rotA_left dk d' m i j (by omega) hlt V' t).trans (V1.out t))
      have P2 := Lib.hid (permIn_trans _ _ _ _ _ P1.out P')
      have S2 := Lib.hid S'
      clear S' P' V' HC S1 P1 V1
      go_wp2_with fail
      go_roundg (gk - 1)
      case measure => omega
      case rel => exact ⟨i - j, j, d', rfl, rfl, by omega, by omega, by omega, by omega, by omega, S2, P2, V2⟩
end Go.Proofs.YtpgdddjjjfkneaaGreatDoor


