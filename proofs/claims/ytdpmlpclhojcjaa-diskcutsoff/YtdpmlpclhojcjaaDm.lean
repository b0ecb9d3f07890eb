/-
  Plain mathematics of disks: files in the order of their names; what Put, Sync, Cut, Drop, Crash make. No condition.
-/
namespace Go.Proofs.Ytdpmlpclhojcjaa
set_option linter.unusedVariables false

abbrev By := List UInt8
/-- A file: its name, its bytes, how many of them last. -/
structure Fl where
  name : By
  data : By
  safe : Int
deriving DecidableEq

theorem by_irrefl (a : By) : ¬ a < a := List.lt_irrefl a
theorem by_trans {a b c : By} (h : a < b) (g : b < c) : a < c := List.lt_trans h g
theorem by_tri (a b : By) (h : ¬ a < b) (g : ¬ b < a) : a = b := List.le_antisymm (List.not_lt.1 g) (List.not_lt.1 h)
theorem by_ne {a b : By} (h : a < b) : a ≠ b := fun e => by_irrefl b (e ▸ h)

/-- A file may be. -/
def okF (f : Fl) : Prop := 0 < f.name.length ∧ f.name.length ≤ 16 ∧ f.data.length ≤ 20000 ∧ 0 ≤ f.safe ∧ f.safe ≤ f.data.length
instance (f : Fl) : Decidable (okF f) := by unfold okF; infer_instance
/-- Rising by names: no name twice. -/
def Rises (d : List Fl) : Prop := d.Pairwise fun a b => a.name < b.name
structure Good (d : List Fl) : Prop where
  len : d.length ≤ 40
  ok : ∀ f ∈ d, okF f
  ris : Rises d

def hasF (d : List Fl) (n : By) : Bool := d.any fun f => f.name == n
def getF : List Fl → By → By
  | [], _ => []
  | f :: d, n => if f.name = n then f.data else getF d n
def safeF : List Fl → By → Int
  | [], _ => 0
  | f :: d, n => if f.name = n then f.safe else safeF d n
def dropF (d : List Fl) (n : By) : List Fl := d.filter fun f => f.name != n
/-- A disk with a file in the place of the one of its name, or at its own place. -/
def withF : List Fl → Fl → List Fl
  | [], f => [f]
  | g :: d, f => if g.name < f.name then g :: withF d f else f :: dropF (g :: d) f.name

theorem hasF_iff {d : List Fl} {n : By} : hasF d n = true ↔ ∃ f ∈ d, f.name = n := by simp [hasF]
theorem hasF_no {d : List Fl} {n : By} : hasF d n = false ↔ ∀ f ∈ d, f.name ≠ n := by simp [hasF]

theorem dropF_mem {d : List Fl} {n : By} {f : Fl} : f ∈ dropF d n ↔ f ∈ d ∧ f.name ≠ n := by simp [dropF]
theorem withF_mem {f : Fl} : ∀ {d : List Fl} {g : Fl}, g ∈ withF d f ↔ g = f ∨ g ∈ d ∧ g.name ≠ f.name
  | [], g => by simp [withF]
  | x :: d, g => by
    unfold withF
    by_cases h : x.name < f.name
    · rw [if_pos h]
      have ih := withF_mem (f := f) (d := d) (g := g)
      constructor
      · intro hm
        rcases List.mem_cons.1 hm with rfl | hm
        · exact .inr ⟨List.mem_cons_self .., by_ne h⟩
        · rcases ih.1 hm with e | ⟨h1, h2⟩
          · exact .inl e
          · exact .inr ⟨List.mem_cons_of_mem _ h1, h2⟩
      · rintro (e | ⟨h1, h2⟩)
        · exact List.mem_cons_of_mem _ (ih.2 (.inl e))
        · rcases List.mem_cons.1 h1 with rfl | h1
          · exact List.mem_cons_self ..
          · exact List.mem_cons_of_mem _ (ih.2 (.inr ⟨h1, h2⟩))
    · rw [if_neg h, List.mem_cons, dropF_mem]

theorem Rises.tail {f : Fl} {d : List Fl} (h : Rises (f :: d)) : Rises d := (List.pairwise_cons.1 h).2
theorem Rises.head {f : Fl} {d : List Fl} (h : Rises (f :: d)) : ∀ g ∈ d, f.name < g.name := (List.pairwise_cons.1 h).1
theorem Rises.drop {d : List Fl} (h : Rises d) (n : By) : Rises (dropF d n) := List.Pairwise.filter _ h
theorem Rises.with {f : Fl} : ∀ {d : List Fl}, Rises d → Rises (withF d f)
  | [], _ => by simp [withF, Rises]
  | x :: d, h => by
    unfold withF
    by_cases hx : x.name < f.name
    · rw [if_pos hx]
      refine List.pairwise_cons.2 ⟨fun g hg => ?_, h.tail.with⟩
      rcases withF_mem.1 hg with rfl | ⟨hg, _⟩
      · exact hx
      · exact h.head g hg
    · rw [if_neg hx]
      refine List.pairwise_cons.2 ⟨fun g hg => ?_, h.drop _⟩
      obtain ⟨hg, hne⟩ := dropF_mem.1 hg
      by_cases hl : f.name < g.name
      · exact hl
      · exfalso
        have hxg : x.name < g.name ∨ g = x := by
          rcases List.mem_cons.1 hg with rfl | hg
          · exact .inr rfl
          · exact .inl (h.head g hg)
        rcases hxg with hxg | rfl
        · by_cases hgf : g.name < f.name
          · exact hx (by_trans hxg hgf)
          · exact hne (by_tri _ _ hgf hl)
        · exact hne (by_tri _ _ hx hl)

/-- In a disk whose names rise a file is known by its name. -/
theorem getF_of {d : List Fl} (h : Rises d) {f : Fl} (hf : f ∈ d) : getF d f.name = f.data ∧ safeF d f.name = f.safe := by
  induction d with
  | nil => cases hf
  | cons x d ih =>
    rcases List.mem_cons.1 hf with rfl | hf
    · simp [getF, safeF]
    · have := by_ne (h.head f hf)
      simp only [getF, safeF, if_neg this]
      exact ih h.tail hf
theorem getF_none {d : List Fl} {n : By} (h : hasF d n = false) : getF d n = [] ∧ safeF d n = 0 := by
  induction d with
  | nil => exact ⟨rfl, rfl⟩
  | cons x d ih =>
    have h' := hasF_no.1 h
    simp only [getF, safeF, if_neg (h' x (List.mem_cons_self ..))]
    exact ih (hasF_no.2 fun f hf => h' f (List.mem_cons_of_mem _ hf))
theorem getF_with {d : List Fl} (h : Rises d) (f : Fl) : getF (withF d f) f.name = f.data ∧ safeF (withF d f) f.name = f.safe := getF_of h.with (withF_mem.2 (.inl rfl))
theorem hasF_with (d : List Fl) (f : Fl) : hasF (withF d f) f.name = true := hasF_iff.2 ⟨f, withF_mem.2 (.inl rfl), rfl⟩
theorem hasF_other {d : List Fl} {f : Fl} {n : By} (hn : n ≠ f.name) : hasF (withF d f) n = hasF d n := by
  rw [Bool.eq_iff_iff, hasF_iff, hasF_iff]
  constructor
  · rintro ⟨g, hg, rfl⟩
    rcases withF_mem.1 hg with rfl | ⟨hg, _⟩
    · exact absurd rfl hn
    · exact ⟨g, hg, rfl⟩
  · rintro ⟨g, hg, rfl⟩
    exact ⟨g, withF_mem.2 (.inr ⟨hg, hn⟩), rfl⟩
theorem getF_other {d : List Fl} (h : Rises d) {f : Fl} {n : By} (hn : n ≠ f.name) : getF (withF d f) n = getF d n ∧ safeF (withF d f) n = safeF d n := by
  by_cases hh : hasF d n = true
  · obtain ⟨g, hg, rfl⟩ := hasF_iff.1 hh
    have a := getF_of h.with (withF_mem.2 (.inr ⟨hg, hn⟩))
    have b := getF_of h hg
    exact ⟨a.1.trans b.1.symm, a.2.trans b.2.symm⟩
  · have hh' : hasF d n = false := by simpa using hh
    have a := getF_none hh'
    have b := getF_none ((hasF_other hn).trans hh' : hasF (withF d f) n = false)
    exact ⟨b.1.trans a.1.symm, b.2.trans a.2.symm⟩
theorem hasF_drop (d : List Fl) (n : By) : hasF (dropF d n) n = false := hasF_no.2 fun _ hf => (dropF_mem.1 hf).2
theorem hasF_drop_other {d : List Fl} {n m : By} (hn : n ≠ m) : hasF (dropF d m) n = hasF d n := by
  rw [Bool.eq_iff_iff, hasF_iff, hasF_iff]
  constructor
  · rintro ⟨g, hg, rfl⟩; exact ⟨g, (dropF_mem.1 hg).1, rfl⟩
  · rintro ⟨g, hg, rfl⟩; exact ⟨g, dropF_mem.2 ⟨hg, hn⟩, rfl⟩
theorem getF_drop_other {d : List Fl} (h : Rises d) {n m : By} (hn : n ≠ m) : getF (dropF d m) n = getF d n := by
  by_cases hh : hasF d n = true
  · obtain ⟨g, hg, rfl⟩ := hasF_iff.1 hh
    exact (getF_of (h.drop m) (dropF_mem.2 ⟨hg, hn⟩)).1.trans (getF_of h hg).1.symm
  · have hh' : hasF d n = false := by simpa using hh
    exact (getF_none ((hasF_drop_other hn).trans hh')).1.trans (getF_none hh').1.symm

theorem dropF_none {d : List Fl} {n : By} (h : hasF d n = false) : dropF d n = d := List.filter_eq_self.2 fun f hf => by simpa using hasF_no.1 h f hf
theorem dropF_len {d : List Fl} (h : Rises d) {n : By} (hh : hasF d n = true) : (dropF d n).length + 1 = d.length := by
  induction d with
  | nil => simp [hasF] at hh
  | cons x d ih =>
    by_cases e : x.name = n
    · have hno : hasF d n = false := hasF_no.2 fun f hf he => by_ne (h.head f hf) (e.trans he.symm)
      have : dropF (x :: d) n = dropF d n := by simp [dropF, e]
      rw [this, dropF_none hno]; rfl
    · have : dropF (x :: d) n = x :: dropF d n := by simp [dropF, e]
      have hh' : hasF d n = true := by simpa [hasF, e] using hh
      rw [this, List.length_cons, List.length_cons, ih h.tail hh']
theorem withF_len : ∀ {d : List Fl} (h : Rises d) (f : Fl), (withF d f).length = if hasF d f.name then d.length else d.length + 1
  | [], _, f => by simp [withF, hasF]
  | x :: d, h, f => by
    unfold withF
    by_cases hx : x.name < f.name
    · have e := by_ne hx
      have : hasF (x :: d) f.name = hasF d f.name := by simp [hasF, e]
      rw [if_pos hx, List.length_cons, withF_len h.tail f, this]
      split <;> simp
    · rw [if_neg hx, List.length_cons]
      by_cases hh : hasF (x :: d) f.name = true
      · rw [if_pos hh, dropF_len h hh]
      · have hh' : hasF (x :: d) f.name = false := by simpa using hh
        rw [if_neg hh, dropF_none hh']

theorem Good.drop {d : List Fl} (h : Good d) (n : By) : Good (dropF d n) :=
  ⟨Nat.le_trans (List.length_filter_le ..) h.len, fun f hf => h.ok f (dropF_mem.1 hf).1, h.ris.drop n⟩
theorem Good.with {d : List Fl} (h : Good d) {f : Fl} (hf : okF f) (hl : hasF d f.name = true ∨ d.length < 40) : Good (withF d f) := by
  refine ⟨?_, fun g hg => ?_, h.ris.with⟩
  · rw [withF_len h.ris]
    have := h.len
    rcases hl with hl | hl
    · rw [if_pos hl]; exact this
    · split <;> omega
  · rcases withF_mem.1 hg with rfl | ⟨hg, _⟩
    · exact hf
    · exact h.ok g hg
theorem Good.nil : Good [] := ⟨by simp, by simp, List.Pairwise.nil⟩
/-- Of a disk that is right: what is asked of a name. -/
theorem Good.get {d : List Fl} (h : Good d) {n : By} (hh : hasF d n = true) : okF ⟨n, getF d n, safeF d n⟩ := by
  obtain ⟨f, hf, rfl⟩ := hasF_iff.1 hh
  obtain ⟨a, b⟩ := getF_of h.ris hf
  rw [a, b]
  exact h.ok f hf
theorem Good.getLen {d : List Fl} (h : Good d) (n : By) : (getF d n).length ≤ 20000 ∧ 0 ≤ safeF d n ∧ safeF d n ≤ (getF d n).length := by
  by_cases hh : hasF d n = true
  · obtain ⟨_, _, a, b, c⟩ := h.get hh; exact ⟨a, b, c⟩
  · obtain ⟨a, b⟩ := getF_none (by simpa using hh : hasF d n = false); rw [a, b]; simp

/-- Putting a file as it is changes nothing. -/
theorem withF_self : ∀ {d : List Fl} (h : Rises d) {f : Fl} (hf : f ∈ d), withF d f = d
  | x :: d, h, f, hf => by
    unfold withF
    rcases List.mem_cons.1 hf with rfl | hf
    · rw [if_neg (by_irrefl _)]
      have hno : hasF d f.name = false := hasF_no.2 fun g hg he => by_ne (h.head g hg) he.symm
      have : dropF (f :: d) f.name = dropF d f.name := by simp [dropF]
      rw [this, dropF_none hno]
    · rw [if_pos (h.head f hf), withF_self h.tail hf]
/-- Two files of one name, one behind the other: the later one. -/
theorem withF_twice : ∀ {d : List Fl} (h : Rises d) {f g : Fl} (e : f.name = g.name), withF (withF d f) g = withF d g
  | [], _, f, g, e => by simp [withF, e, by_irrefl, dropF]
  | x :: d, h, f, g, e => by
    by_cases hx : x.name < f.name
    · have hx' : x.name < g.name := e ▸ hx
      simp only [withF, if_pos hx, if_pos hx', withF_twice h.tail e]
    · have hx' : ¬ x.name < g.name := e ▸ hx
      have h1 : withF (x :: d) f = f :: dropF (x :: d) f.name := by rw [withF, if_neg hx]
      have h2 : withF (x :: d) g = g :: dropF (x :: d) g.name := by rw [withF, if_neg hx']
      rw [h1, h2, withF, if_neg (by rw [e]; exact by_irrefl _)]
      have : dropF (f :: dropF (x :: d) f.name) g.name = dropF (dropF (x :: d) f.name) g.name := by simp [dropF, e]
      rw [this, e, dropF_none (hasF_drop _ _)]

/-! What is done to a disk that is right: (the disk, the error). -/
def putE (d : List Fl) (n b : By) : Int :=
  if n.length < 1 ∨ 16 < n.length then 1
  else if hasF d n = false ∧ d.length = 40 ∨ 20000 < b.length ∨ 20000 < (getF d n).length + b.length then 3 else 0
def putD (d : List Fl) (n b : By) : List Fl := if putE d n b = 0 then withF d ⟨n, getF d n ++ b, safeF d n⟩ else d
def syncE (d : List Fl) (n : By) : Int := if hasF d n then 0 else 4
def syncD (d : List Fl) (n : By) : List Fl := if hasF d n then withF d ⟨n, getF d n, (getF d n).length⟩ else d
def cutE (d : List Fl) (n : By) (k : Int) : Int := if hasF d n then (if k < 0 ∨ (getF d n).length < k then 1 else 0) else 4
def cutD (d : List Fl) (n : By) (k : Int) : List Fl := if cutE d n k = 0 then withF d ⟨n, (getF d n).take k.toNat, k⟩ else d
def dropE (d : List Fl) (n : By) : Int := if hasF d n then 0 else 4
/-- How many bytes of a file a crash leaves. -/
def left (f : Fl) (k : Int) : Nat := min f.data.length (f.safe + max 0 k).toNat
def crF (f : Fl) (k : Int) : Fl := ⟨f.name, f.data.take (left f k), left f k⟩
def crash : List Fl → List Int → List Fl
  | [], _ => []
  | f :: d, [] => crF f 0 :: crash d []
  | f :: d, k :: l => crF f k :: crash d l

theorem putE_ok {d : List Fl} {n b : By} (h : putE d n b = 0) : 1 ≤ n.length ∧ n.length ≤ 16 ∧ (hasF d n = true ∨ d.length ≠ 40) ∧ b.length ≤ 20000 ∧ (getF d n).length + b.length ≤ 20000 := by
  unfold putE at h
  by_cases h1 : n.length < 1 ∨ 16 < n.length
  · rw [if_pos h1] at h; omega
  · rw [if_neg h1] at h
    by_cases h2 : hasF d n = false ∧ d.length = 40 ∨ 20000 < b.length ∨ 20000 < (getF d n).length + b.length
    · rw [if_pos h2] at h; omega
    · refine ⟨by omega, by omega, ?_, by omega, by omega⟩
      by_cases hh : hasF d n = true
      · exact .inl hh
      · right; intro e; exact h2 (.inl ⟨by simpa using hh, e⟩)
theorem putE_of {d : List Fl} {n b : By} (h1 : 1 ≤ n.length) (h2 : n.length ≤ 16) (h3 : hasF d n = true ∨ d.length ≠ 40) (h5 : (getF d n).length + b.length ≤ 20000) : putE d n b = 0 := by
  unfold putE
  rw [if_neg (by omega), if_neg]
  rintro (⟨h, e⟩ | h | h)
  · rcases h3 with h3 | h3
    · rw [h] at h3; cases h3
    · exact h3 e
  · omega
  · omega
theorem Good.put {d : List Fl} (h : Good d) (n b : By) : Good (putD d n b) := by
  unfold putD
  split
  · rename_i e
    obtain ⟨h1, h2, h3, h4, h5⟩ := putE_ok e
    obtain ⟨g1, g2, g3⟩ := h.getLen n
    refine h.with ⟨by simp; omega, h2, by simp; omega, g2, by simp; omega⟩ ?_
    rcases h3 with h3 | h3
    · exact .inl h3
    · have := h.len; exact .inr (by omega)
  · exact h
theorem Good.sync {d : List Fl} (h : Good d) (n : By) : Good (syncD d n) := by
  unfold syncD
  split
  · rename_i e
    obtain ⟨h1, h2, h3, h4, h5⟩ := h.get e
    exact h.with ⟨h1, h2, h3, by simp, by simp⟩ (.inl e)
  · exact h
theorem cutE_ok {d : List Fl} {n : By} {k : Int} (h : cutE d n k = 0) : hasF d n = true ∧ 0 ≤ k ∧ k ≤ (getF d n).length := by
  unfold cutE at h
  by_cases h1 : hasF d n = true
  · rw [if_pos h1] at h
    by_cases h2 : k < 0 ∨ (getF d n).length < k
    · rw [if_pos h2] at h; omega
    · exact ⟨h1, by omega, by omega⟩
  · rw [if_neg h1] at h; omega
theorem Good.cut {d : List Fl} (h : Good d) (n : By) (k : Int) : Good (cutD d n k) := by
  unfold cutD
  split
  · rename_i e
    obtain ⟨h0, h1, h2⟩ := cutE_ok e
    obtain ⟨g1, g2, g3, g4, g5⟩ := h.get h0
    exact h.with ⟨g1, g2, by simp at g3 ⊢; omega, h1, by simp; omega⟩ (.inl h0)
  · exact h

theorem crF_ok {f : Fl} (h : okF f) (k : Int) : okF (crF f k) := by
  obtain ⟨h1, h2, h3, h4, h5⟩ := h
  refine ⟨h1, h2, ?_, ?_, ?_⟩ <;> simp [crF, left] <;> omega
theorem crash_mem : ∀ {d : List Fl} {l : List Int} {g : Fl}, g ∈ crash d l → ∃ f ∈ d, ∃ k, g = crF f k
  | f :: d, [], g, h => by
    rcases List.mem_cons.1 h with rfl | h
    · exact ⟨f, List.mem_cons_self .., 0, rfl⟩
    · obtain ⟨f', h1, k, h2⟩ := crash_mem h; exact ⟨f', List.mem_cons_of_mem _ h1, k, h2⟩
  | f :: d, k :: l, g, h => by
    rcases List.mem_cons.1 h with rfl | h
    · exact ⟨f, List.mem_cons_self .., k, rfl⟩
    · obtain ⟨f', h1, k, h2⟩ := crash_mem h; exact ⟨f', List.mem_cons_of_mem _ h1, k, h2⟩
theorem crash_len : ∀ (d : List Fl) (l : List Int), (crash d l).length = d.length
  | [], _ => by simp [crash]
  | _ :: d, [] => by simp [crash, crash_len d []]
  | _ :: d, _ :: l => by simp [crash, crash_len d l]
/-- The i-th file behind a crash. -/
theorem crash_at : ∀ (d : List Fl) (l : List Int) (i : Nat), (crash d l)[i]? = d[i]?.map fun f => crF f (l[i]?.getD 0)
  | [], _, i => by simp [crash]
  | f :: d, [], 0 => by simp [crash]
  | f :: d, [], i + 1 => by simp [crash, crash_at d [] i]
  | f :: d, k :: l, 0 => by simp [crash]
  | f :: d, k :: l, i + 1 => by simp [crash, crash_at d l i]
theorem Rises.crash : ∀ {d : List Fl} (h : Rises d) (l : List Int), Rises (crash d l)
  | [], _, _ => by simp [Ytdpmlpclhojcjaa.crash, Rises]
  | f :: d, h, l => by
    have key : ∀ k l', Rises (crF f k :: Ytdpmlpclhojcjaa.crash d l') := fun k l' => List.pairwise_cons.2 ⟨fun g hg => by
      obtain ⟨f', hf', k', rfl⟩ := crash_mem hg
      exact h.head f' hf', h.tail.crash l'⟩
    cases l with
    | nil => exact key 0 []
    | cons k l => exact key k l
theorem Good.crash {d : List Fl} (h : Good d) (l : List Int) : Good (crash d l) :=
  ⟨by rw [crash_len]; exact h.len, fun g hg => by obtain ⟨f, hf, k, rfl⟩ := crash_mem hg; exact crF_ok (h.ok f hf) k, h.ris.crash l⟩
/-- What lasts wholly is left as it is. -/
theorem crF_whole {f : Fl} (h : f.safe = f.data.length) (k : Int) : crF f k = f := by
  have : left f k = f.data.length := by unfold left; omega
  unfold crF
  rw [this, List.take_length, ← h]
theorem crF_safe (f : Fl) (k : Int) : (crF f k).safe = ((crF f k).data.length : Int) := by simp [crF, left]
theorem crash_whole : ∀ {d : List Fl} (h : ∀ f ∈ d, f.safe = f.data.length) (l : List Int), crash d l = d
  | [], _, _ => by simp [crash]
  | f :: d, h, [] => by simp only [crash]; rw [crF_whole (h f (List.mem_cons_self ..)), crash_whole fun g hg => h g (List.mem_cons_of_mem _ hg)]
  | f :: d, h, k :: l => by simp only [crash]; rw [crF_whole (h f (List.mem_cons_self ..)), crash_whole fun g hg => h g (List.mem_cons_of_mem _ hg)]
theorem crash_again (d : List Fl) (l m : List Int) : crash (crash d l) m = crash d l :=
  crash_whole (fun g hg => by obtain ⟨f, _, k, rfl⟩ := crash_mem hg; exact crF_safe f k) m
/-- DiskLasts: what was synced is there, with some of what was put behind it. -/
theorem left_in {f : Fl} (h : okF f) (k : Int) : f.safe ≤ (left f k : Int) ∧ left f k ≤ f.data.length := by
  obtain ⟨_, _, _, h4, h5⟩ := h
  unfold left; omega
/-- The crash, byte by byte, as the document has it: byte j of a file stays. -/
theorem left_iff {f : Fl} (h : okF f) (k : Int) (j : Nat) (hj : j < f.data.length) : j < left f k ↔ (j : Int) < f.safe ∨ (j : Int) - f.safe < k := by
  obtain ⟨_, _, _, h4, h5⟩ := h
  unfold left; omega
theorem hasF_crash (d : List Fl) (n : By) : ∀ l, hasF (crash d l) n = hasF d n := by
  induction d with
  | nil => intro l; simp [crash]
  | cons f d ih =>
    intro l
    cases l with
    | nil => simp only [crash, hasF, List.any_cons]; exact congrArg (_ || ·) (ih [])
    | cons k l => simp only [crash, hasF, List.any_cons]; exact congrArg (_ || ·) (ih l)
/-- A file that lasts wholly is there behind any crash. -/
theorem getF_crash {d : List Fl} (h : Rises d) {f : Fl} (hf : f ∈ d) (hs : f.safe = f.data.length) (l : List Int) : getF (crash d l) f.name = f.data := by
  obtain ⟨i, hi, rfl⟩ := List.getElem_of_mem hf
  have e := crash_at d l i
  rw [List.getElem?_eq_getElem hi, Option.map_some, crF_whole hs] at e
  exact (getF_of (h.crash l) (List.mem_of_getElem? e)).1

/-! What the statements ask. -/
/-- DiskBehind: in two parts as in one. -/
theorem put_put {d : List Fl} (h : Good d) {n b c : By} (h1 : putE d n b = 0) (h2 : putE (putD d n b) n c = 0) :
    putE d n (b ++ c) = 0 ∧ putD (putD d n b) n c = putD d n (b ++ c) ∧ getF (putD (putD d n b) n c) n = getF d n ++ b ++ c := by
  obtain ⟨a1, a2, a3, a4, a5⟩ := putE_ok h1
  obtain ⟨b1, b2, b3, b4, b5⟩ := putE_ok h2
  have e1 : putD d n b = withF d ⟨n, getF d n ++ b, safeF d n⟩ := if_pos h1
  obtain ⟨g1, g2⟩ := getF_with h.ris ⟨n, getF d n ++ b, safeF d n⟩
  simp only at g1 g2
  have h3 : putE d n (b ++ c) = 0 := by
    refine putE_of a1 a2 a3 ?_
    rw [e1, g1] at b5
    simp at b5 ⊢
    omega
  have e2 : putD (putD d n b) n c = putD d n (b ++ c) := by
    unfold putD
    rw [if_pos h1, if_pos h3]
    have : putE (withF d ⟨n, getF d n ++ b, safeF d n⟩) n c = 0 := by rw [← e1]; exact h2
    rw [if_pos this, g1, g2, withF_twice (f := ⟨n, getF d n ++ b, safeF d n⟩) (g := ⟨n, getF d n ++ b ++ c, safeF d n⟩) h.ris rfl, List.append_assoc]
  refine ⟨h3, e2, ?_⟩
  rw [e2]
  unfold putD
  rw [if_pos h3, (getF_with h.ris ⟨n, getF d n ++ (b ++ c), safeF d n⟩).1, List.append_assoc]
theorem put_no {d : List Fl} (h : Good d) {n b c : By} (h1 : putE d n b ≠ 0 ∨ putE (putD d n b) n c ≠ 0) : putE d n (b ++ c) ≠ 0 := by
  intro h3
  obtain ⟨a1, a2, a3, a4, a5⟩ := putE_ok h3
  simp at a4 a5
  have hb : putE d n b = 0 := putE_of a1 a2 a3 (by omega)
  rcases h1 with h1 | h1
  · exact h1 hb
  · refine h1 ?_
    have e1 : putD d n b = withF d ⟨n, getF d n ++ b, safeF d n⟩ := if_pos hb
    rw [e1]
    refine putE_of a1 a2 (.inl (hasF_with _ _)) ?_
    rw [(getF_with h.ris ⟨n, getF d n ++ b, safeF d n⟩).1]
    simp; omega
theorem get_put {d : List Fl} (h : Good d) {n b : By} (h1 : putE d n b = 0) : getF (putD d n b) n = getF d n ++ b ∧ hasF (putD d n b) n = true := by
  unfold putD
  rw [if_pos h1]
  exact ⟨(getF_with h.ris ⟨n, getF d n ++ b, safeF d n⟩).1, hasF_with d ⟨n, getF d n ++ b, safeF d n⟩⟩
/-- DiskCutsOff. -/
theorem get_cut {d : List Fl} (h : Good d) {n : By} {k : Int} (h1 : cutE d n k = 0) (l : List Int) :
    getF (cutD d n k) n = (getF d n).take k.toNat ∧ getF (crash (cutD d n k) l) n = (getF d n).take k.toNat := by
  obtain ⟨a1, a2, a3⟩ := cutE_ok h1
  unfold cutD
  rw [if_pos h1]
  refine ⟨(getF_with h.ris ⟨n, _, k⟩).1, ?_⟩
  exact getF_crash h.ris.with (f := ⟨n, (getF d n).take k.toNat, k⟩) (withF_mem.2 (.inl rfl)) (by simp; omega) l
theorem drop_put {d : List Fl} (h : Good d) {n b : By} (hh : hasF d n = true) (hb : b.length ≤ 20000) : putE (dropF d n) n b = 0 ∧ getF (putD (dropF d n) n b) n = b := by
  obtain ⟨h1, h2, _⟩ := h.get hh
  have hn := (getF_none (hasF_drop d n)).1
  have hl := dropF_len h.ris hh
  have := h.len
  have e : putE (dropF d n) n b = 0 := putE_of h1 h2 (.inr (by omega)) (by rw [hn]; simpa using hb)
  refine ⟨e, ?_⟩
  rw [(get_put (h.drop n) e).1, hn]
  rfl
/-- DiskApart: no other file changes. -/
theorem put_other {d : List Fl} (h : Good d) {n b m : By} (hm : m ≠ n) : getF (putD d n b) m = getF d m ∧ hasF (putD d n b) m = hasF d m := by
  unfold putD
  split
  · exact ⟨(getF_other h.ris (f := ⟨n, _, _⟩) hm).1, hasF_other (f := ⟨n, _, _⟩) hm⟩
  · exact ⟨rfl, rfl⟩
theorem sync_other {d : List Fl} (h : Good d) {n m : By} (hm : m ≠ n) : getF (syncD d n) m = getF d m ∧ hasF (syncD d n) m = hasF d m := by
  unfold syncD
  split
  · exact ⟨(getF_other h.ris (f := ⟨n, _, _⟩) hm).1, hasF_other (f := ⟨n, _, _⟩) hm⟩
  · exact ⟨rfl, rfl⟩
theorem cut_other {d : List Fl} (h : Good d) {n m : By} {k : Int} (hm : m ≠ n) : getF (cutD d n k) m = getF d m ∧ hasF (cutD d n k) m = hasF d m := by
  unfold cutD
  split
  · exact ⟨(getF_other h.ris (f := ⟨n, _, _⟩) hm).1, hasF_other (f := ⟨n, _, _⟩) hm⟩
  · exact ⟨rfl, rfl⟩
theorem drop_other {d : List Fl} (h : Good d) {n m : By} (hm : m ≠ n) : getF (dropF d n) m = getF d m ∧ hasF (dropF d n) m = hasF d m := ⟨getF_drop_other h.ris hm, hasF_drop_other hm⟩
end Go.Proofs.Ytdpmlpclhojcjaa
