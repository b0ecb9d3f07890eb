/-
  Plain mathematics of leases: what is 72 n divided by 7, rounded up; how far two clocks go. No condition.
-/
namespace Go.Proofs.Ytgaebjnmcgmkfaa

/-- 72 n / 7, rounded up. -/
def cl (n : Int) : Int := (72 * n + 6) / 7
theorem cl_ge (n : Int) : 72 * n ≤ 7 * cl n := by unfold cl; omega
theorem cl_lt (n : Int) : 7 * cl n < 72 * n + 7 := by unfold cl; omega
theorem cl_uniq {n k : Int} (h : 72 * n ≤ 7 * k) (g : 7 * k < 72 * n + 7) : k = cl n := by unfold cl; omega
theorem cl_pos {n : Int} (h : 1 ≤ n) : 8 * n < cl n ∧ cl n ≤ 14 * n := by unfold cl; omega
theorem cl_mono {n m : Int} : n < m ↔ cl n < cl m := by unfold cl; omega
theorem cl_most {n : Int} (h : n ≤ 1000) : cl n ≤ 10286 := by unfold cl; omega
theorem cl_tdiv {n : Int} (h : 0 ≤ n) : Int.tdiv (72 * n + 6) 7 = cl n := by rw [Int.tdiv_eq_ediv_of_nonneg (by omega)]; rfl
theorem cl_down {n : Int} (h : 0 ≤ n) (g : 7 * Int.tdiv (72 * n) 7 < 72 * n) : Int.tdiv (72 * n) 7 + 1 = cl n := by
  rw [Int.tdiv_eq_ediv_of_nonneg (by omega)] at g ⊢; unfold cl; omega
theorem cl_even {n : Int} (h : 0 ≤ n) (g : ¬ 7 * Int.tdiv (72 * n) 7 < 72 * n) : Int.tdiv (72 * n) 7 = cl n := by
  rw [Int.tdiv_eq_ediv_of_nonneg (by omega)] at g ⊢; unfold cl; omega

/-- What a byte turns to, by the ways of the law's loops. -/
theorem mod_in {b k : Int} (h : 0 ≤ b) (hk : 0 < k) : 0 ≤ Int.tmod b k ∧ Int.tmod b k < k := by
  rw [Int.tmod_eq_emod_of_nonneg h]; exact ⟨Int.emod_nonneg _ (by omega), Int.emod_lt_of_pos _ hk⟩
theorem div_in {b k : Int} (h : 0 ≤ b) : 0 ≤ Int.tdiv b k ∨ k < 0 := by
  by_cases hk : k < 0
  · exact .inr hk
  · rw [Int.tdiv_eq_ediv_of_nonneg h]; exact .inl (Int.ediv_nonneg h (by omega))
theorem third {r : Int} (h : 0 ≤ r) (g : r < 9) : 0 ≤ Int.tmod r 3 ∧ Int.tmod r 3 ≤ 2 ∧ 0 ≤ Int.tdiv r 3 ∧ Int.tdiv r 3 ≤ 2 := by
  rw [Int.tmod_eq_emod_of_nonneg h, Int.tdiv_eq_ediv_of_nonneg h]; omega
theorem ways {b : Int} (h : 0 ≤ b) : 0 ≤ Int.tmod b 3 ∧ Int.tmod b 3 ≤ 2 ∧ 0 ≤ Int.tmod (Int.tdiv b 3) 3 ∧ Int.tmod (Int.tdiv b 3) 3 ≤ 2 := by
  have e : 0 ≤ b / 3 := by omega
  rw [Int.tmod_eq_emod_of_nonneg h, Int.tdiv_eq_ediv_of_nonneg h, Int.tmod_eq_emod_of_nonneg e]; omega

/-- LeaseSafe's clocks behind i ticks: the worker's w, asked at a; the coordinator's c, given at g. -/
structure Tick (a g w c : Int) (i : Nat) : Prop where
  lo : a + 7 * i ≤ w
  up : w ≤ a + 450 + 9 * i
  lc : g ≤ c
  uc : c ≤ g + 9 * i
theorem Tick.step {a g w c x y : Int} {i : Nat} (h : Tick a g w c i) (hx : 0 ≤ x) (gx : x ≤ 2) (hy : 0 ≤ y) (gy : y ≤ 2) : Tick a g (w + 7 + x) (c + 7 + y) (i + 1) := by
  obtain ⟨h1, h2, h3, h4⟩ := h
  constructor <;> omega
theorem Tick.safe {a g w c n : Int} {i : Nat} (h : Tick a g w c i) (hw : w < a + 8 * n) : c < g + cl n := by
  obtain ⟨h1, h2, h3, h4⟩ := h
  have := cl_ge n
  omega

/-- LeaseEnds' clocks behind i ticks. -/
structure Tock (a g w c : Int) (i : Nat) : Prop where
  lo : a + 7 * i ≤ w
  up : w ≤ a + 9 * i
  lc : g + 7 * i ≤ c
  uc : c ≤ g + 9 * i
theorem Tock.step {a g w c x y : Int} {i : Nat} (h : Tock a g w c i) (hx : 0 ≤ x) (gx : x ≤ 2) (hy : 0 ≤ y) (gy : y ≤ 2) : Tock a g (w + 7 + x) (c + 7 + y) (i + 1) := by
  obtain ⟨h1, h2, h3, h4⟩ := h
  constructor <;> omega
theorem Tock.ends {a g w c n : Int} {i : Nat} (h : Tock a g w c i) (hi : (i : Int) = 2 * n) (hn : 1 ≤ n) : ¬ w < a + 8 * n ∧ g + cl n ≤ c := by
  obtain ⟨h1, h2, h3, h4⟩ := h
  have := (cl_pos hn).2
  omega

/-- LeaseRenews' state behind i rounds: the clocks w, c (begun below M); the lease's moments u, f; asked s; given v. -/
structure Renew (M n w c u f s v : Int) (i : Nat) : Prop where
  w0 : 0 ≤ w
  wM : w ≤ M + 9 * i
  c0 : 0 ≤ c
  cM : c ≤ M + 9 * i
  s1 : -1 ≤ s
  sw : s ≤ w
  vs : v ≤ s
  v1 : -1 ≤ v
  non : v < 0 → u = 0
  u0 : 0 ≤ u
  uv : 0 ≤ v → u ≤ v + 8 * n
  fc : 0 ≤ v → 7 * (c - (f - cl n)) ≤ 9 * (w - v)
  f0 : 0 ≤ f
  fM : f ≤ M + 9 * i + cl n
theorem Renew.start {M n w c : Int} (h1 : 0 ≤ w) (h2 : w ≤ M) (h3 : 0 ≤ c) (h4 : c ≤ M) (hn : 1 ≤ n) : Renew M n w c 0 0 (-1) (-1) 0 := by
  have := (cl_pos hn).1
  constructor <;> omega
/-- A tick, before anything is asked. -/
theorem Renew.tick {M n w c u f s v x y : Int} {i : Nat} (h : Renew M n w c u f s v i) (hx : 0 ≤ x) (gx : x ≤ 2) (hy : 0 ≤ y) (gy : y ≤ 2) : Renew M n (w + 7 + x) (c + 7 + y) u f s v (i + 1) := by
  obtain ⟨h1, h2, h3, h4, h5, h6, h7, h8, h9, h10, h11, h12, h13, h14⟩ := h
  constructor <;> omega
theorem Renew.ask {M n w c u f s v : Int} {i : Nat} (h : Renew M n w c u f s v i) : Renew M n w c u f w v i := by
  obtain ⟨h1, h2, h3, h4, h5, h6, h7, h8, h9, h10, h11, h12, h13, h14⟩ := h
  constructor <;> omega
theorem Renew.give {M n w c u f s v : Int} {i : Nat} (h : Renew M n w c u f s v i) (hs : 0 ≤ s) (hn : 1 ≤ n) : Renew M n w c u (c + cl n) s s i := by
  obtain ⟨h1, h2, h3, h4, h5, h6, h7, h8, h9, h10, h11, h12, h13, h14⟩ := h
  have := (cl_pos hn).1
  constructor <;> omega
theorem Renew.take {M n w c u f s v : Int} {i : Nat} (h : Renew M n w c u f s v i) (hv : 0 ≤ v) (hn : 1 ≤ n) : Renew M n w c (v + 8 * n) f s v i := by
  obtain ⟨h1, h2, h3, h4, h5, h6, h7, h8, h9, h10, h11, h12, h13, h14⟩ := h
  constructor <;> omega
theorem Renew.safe {M n w c u f s v : Int} {i : Nat} (h : Renew M n w c u f s v i) (hv : 0 ≤ v) (hw : w < u) : c < f := by
  obtain ⟨h1, h2, h3, h4, h5, h6, h7, h8, h9, h10, h11, h12, h13, h14⟩ := h
  have := cl_ge n
  have := h11 hv
  have := h12 hv
  omega
end Go.Proofs.Ytgaebjnmcgmkfaa
