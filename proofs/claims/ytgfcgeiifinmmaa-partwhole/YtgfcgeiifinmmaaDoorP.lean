/-
  What comes in: a partition, a list of partitions, as they read in memory; whether they are broad. No condition.
-/
import Derived.Test.YtgfcgeiifinmmaaDoor
import Derived.Test.YtgfcgeiifinmmaaPtE
namespace Go.Proofs.Ytgfcgeiifinmmaa
open Go.ChangeShapes Go.WideShapes Go.ChangeAt Go.RowKit Go.Deep
set_option linter.unusedVariables false

section
variable {H : Type} {enc : TypeId × Value → H} {W : World} {base : Nat} {spare : Nat → Bool} {held : Bool}
/-- A partition that came in. -/
def PeI (W : World) (e : Pe) : Prop := StI W e.S e.A1 e.c1 e.A2 e.c2 e.A3 e.c3
set_option maxRecDepth 100000 in
theorem part_cells {fuel : Nat} {cs : List Value} {x : DataW H × List MemPlace} (h : DataW.trod enc Try.prog W base spare held fuel 36 cs = some x) : ∃ e : Pe, cs = e.cells ∧ PeI W e := by
  obtain ⟨xs, n, _, _, hl, _, hf⟩ := DataW.trod_struct Try.underlying36 h
  have c3 : Try.prog.cellsOf 3 = 1 := by kernel_rfl
  have c32 : Try.prog.cellsOf 32 = 1 := by kernel_rfl
  have c33 : Try.prog.cellsOf 33 = 1 := by kernel_rfl
  have c34 : Try.prog.cellsOf 34 = 1 := by kernel_rfl
  have c36 : Try.prog.cellsOf 36 = 5 := by kernel_rfl
  rw [c36] at hl
  match cs, hl with
  | [a, b, c, d, e], _ =>
    have h0 := hf 0 _ rfl
    have h1 := hf 1 _ rfl
    have h2 := hf 2 _ rfl
    have h3 := hf 3 _ rfl
    have h4 := hf 4 _ rfl
    simp [c3, c32, c33, c34] at h0 h1 h2 h3 h4
    have hx5 : xs.length = 5 := by assumption
    rw [List.getElem?_eq_getElem (by omega)] at h0 h1 h2 h3 h4
    obtain ⟨z0, e0, _, w0⟩ := DataW.trod_int Try.underlying3 h0
    obtain rfl : a = .int .i64 z0 := by simpa using e0
    obtain ⟨z1, e1, _, w1⟩ := DataW.trod_int Try.underlying3 h1
    obtain rfl : b = .int .i64 z1 := by simpa using e1
    obtain ⟨A1, c1, vs, rfl, l1, m1, b1⟩ := vals_in h2
    obtain ⟨A2, c2, rs, rfl, l2, m2⟩ := rests_in h3
    obtain ⟨A3, n3, c3, ms, rfl, l3, m3, _, b3⟩ := msgs_in h4
    obtain rfl := l3.ms_len
    exact ⟨⟨z0, ⟨z1, vs, rs, ms⟩, A1, c1, A2, c2, A3, c3⟩, rfl, ⟨bounds_i64 w1, l1, l2, l3, m1, m2, m3, b1, b3⟩⟩
set_option maxRecDepth 100000 in
theorem part_in {b0 : Nat} {v : Value} {d : DataW H} {p : List MemPlace} (hv : Value.okWide Try.prog W .any b0 36 v) (h : DataW.Trod enc Try.prog W base spare held 36 v d p) :
    ∃ e : Pe, v = .agg #[.int .i64 e.P, .int .i64 e.S.step, .slice e.A1 e.S.vals.length e.c1, .slice e.A2 e.S.rest.length e.c2, .slice e.A3 e.S.inn.length e.c3] ∧ PeI W e := by
  obtain ⟨cs, rfl, hsz⟩ := okWide_struct Try.underlying36 hv
  have c36 : Try.prog.cellsOf 36 = 5 := by kernel_rfl
  rw [c36] at hsz
  obtain ⟨fuel, hf⟩ := h
  have hf' : DataW.trod enc Try.prog W base spare held fuel 36 cs.toList = some (d, p) := by simpa [Value.cells] using hf
  obtain ⟨e, he, hi⟩ := part_cells hf'
  refine ⟨e, ?_, hi⟩
  have : cs = e.cells.toArray := by rw [← he]
  rw [this]; rfl
/-- A list of partitions that came in. -/
structure PlI (W : World) (A : Option Addr) (c : Nat) (ls : List Pe) : Prop where
  L : Lies W W.heap.size 5 A ls.length (pc ls)
  cc : ls.length ≤ c
  ml : ls.length ≤ maxLen
  el : ∀ e ∈ ls, PeI W e
set_option maxRecDepth 100000 in
theorem parts_in {fuel : Nat} {v : Value} {x : DataW H × List MemPlace} (h : DataW.trod enc Try.prog W base spare held fuel 42 [v] = some x) :
    ∃ (A : Option Addr) (c : Nat) (ls : List Pe), v = .slice A ls.length c ∧ PlI W A c ls := by
  rcases open_slice Try.underlying42 h with ⟨hc, _⟩ | ⟨a, len, cap, m, n, D, Pl, hc, _, hl, hm, hmm, _, hi⟩
  · have : v = .slice none 0 0 := by simpa using hc
    exact ⟨none, 0, [], this, ⟨Lies.nil, Nat.le_refl _, Nat.zero_le _, fun e he => by cases he⟩⟩
  · have hv : v = .slice (some a) len cap := by simpa using hc
    have c57 : Try.prog.cellsOf 36 = 5 := by kernel_rfl
    rw [c57] at hi
    have hlm : len ≤ m := by rw [hmm]; split <;> omega
    have hno : PeI W noPe := ⟨⟨by decide, by decide⟩, Lies.nil, Lies.nil, Lies.nil, Nat.le_refl _, Nat.le_refl _, Nat.le_refl _, fun _ h => by simp [noPe, noSt] at h, fun _ h => by simp [noPe, noSt] at h⟩
    have hex : ∀ i : Nat, ∃ e : Pe, PeI W e ∧ (i < len → ∀ j (h : j < 5), W.cell? (a.add (i * 5 + j)) = e.cells[j]?) := fun i => by
      by_cases hil : i < len
      · obtain ⟨cs', h1, h2⟩ := hi i (by omega)
        obtain ⟨e, rfl, hb⟩ := part_cells h2
        obtain ⟨_, _, hat⟩ := World.cells?_some h1
        refine ⟨e, hb, fun _ j hj => ?_⟩
        have := hat j (by simpa [Pe.cells] using hj)
        rw [Ytgfcgeiifinmmaa.add_add] at this
        rw [this]
      · exact ⟨noPe, hno, fun h => absurd h hil⟩
    obtain ⟨f, hf⟩ := Classical.axiomOfChoice hex
    have hfl : ((List.range len).map f).length = len := by simp
    refine ⟨some a, cap, (List.range len).map f, by rw [hfl]; exact hv, ⟨⟨by rw [pc_len], fun j u hj => ⟨a, rfl, ?_, ?_⟩⟩, by rw [hfl]; exact hl, by rw [hfl]; omega, fun e he => ?_⟩⟩
    · have hjl : j < len * 5 := by have := (List.getElem?_eq_some_iff.1 hj).1; rw [pc_len, hfl] at this; exact this
      have h0 := (hf 0).2 (by omega) 0 (by decide)
      have h2 := World.block_lt_of_cell? W (a.add (0 * 5 + 0)) (h0.trans rfl)
      rwa [block_add] at h2
    · have hjl : j < len * 5 := by have := (List.getElem?_eq_some_iff.1 hj).1; rw [pc_len, hfl] at this; exact this
      have hi3 : j / 5 < len := by omega
      obtain ⟨a0, a1, a2, a3, a4⟩ := pc_at ((List.range len).map f) (j / 5) (by rw [hfl]; exact hi3)
      have hfe : ((List.range len).map f)[j / 5]'(by rw [hfl]; exact hi3) = f (j / 5) := by simp
      rw [hfe] at a0 a1 a2 a3 a4
      have hc := (hf (j / 5)).2 hi3
      have hj5 : j % 5 < 5 := Nat.mod_lt _ (by decide)
      have e : j = j / 5 * 5 + j % 5 := by omega
      have hcj := hc (j % 5) hj5
      rw [← e] at hcj
      rw [hcj, ← hj]
      clear hcj hj hc hfe
      generalize j / 5 = t at *
      rcases (by omega : j % 5 = 0 ∨ j % 5 = 1 ∨ j % 5 = 2 ∨ j % 5 = 3 ∨ j % 5 = 4) with h | h | h | h | h
      · rw [h] at e ⊢; rw [e]; exact a0.symm
      · rw [h] at e ⊢; rw [e]; exact a1.symm
      · rw [h] at e ⊢; rw [e]; exact a2.symm
      · rw [h] at e ⊢; rw [e]; exact a3.symm
      · rw [h] at e ⊢; rw [e]; exact a4.symm
    · obtain ⟨i, _, rfl⟩ := List.mem_map.1 he
      exact (hf i).1
end
set_option maxHeartbeats 1000000 in
theorem broad_any (P : Int) (S : St) (A1 : Option Addr) (c1 : Nat) (A2 : Option Addr) (c2 : Nat) (A3 : Option Addr) (c3 : Nat) (w : World) :
    Calls Try.prog 15 #[.agg #[.int .i64 P, .int .i64 S.step, .slice A1 S.vals.length c1, .slice A2 S.rest.length c2, .slice A3 S.inn.length c3]] w fun e w' => e = .returned (.bool (wideB S)) ∧ Below w.heap.size w w' := by
  have HB := Lib.hid (below_alloc w (.cells #[.int .i64 P, .int .i64 S.step, .slice A1 S.vals.length c1, .slice A2 S.rest.length c2, .slice A3 S.inn.length c3] 36))
  by_cases h1 : 100 < S.vals.length
  · have HW := Lib.hid (show wideB S = true by unfold wideB; rw [decide_eq_true h1]; rfl)
    have h1' : (100 : Int) < (S.vals.length : Int) := by omega
    go_enter Try.func15, Try.ntmps15
    go_wp2_with fail
    go_ret
    exact ⟨ret_bool HW.out.symm, HB.out⟩
  · have h1' : ¬ (100 : Int) < (S.vals.length : Int) := by omega
    by_cases h2 : 100 < S.rest.length
    · have HW := Lib.hid (show wideB S = true by unfold wideB; rw [decide_eq_true h2]; simp)
      have h2' : (100 : Int) < (S.rest.length : Int) := by omega
      go_enter Try.func15, Try.ntmps15
      go_wp2_with fail
      go_ret
      exact ⟨ret_bool HW.out.symm, HB.out⟩
    · have h2' : ¬ (100 : Int) < (S.rest.length : Int) := by omega
      by_cases h3 : 300 < S.inn.length
      · have HW := Lib.hid (show wideB S = true by unfold wideB; rw [decide_eq_true h3]; simp)
        have h3' : (300 : Int) < (S.inn.length : Int) := by omega
        go_enter Try.func15, Try.ntmps15
        go_wp2_with fail
        go_ret
        exact ⟨ret_bool HW.out.symm, HB.out⟩
      · have HW := Lib.hid (show wideB S = false by unfold wideB; rw [decide_eq_false h1, decide_eq_false h2, decide_eq_false h3]; rfl)
        have h3' : ¬ (300 : Int) < (S.inn.length : Int) := by omega
        go_enter Try.func15, Try.ntmps15
        go_wp2_with fail
        go_ret
        exact ⟨ret_bool HW.out.symm, HB.out⟩
end Go.Proofs.Ytgfcgeiifinmmaa
