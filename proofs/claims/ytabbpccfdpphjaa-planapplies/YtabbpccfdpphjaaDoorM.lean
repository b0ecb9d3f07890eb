/-
  What comes in: moves, as they read in memory. No condition.
-/
import Derived.Test.YtabbpccfdpphjaaDoor
import Derived.Test.YtabbpccfdpphjaaPlB
import Derived.Lay
import Derived.Deep.Slices
import Derived.Deep.Fields
import Derived.Lib.SmallJoins
namespace Go.Proofs.Ytabbpccfdpphjaa
open Go.ChangeShapes Go.WideShapes Go.ChangeAt Go.RowKit Go.Deep
set_option linter.unusedVariables false

section
variable {H : Type} {enc : TypeId × Value → H} {W : World} {base : Nat} {spare : Nat → Bool} {held : Bool}

set_option maxRecDepth 100000 in
/-- A move in memory. -/
theorem move_cells {fuel : Nat} {cs : List Value} {x : DataW H × List MemPlace} (h : DataW.trod enc Try.prog W base spare held fuel 35 cs = some x) : ∃ e : Mv, cs = [.int .i64 e.1, .int .i64 e.2.1, .int .i64 e.2.2] := by
  obtain ⟨xs, n, _, _, hl, _, hf⟩ := DataW.trod_struct Try.underlying35 h
  have c3 : Try.prog.cellsOf 3 = 1 := by kernel_rfl
  have c35 : Try.prog.cellsOf 35 = 3 := by kernel_rfl
  rw [c35] at hl
  match cs, hl with
  | [a, b, c], _ =>
    have h0 := hf 0 _ rfl
    have h1 := hf 1 _ rfl
    have h2 := hf 2 _ rfl
    simp [c3] at h0 h1 h2
    have g : ∀ (i : Nat) (t : TypeId) (v : Value), Try.prog.underlying t = some (.int .i64) → xs.length = 3 → i < 3 → DataW.trod enc Try.prog W base spare held n t [v] = xs[i]? → ∃ z : Int, v = .int .i64 z := fun i t v ht hx hi he => by
      rw [List.getElem?_eq_getElem (by omega)] at he
      obtain ⟨z, hz, _, hw⟩ := DataW.trod_int ht he
      exact ⟨z, by simpa using hz⟩
    have hx3 : xs.length = 3 := by assumption
    obtain ⟨x, rfl⟩ := g 0 3 a Try.underlying3 hx3 (by decide) h0
    obtain ⟨y, rfl⟩ := g 1 3 b Try.underlying3 hx3 (by decide) h1
    obtain ⟨z, rfl⟩ := g 2 3 c Try.underlying3 hx3 (by decide) h2
    exact ⟨(x, y, z), rfl⟩

set_option maxRecDepth 100000 in
/-- Moves that came in. -/
theorem moves_in {fuel : Nat} {v : Value} {x : DataW H × List MemPlace} (h : DataW.trod enc Try.prog W base spare held fuel 25 [v] = some x) :
    ∃ (A : Option Addr) (c : Nat) (ms : List Mv), v = .slice A ms.length c ∧ Lies W W.heap.size 3 A ms.length (mc ms) ∧ ms.length ≤ maxLen := by
  rcases open_slice Try.underlying25 h with ⟨hc, _⟩ | ⟨a, len, cap, m, n, D, Pl, hc, _, hl, hm, hmm, _, hi⟩
  · have : v = .slice none 0 0 := by simpa using hc
    exact ⟨none, 0, [], this, Lies.nil, Nat.zero_le _⟩
  · have hv : v = .slice (some a) len cap := by simpa using hc
    have c35 : Try.prog.cellsOf 35 = 3 := by kernel_rfl
    rw [c35] at hi
    have hlm : len ≤ m := by rw [hmm]; split <;> omega
    have hex : ∀ i : Nat, ∃ e : Mv, (i < len → W.cell? (a.add (i * 3)) = some (.int .i64 e.1) ∧ W.cell? (a.add (i * 3 + 1)) = some (.int .i64 e.2.1) ∧ W.cell? (a.add (i * 3 + 2)) = some (.int .i64 e.2.2)) := fun i => by
      by_cases hil : i < len
      · obtain ⟨cs', h1, h2⟩ := hi i (by omega)
        obtain ⟨e, rfl⟩ := move_cells h2
        obtain ⟨_, _, hat⟩ := World.cells?_some h1
        refine ⟨e, fun _ => ⟨?_, ?_, ?_⟩⟩
        · have := hat 0 (by decide); rw [Ytabbpccfdpphjaa.add_zero] at this; simpa using this
        · have := hat 1 (by decide); rw [Ytabbpccfdpphjaa.add_add] at this; simpa using this
        · have := hat 2 (by decide); rw [Ytabbpccfdpphjaa.add_add] at this; simpa using this
      · exact ⟨(0, 0, 0), fun h => absurd h hil⟩
    obtain ⟨f, hf⟩ := Classical.axiomOfChoice hex
    have hfl : ((List.range len).map f).length = len := by simp
    refine ⟨some a, cap, (List.range len).map f, by rw [hfl]; exact hv, ?_, by rw [hfl]; omega⟩
    rw [hfl]
    refine ⟨by rw [mc_length, hfl], fun j u hj => ⟨a, rfl, ?_, ?_⟩⟩
    · have hjl : j < len * 3 := by have := (List.getElem?_eq_some_iff.1 hj).1; rw [mc_length, hfl] at this; exact this
      have := ((hf 0) (by omega)).1
      have h2 := World.block_lt_of_cell? W _ this
      rwa [block_add] at h2
    · have hjl : j < len * 3 := by have := (List.getElem?_eq_some_iff.1 hj).1; rw [mc_length, hfl] at this; exact this
      have hi3 : j / 3 < len := by omega
      obtain ⟨a0, a1, a2⟩ := mc_at ((List.range len).map f) (j / 3) (by rw [hfl]; exact hi3)
      have hfe : mAt ((List.range len).map f) (j / 3) = f (j / 3) := by simp [mAt, hi3]
      rw [hfe] at a0 a1 a2
      obtain ⟨b0, b1, b2⟩ := (hf (j / 3)) hi3
      rcases (by omega : j = j / 3 * 3 ∨ j = j / 3 * 3 + 1 ∨ j = j / 3 * 3 + 2) with e | e | e
      · rw [e] at hj ⊢; rw [a0] at hj; rw [b0]; exact hj
      · rw [e] at hj ⊢; rw [a1] at hj; rw [b1]; exact hj
      · rw [e] at hj ⊢; rw [a2] at hj; rw [b2]; exact hj
end
end Go.Proofs.Ytabbpccfdpphjaa
