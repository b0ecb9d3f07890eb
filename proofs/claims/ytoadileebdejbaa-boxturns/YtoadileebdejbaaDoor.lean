/-
  What comes in: messages and lists of them, as they read in memory. No condition.
-/
import Derived.Test.YtoadileebdejbaaRows
import Derived.Test.YtoadileebdejbaaKnA
import Derived.WalkKit
import Derived.ProofKit
import Derived.OpenShut
import Derived.ChangeOld
import Derived.Lay
import Derived.Deep.Slices
import Derived.Deep.Fields
import Derived.Lib.SmallJoins
namespace Go.Proofs.Ytoadileebdejbaa
open Go.ChangeShapes Go.WideShapes Go.ChangeAt Go.RowKit Go.Deep
set_option linter.unusedVariables false

theorem own : ownKnob Try.prog.godebug = none := by kernel_rfl
theorem laidOut : laidOutB Try.prog = true := by kernel_rfl

section
variable {H : Type} {enc : TypeId × Value → H} {W : World} {base : Nat} {spare : Nat → Bool} {held : Bool}

set_option maxRecDepth 100000 in
/-- A message in memory. -/
theorem msg_cells {fuel : Nat} {cs : List Value} {x : DataW H × List MemPlace} (h : DataW.trod enc Try.prog W base spare held fuel 40 cs = some x) : ∃ e : Ms, cs = [.int .i64 e.1, .int .i64 e.2] ∧ bd e.2 := by
  obtain ⟨xs, n, _, _, hl, _, hf⟩ := DataW.trod_struct Try.underlying40 h
  have c3 : Try.prog.cellsOf 3 = 1 := by kernel_rfl
  have c2 : Try.prog.cellsOf 2 = 1 := by kernel_rfl
  have c40 : Try.prog.cellsOf 40 = 2 := by kernel_rfl
  rw [c40] at hl
  match cs, hl with
  | [a, b], _ =>
    have h0 := hf 0 _ rfl
    have h1 := hf 1 _ rfl
    simp [c3, c2] at h0 h1
    have g : ∀ (i : Nat) (t : TypeId) (v : Value), Try.prog.underlying t = some (.int .i64) → xs.length = 2 → i < 2 → DataW.trod enc Try.prog W base spare held n t [v] = xs[i]? → ∃ z : Int, v = .int .i64 z ∧ bd z := fun i t v ht hx hi he => by
      rw [List.getElem?_eq_getElem (by omega)] at he
      obtain ⟨z, hz, _, hw⟩ := DataW.trod_int ht he
      exact ⟨z, by simpa using hz, bounds_i64 hw⟩
    have hx2 : xs.length = 2 := by assumption
    obtain ⟨x, rfl, _⟩ := g 0 3 a Try.underlying3 hx2 (by decide) h0
    obtain ⟨y, rfl, hy⟩ := g 1 2 b Try.underlying2 hx2 (by decide) h1
    exact ⟨(x, y), rfl, hy⟩

set_option maxRecDepth 100000 in
/-- Messages that came in. -/
theorem msgs_in {fuel : Nat} {v : Value} {x : DataW H × List MemPlace} (h : DataW.trod enc Try.prog W base spare held fuel 22 [v] = some x) :
    ∃ (A : Option Addr) (n c : Nat) (ms : List Ms), v = .slice A n c ∧ Lies W W.heap.size 2 A n (mc ms) ∧ n ≤ c ∧ n ≤ maxLen ∧ ∀ e ∈ ms, bd e.2 := by
  rcases open_slice Try.underlying22 h with ⟨hc, _⟩ | ⟨a, len, cap, m, n, D, Pl, hc, _, hl, hm, hmm, _, hi⟩
  · have : v = .slice none 0 0 := by simpa using hc
    exact ⟨none, 0, 0, [], this, Lies.nil, Nat.le_refl _, Nat.zero_le _, fun e he => by cases he⟩
  · have hv : v = .slice (some a) len cap := by simpa using hc
    have c40 : Try.prog.cellsOf 40 = 2 := by kernel_rfl
    rw [c40] at hi
    have hlm : len ≤ m := by rw [hmm]; split <;> omega
    have hex : ∀ i : Nat, ∃ e : Ms, bd e.2 ∧ (i < len → W.cell? (a.add (i * 2)) = some (.int .i64 e.1) ∧ W.cell? (a.add (i * 2 + 1)) = some (.int .i64 e.2)) := fun i => by
      by_cases hil : i < len
      · obtain ⟨cs', h1, h2⟩ := hi i (by omega)
        obtain ⟨e, rfl, hb⟩ := msg_cells h2
        obtain ⟨_, _, hat⟩ := World.cells?_some h1
        refine ⟨e, hb, fun _ => ⟨?_, ?_⟩⟩
        · have := hat 0 (by decide); rw [Ytoadileebdejbaa.add_zero] at this; simpa using this
        · have := hat 1 (by decide); rw [Ytoadileebdejbaa.add_add] at this; simpa using this
      · exact ⟨(0, 0), ⟨by decide, by decide⟩, fun h => absurd h hil⟩
    obtain ⟨f, hf⟩ := Classical.axiomOfChoice hex
    have hfl : ((List.range len).map f).length = len := by simp
    refine ⟨some a, len, cap, (List.range len).map f, hv, ⟨by rw [mc_length, hfl], fun j u hj => ⟨a, rfl, ?_, ?_⟩⟩, hl, by omega, fun e he => ?_⟩
    · have hjl : j < len * 2 := by have := (List.getElem?_eq_some_iff.1 hj).1; rw [mc_length, hfl] at this; exact this
      have := ((hf 0).2 (by omega)).1
      have h2 := World.block_lt_of_cell? W _ this
      rwa [block_add] at h2
    · have hjl : j < len * 2 := by have := (List.getElem?_eq_some_iff.1 hj).1; rw [mc_length, hfl] at this; exact this
      have hi3 : j / 2 < len := by omega
      obtain ⟨a0, a1⟩ := mc_at ((List.range len).map f) (j / 2) (by rw [hfl]; exact hi3)
      have hfe : mAt ((List.range len).map f) (j / 2) = f (j / 2) := by simp [mAt, hi3]
      rw [hfe] at a0 a1
      obtain ⟨b0, b1⟩ := (hf (j / 2)).2 hi3
      rcases (by omega : j = j / 2 * 2 ∨ j = j / 2 * 2 + 1) with e | e
      · rw [e] at hj ⊢; rw [a0] at hj; rw [b0]; exact hj
      · rw [e] at hj ⊢; rw [a1] at hj; rw [b1]; exact hj
    · obtain ⟨i, _, rfl⟩ := List.mem_map.1 he
      exact (hf i).1

set_option maxRecDepth 100000 in
/-- Lists of messages that came in. -/
theorem lists_in {fuel : Nat} {v : Value} {x : DataW H × List MemPlace} (h : DataW.trod enc Try.prog W base spare held fuel 27 [v] = some x) :
    ∃ (A : Option Addr) (n c : Nat) (ls : List Ls), v = .slice A n c ∧ LL W W.heap.size A n ls ∧ n ≤ c ∧ n ≤ maxLen := by
  rcases open_slice Try.underlying27 h with ⟨hc, _⟩ | ⟨a, len, cap, m, n, D, Pl, hc, _, hl, hm, hmm, _, hi⟩
  · have : v = .slice none 0 0 := by simpa using hc
    exact ⟨none, 0, 0, [], this, ⟨Lies.nil, fun x hx => by cases hx⟩, Nat.le_refl _, Nat.zero_le _⟩
  · have hv : v = .slice (some a) len cap := by simpa using hc
    have c22 : Try.prog.cellsOf 22 = 1 := by kernel_rfl
    rw [c22] at hi
    have hlm : len ≤ m := by rw [hmm]; split <;> omega
    have hex : ∀ i : Nat, ∃ e : Ls, Lies W W.heap.size 2 e.1 e.2.1 (mc e.2.2.2) ∧ (i < len → W.cell? (a.add i) = some (.slice e.1 e.2.1 e.2.2.1)) := fun i => by
      by_cases hil : i < len
      · obtain ⟨cs', h1, h2⟩ := hi i (by omega)
        obtain ⟨_, hsz, hat⟩ := World.cells?_some h1
        rw [Nat.mul_one] at hat
        match cs', hsz with
        | [u], _ =>
          obtain ⟨A, k, c, ms, rfl, hL, _⟩ := msgs_in h2
          refine ⟨(A, k, c, ms), hL, fun _ => ?_⟩
          have := hat 0 (by decide); rw [Ytoadileebdejbaa.add_zero] at this; simpa using this
      · exact ⟨noL, Lies.nil, fun h => absurd h hil⟩
    obtain ⟨f, hf⟩ := Classical.axiomOfChoice hex
    refine ⟨some a, len, cap, (List.range len).map f, hv, ⟨⟨by simp [lc], fun j u hj => ⟨a, rfl, ?_, ?_⟩⟩, fun x hx => ?_⟩, hl, by omega⟩
    · have hjl : j < len := by have := (List.getElem?_eq_some_iff.1 hj).1; simpa [lc] using this
      have := (hf 0).2 (by omega)
      have h2 := World.block_lt_of_cell? W _ this
      rwa [block_add] at h2
    · have hjl : j < len := by have := (List.getElem?_eq_some_iff.1 hj).1; simpa [lc] using this
      rw [(hf j).2 hjl]
      unfold lc at hj
      simp [hjl] at hj
      rw [hj]
    · obtain ⟨i, _, rfl⟩ := List.mem_map.1 hx
      exact (hf i).1
end

end Go.Proofs.Ytoadileebdejbaa
