/-
  What comes in: views and acts, as they read in memory. No condition.
-/
import Derived.Test.YtemcmhpfpfmgdaaRows
import Derived.Test.YtemcmhpfpfmgdaaVw
import Derived.WalkKit
import Derived.ProofKit
import Derived.OpenShut
import Derived.ChangeOld
import Derived.Lay
import Derived.Deep.Slices
import Derived.Deep.Fields
import Derived.Lib.SmallJoins
namespace Go.Proofs.Ytemcmhpfpfmgdaa
open Go.ChangeShapes Go.WideShapes Go.ChangeAt Go.RowKit Go.Deep
set_option linter.unusedVariables false

theorem own : ownKnob Try.prog.godebug = none := by kernel_rfl
theorem laidOut : laidOutB Try.prog = true := by kernel_rfl
abbrev Ac := Int × Int × Int
/-- Acts as cells. -/
def ac (l : List Ac) : List Value := l.flatMap fun m => [.int .i64 m.1, .int .i64 m.2.1, .int .i64 m.2.2]
theorem ac_length (l : List Ac) : (ac l).length = l.length * 3 := by
  unfold ac
  induction l with
  | nil => rfl
  | cons e r ih => simp only [List.flatMap_cons, List.length_append, ih, List.length_cons, List.length_nil]; omega
def aAt (l : List Ac) (k : Nat) : Ac := l.getD k (0, 0, 0)
theorem aAt_get (l : List Ac) (k : Nat) (h : k < l.length) : aAt l k = l[k] := by unfold aAt; rw [List.getD_eq_getElem?_getD, List.getElem?_eq_getElem h]; rfl
theorem aAt_mem (l : List Ac) (k : Nat) (h : k < l.length) : aAt l k ∈ l := by rw [aAt_get l k h]; exact List.getElem_mem h
theorem ac_at (l : List Ac) (k : Nat) (h : k < l.length) : (ac l)[k * 3]? = some (.int .i64 (aAt l k).1) ∧ (ac l)[k * 3 + 1]? = some (.int .i64 (aAt l k).2.1) ∧ (ac l)[k * 3 + 2]? = some (.int .i64 (aAt l k).2.2) := by
  induction l generalizing k with
  | nil => simp at h
  | cons e r ih =>
    cases k with
    | zero => simp [ac, aAt]
    | succ k =>
      have := ih k (by simpa using h)
      have e1 : (k + 1) * 3 = k * 3 + 3 := by omega
      have e2 : k * 3 + 3 + 1 = k * 3 + 1 + 3 := by omega
      have e3 : k * 3 + 3 + 2 = k * 3 + 2 + 3 := by omega
      rw [e1, e2, e3]
      exact this
theorem Lies.ac {w : World} {B : Nat} {A : Option Addr} {n : Nat} {l : List Ac} (h : Lies w B 3 A n (ac l)) (k : Nat) (hk : k < l.length) :
    ∃ ad, A = some ad ∧ ad.block < B ∧ w.cell? (ad.add (k * 3)) = some (.int .i64 (aAt l k).1) ∧ w.cell? ⟨(ad.add (k * 3)).block, (ad.add (k * 3)).off + 1, none⟩ = some (.int .i64 (aAt l k).2.1) ∧ w.cell? ⟨(ad.add (k * 3)).block, (ad.add (k * 3)).off + 2, none⟩ = some (.int .i64 (aAt l k).2.2) := by
  obtain ⟨a0, a1, a2⟩ := ac_at l k hk
  obtain ⟨ad, e, hb, c0⟩ := h.2 _ _ a0
  obtain ⟨ad1, e1, _, c1⟩ := h.2 _ _ a1
  obtain ⟨ad2, e2, _, c2⟩ := h.2 _ _ a2
  rw [e] at e1 e2
  injection e1 with e1
  injection e2 with e2
  subst e1 e2
  rw [← add_add] at c1 c2
  exact ⟨ad, e, hb, c0, c1, c2⟩
section
variable {H : Type} {enc : TypeId × Value → H} {W : World} {base : Nat} {spare : Nat → Bool} {held : Bool}

set_option maxRecDepth 100000 in
/-- A member in memory. -/
theorem member_cells {fuel : Nat} {cs : List Value} {x : DataW H × List MemPlace} (h : DataW.trod enc Try.prog W base spare held fuel 59 cs = some x) : ∃ e : Mb, cs = [.int .i64 e.1, .int .i64 e.2] := by
  obtain ⟨xs, n, _, _, hl, _, hf⟩ := DataW.trod_struct Try.underlying59 h
  have c3 : Try.prog.cellsOf 3 = 1 := by kernel_rfl
  have c59 : Try.prog.cellsOf 59 = 2 := by kernel_rfl
  rw [c59] at hl
  match cs, hl with
  | [a, b], _ =>
    have h0 := hf 0 _ rfl
    have h1 := hf 1 _ rfl
    simp [c3] at h0 h1
    have g : ∀ (i : Nat) (t : TypeId) (v : Value), Try.prog.underlying t = some (.int .i64) → xs.length = 2 → i < 2 → DataW.trod enc Try.prog W base spare held n t [v] = xs[i]? → ∃ z : Int, v = .int .i64 z := fun i t v ht hx hi he => by
      rw [List.getElem?_eq_getElem (by omega)] at he
      obtain ⟨z, hz, _⟩ := DataW.trod_int ht he
      exact ⟨z, by simpa using hz⟩
    have hx2 : xs.length = 2 := by assumption
    obtain ⟨x, rfl⟩ := g 0 3 a Try.underlying3 hx2 (by decide) h0
    obtain ⟨y, rfl⟩ := g 1 3 b Try.underlying3 hx2 (by decide) h1
    exact ⟨(x, y), rfl⟩
set_option maxRecDepth 100000 in
/-- An act in memory. -/
theorem act_cells {fuel : Nat} {cs : List Value} {x : DataW H × List MemPlace} (h : DataW.trod enc Try.prog W base spare held fuel 37 cs = some x) : ∃ e : Ac, cs = [.int .i64 e.1, .int .i64 e.2.1, .int .i64 e.2.2] ∧ (Lit.int .i64 e.2.1).wf = true := by
  obtain ⟨xs, n, _, _, hl, _, hf⟩ := DataW.trod_struct Try.underlying37 h
  have c3 : Try.prog.cellsOf 3 = 1 := by kernel_rfl
  have c37 : Try.prog.cellsOf 37 = 3 := by kernel_rfl
  rw [c37] at hl
  match cs, hl with
  | [a, b, c], _ =>
    have h0 := hf 0 _ rfl
    have h1 := hf 1 _ rfl
    have h2 := hf 2 _ rfl
    simp [c3] at h0 h1 h2
    have g : ∀ (i : Nat) (t : TypeId) (v : Value), Try.prog.underlying t = some (.int .i64) → xs.length = 3 → i < 3 → DataW.trod enc Try.prog W base spare held n t [v] = xs[i]? → ∃ z : Int, v = .int .i64 z ∧ (Lit.int .i64 z).wf = true := fun i t v ht hx hi he => by
      rw [List.getElem?_eq_getElem (by omega)] at he
      obtain ⟨z, hz, _, hw⟩ := DataW.trod_int ht he
      exact ⟨z, by simpa using hz, hw⟩
    have hx3 : xs.length = 3 := by assumption
    obtain ⟨x, rfl, _⟩ := g 0 3 a Try.underlying3 hx3 (by decide) h0
    obtain ⟨y, rfl, hw⟩ := g 1 3 b Try.underlying3 hx3 (by decide) h1
    obtain ⟨z, rfl, _⟩ := g 2 3 c Try.underlying3 hx3 (by decide) h2
    exact ⟨(x, y, z), rfl, hw⟩
set_option maxRecDepth 100000 in
/-- Members that came in. -/
theorem members_in {fuel : Nat} {v : Value} {x : DataW H × List MemPlace} (h : DataW.trod enc Try.prog W base spare held fuel 22 [v] = some x) :
    ∃ (A : Option Addr) (c : Nat) (ms : List Mb), v = .slice A ms.length c ∧ Lies W W.heap.size 2 A ms.length (mc ms) ∧ ms.length ≤ maxLen := by
  rcases open_slice Try.underlying22 h with ⟨hc, _⟩ | ⟨a, len, cap, m, n, D, Pl, hc, _, hl, hm, hmm, _, hi⟩
  · have : v = .slice none 0 0 := by simpa using hc
    exact ⟨none, 0, [], this, Lies.nil, Nat.zero_le _⟩
  · have hv : v = .slice (some a) len cap := by simpa using hc
    have c59 : Try.prog.cellsOf 59 = 2 := by kernel_rfl
    rw [c59] at hi
    have hlm : len ≤ m := by rw [hmm]; split <;> omega
    have hex : ∀ i : Nat, ∃ e : Mb, (i < len → W.cell? (a.add (i * 2)) = some (.int .i64 e.1) ∧ W.cell? (a.add (i * 2 + 1)) = some (.int .i64 e.2)) := fun i => by
      by_cases hil : i < len
      · obtain ⟨cs', h1, h2⟩ := hi i (by omega)
        obtain ⟨e, rfl⟩ := member_cells h2
        obtain ⟨_, _, hat⟩ := World.cells?_some h1
        refine ⟨e, fun _ => ⟨?_, ?_⟩⟩
        · have := hat 0 (by decide); rw [Ytemcmhpfpfmgdaa.add_zero] at this; simpa using this
        · have := hat 1 (by decide); rw [Ytemcmhpfpfmgdaa.add_add] at this; simpa using this
      · exact ⟨(0, 0), fun h => absurd h hil⟩
    obtain ⟨f, hf⟩ := Classical.axiomOfChoice hex
    have hfl : ((List.range len).map f).length = len := by simp
    refine ⟨some a, cap, (List.range len).map f, by rw [hfl]; exact hv, ?_, by rw [hfl]; omega⟩
    rw [hfl]
    refine ⟨by rw [mc_length, hfl], fun j u hj => ⟨a, rfl, ?_, ?_⟩⟩
    · have hjl : j < len * 2 := by have := (List.getElem?_eq_some_iff.1 hj).1; rw [mc_length, hfl] at this; exact this
      have := ((hf 0) (by omega)).1
      have h2 := World.block_lt_of_cell? W _ this
      rwa [block_add] at h2
    · have hjl : j < len * 2 := by have := (List.getElem?_eq_some_iff.1 hj).1; rw [mc_length, hfl] at this; exact this
      have hi3 : j / 2 < len := by omega
      obtain ⟨a0, a1⟩ := mc_at ((List.range len).map f) (j / 2) (by rw [hfl]; exact hi3)
      have hfe : mAt ((List.range len).map f) (j / 2) = f (j / 2) := by simp [mAt, hi3]
      rw [hfe] at a0 a1
      obtain ⟨b0, b1⟩ := (hf (j / 2)) hi3
      rcases (by omega : j = j / 2 * 2 ∨ j = j / 2 * 2 + 1) with e | e
      · rw [e] at hj ⊢; rw [a0] at hj; rw [b0]; exact hj
      · rw [e] at hj ⊢; rw [a1] at hj; rw [b1]; exact hj
set_option maxRecDepth 100000 in
/-- Acts that came in. -/
theorem acts_in {fuel : Nat} {v : Value} {x : DataW H × List MemPlace} (h : DataW.trod enc Try.prog W base spare held fuel 25 [v] = some x) :
    ∃ (A : Option Addr) (c : Nat) (ms : List Ac), v = .slice A ms.length c ∧ Lies W W.heap.size 3 A ms.length (ac ms) ∧ ms.length ≤ maxLen ∧ ∀ a ∈ ms, (Lit.int .i64 a.2.1).wf = true := by
  rcases open_slice Try.underlying25 h with ⟨hc, _⟩ | ⟨a, len, cap, m, n, D, Pl, hc, _, hl, hm, hmm, _, hi⟩
  · have : v = .slice none 0 0 := by simpa using hc
    exact ⟨none, 0, [], this, Lies.nil, Nat.zero_le _, fun a ha => by cases ha⟩
  · have hv : v = .slice (some a) len cap := by simpa using hc
    have c37 : Try.prog.cellsOf 37 = 3 := by kernel_rfl
    rw [c37] at hi
    have hlm : len ≤ m := by rw [hmm]; split <;> omega
    have hex : ∀ i : Nat, ∃ e : Ac, (Lit.int .i64 e.2.1).wf = true ∧ (i < len → W.cell? (a.add (i * 3)) = some (.int .i64 e.1) ∧ W.cell? (a.add (i * 3 + 1)) = some (.int .i64 e.2.1) ∧ W.cell? (a.add (i * 3 + 2)) = some (.int .i64 e.2.2)) := fun i => by
      by_cases hil : i < len
      · obtain ⟨cs', h1, h2⟩ := hi i (by omega)
        obtain ⟨e, rfl, hw⟩ := act_cells h2
        obtain ⟨_, _, hat⟩ := World.cells?_some h1
        refine ⟨e, hw, fun _ => ⟨?_, ?_, ?_⟩⟩
        · have := hat 0 (by decide); rw [Ytemcmhpfpfmgdaa.add_zero] at this; simpa using this
        · have := hat 1 (by decide); rw [Ytemcmhpfpfmgdaa.add_add] at this; simpa using this
        · have := hat 2 (by decide); rw [Ytemcmhpfpfmgdaa.add_add] at this; simpa using this
      · exact ⟨(0, 0, 0), by decide, fun h => absurd h hil⟩
    obtain ⟨f, hf⟩ := Classical.axiomOfChoice hex
    have hfl : ((List.range len).map f).length = len := by simp
    refine ⟨some a, cap, (List.range len).map f, by rw [hfl]; exact hv, ?_, by rw [hfl]; omega, fun b hb => by obtain ⟨i, _, rfl⟩ := List.mem_map.1 hb; exact (hf i).1⟩
    rw [hfl]
    refine ⟨by rw [ac_length, hfl], fun j u hj => ⟨a, rfl, ?_, ?_⟩⟩
    · have hjl : j < len * 3 := by have := (List.getElem?_eq_some_iff.1 hj).1; rw [ac_length, hfl] at this; exact this
      have := ((hf 0).2 (by omega)).1
      have h2 := World.block_lt_of_cell? W _ this
      rwa [block_add] at h2
    · have hjl : j < len * 3 := by have := (List.getElem?_eq_some_iff.1 hj).1; rw [ac_length, hfl] at this; exact this
      have hi3 : j / 3 < len := by omega
      obtain ⟨a0, a1, a2⟩ := ac_at ((List.range len).map f) (j / 3) (by rw [hfl]; exact hi3)
      have hfe : aAt ((List.range len).map f) (j / 3) = f (j / 3) := by simp [aAt, hi3]
      rw [hfe] at a0 a1 a2
      obtain ⟨b0, b1, b2⟩ := (hf (j / 3)).2 hi3
      rcases (by omega : j = j / 3 * 3 ∨ j = j / 3 * 3 + 1 ∨ j = j / 3 * 3 + 2) with e | e | e
      · rw [e] at hj ⊢; rw [a0] at hj; rw [b0]; exact hj
      · rw [e] at hj ⊢; rw [a1] at hj; rw [b1]; exact hj
      · rw [e] at hj ⊢; rw [a2] at hj; rw [b2]; exact hj
set_option maxRecDepth 100000 in
/-- A view that came in. -/
theorem view_in {b0 : Nat} {v : Value} {d : DataW H} {p : List MemPlace} (hv : Value.okWide Try.prog W .any b0 24 v) (h : DataW.Trod enc Try.prog W base spare held 24 v d p) :
    ∃ (N : Int) (A : Option Addr) (c : Nat) (ms : List Mb), v = .agg #[.int .i64 N, .slice A ms.length c] ∧ (Lit.int .i64 N).wf = true ∧ Lies W W.heap.size 2 A ms.length (mc ms) ∧ ms.length ≤ maxLen := by
  obtain ⟨v0, v1, y0, y1, k, rfl, _, _, h0, h1⟩ := Go.Joins.open_agg2 Try.underlying24 (by kernel_rfl) (by kernel_rfl) hv h
  obtain ⟨z, hz, _, hw⟩ := DataW.trod_int Try.underlying3 h0
  obtain rfl : v0 = .int .i64 z := by simpa using hz
  obtain ⟨A, c, ms, rfl, h2, h3⟩ := members_in h1
  exact ⟨z, A, c, ms, rfl, hw, h2, h3⟩
end
end Go.Proofs.Ytemcmhpfpfmgdaa
