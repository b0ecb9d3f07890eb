/-
  What comes in: a graph, a job, a turn that is asked for, as they read in memory. No condition.
-/
import Derived.Test.YtielmlcgdolgkaaRows
import Derived.Test.YtielmlcgdolgkaaLawA
import Derived.WalkKit
import Derived.ProofKit
import Derived.OpenShut
import Derived.ChangeOld
import Derived.Lay
import Derived.Deep.Slices
import Derived.Deep.Fields
import Derived.Lib.SmallJoins
namespace Go.Proofs.Ytielmlcgdolgkaa
open Go.ChangeShapes Go.WideShapes Go.ChangeAt Go.RowKit Go.Deep
set_option linter.unusedVariables false

theorem own : ownKnob Try.prog.godebug = none := by kernel_rfl
theorem laidOut : laidOutB Try.prog = true := by kernel_rfl

section
variable {H : Type} {enc : TypeId × Value → H} {W : World} {base : Nat} {spare : Nat → Bool} {held : Bool}

set_option maxRecDepth 100000 in
/-- An edge in memory. -/
theorem edge_cells {fuel : Nat} {cs : List Value} {x : DataW H × List MemPlace} (h : DataW.trod enc Try.prog W base spare held fuel 56 cs = some x) : ∃ e : Ed, cs = [.int .i64 e.1, .int .i64 e.2.1, .int .i64 e.2.2] := by
  obtain ⟨xs, n, _, _, hl, _, hf⟩ := DataW.trod_struct Try.underlying56 h
  have c3 : Try.prog.cellsOf 3 = 1 := by kernel_rfl
  have c2 : Try.prog.cellsOf 2 = 1 := by kernel_rfl
  have c56 : Try.prog.cellsOf 56 = 3 := by kernel_rfl
  rw [c56] at hl
  match cs, hl with
  | [a, b, c], _ =>
    have h0 := hf 0 _ rfl
    have h1 := hf 1 _ rfl
    have h2 := hf 2 _ rfl
    simp [c3, c2] at h0 h1 h2
    have g : ∀ (i : Nat) (t : TypeId) (v : Value), Try.prog.underlying t = some (.int .i64) → xs.length = 3 → i < 3 → DataW.trod enc Try.prog W base spare held n t [v] = xs[i]? → ∃ z : Int, v = .int .i64 z := fun i t v ht hx hi he => by
      rw [List.getElem?_eq_getElem (by omega)] at he
      obtain ⟨z, hz, _⟩ := DataW.trod_int ht he
      exact ⟨z, by simpa using hz⟩
    have hx3 : xs.length = 3 := by assumption
    obtain ⟨x, rfl⟩ := g 0 3 a Try.underlying3 hx3 (by decide) h0
    obtain ⟨y, rfl⟩ := g 1 3 b Try.underlying3 hx3 (by decide) h1
    obtain ⟨z, rfl⟩ := g 2 2 c Try.underlying2 hx3 (by decide) h2
    exact ⟨(x, y, z), rfl⟩

set_option maxRecDepth 100000 in
/-- A list of edges that came in. -/
theorem edges_in {fuel : Nat} {v : Value} {x : DataW H × List MemPlace} (h : DataW.trod enc Try.prog W base spare held fuel 22 [v] = some x) :
    ∃ (A : Option Addr) (n c : Nat) (es : List Ed), v = .slice A n c ∧ Lies W W.heap.size 3 A n (ec es) ∧ n ≤ c ∧ n ≤ maxLen := by
  rcases open_slice Try.underlying22 h with ⟨hc, _⟩ | ⟨a, len, cap, m, n, D, Pl, hc, _, hl, hm, hmm, _, hi⟩
  · have : v = .slice none 0 0 := by simpa using hc
    exact ⟨none, 0, 0, [], this, Lies.nil, Nat.le_refl _, Nat.zero_le _⟩
  · have hv : v = .slice (some a) len cap := by simpa using hc
    have c56 : Try.prog.cellsOf 56 = 3 := by kernel_rfl
    rw [c56] at hi
    have hlm : len ≤ m := by rw [hmm]; split <;> omega
    have hex : ∀ i : Nat, ∃ e : Ed, i < len → W.cell? (a.add (i * 3)) = some (.int .i64 e.1) ∧ W.cell? (a.add (i * 3 + 1)) = some (.int .i64 e.2.1) ∧ W.cell? (a.add (i * 3 + 2)) = some (.int .i64 e.2.2) := fun i => by
      by_cases hil : i < len
      · obtain ⟨cs', h1, h2⟩ := hi i (by omega)
        obtain ⟨e, rfl⟩ := edge_cells h2
        obtain ⟨_, _, hat⟩ := World.cells?_some h1
        refine ⟨e, fun _ => ⟨?_, ?_, ?_⟩⟩
        · have := hat 0 (by decide); rw [add_zero] at this; simpa using this
        · have := hat 1 (by decide); rw [Ytielmlcgdolgkaa.add_add] at this; simpa using this
        · have := hat 2 (by decide); rw [Ytielmlcgdolgkaa.add_add] at this; simpa using this
      · exact ⟨noEd, fun h => absurd h hil⟩
    obtain ⟨f, hf⟩ := Classical.axiomOfChoice hex
    have hfl : ((List.range len).map f).length = len := by simp
    refine ⟨some a, len, cap, (List.range len).map f, hv, ⟨by rw [ec_length, hfl], fun j u hj => ⟨a, rfl, ?_, ?_⟩⟩, hl, by omega⟩
    · have hjl : j < len * 3 := by have := (List.getElem?_eq_some_iff.1 hj).1; rw [ec_length, hfl] at this; exact this
      have := (hf 0 (by omega)).1
      have h2 := World.block_lt_of_cell? W _ this
      rwa [block_add] at h2
    · have hjl : j < len * 3 := by have := (List.getElem?_eq_some_iff.1 hj).1; rw [ec_length, hfl] at this; exact this
      have hi3 : j / 3 < len := by omega
      obtain ⟨a0, a1, a2⟩ := ec_at ((List.range len).map f) (j / 3) (by rw [hfl]; exact hi3)
      have hfe : eAt ((List.range len).map f) (j / 3) = f (j / 3) := by simp [eAt, hi3]
      rw [hfe] at a0 a1 a2
      obtain ⟨b0, b1, b2⟩ := hf (j / 3) hi3
      rcases (by omega : j = j / 3 * 3 ∨ j = j / 3 * 3 + 1 ∨ j = j / 3 * 3 + 2) with e | e | e
      · rw [e] at hj ⊢; rw [a0] at hj; rw [b0]; exact hj
      · rw [e] at hj ⊢; rw [a1] at hj; rw [b1]; exact hj
      · rw [e] at hj ⊢; rw [a2] at hj; rw [b2]; exact hj

set_option maxRecDepth 100000 in
/-- A graph that came in. -/
theorem graph_in {b0 : Nat} {v : Value} {d : DataW H} {p : List MemPlace} (hv : Value.okWide Try.prog W .any b0 24 v) (h : DataW.Trod enc Try.prog W base spare held 24 v d p) :
    ∃ (N : Int) (A : Option Addr) (n c : Nat) (es : List Ed), v = .agg #[.int .i64 N, .slice A n c] ∧ Lies W W.heap.size 3 A n (ec es) ∧ n ≤ c ∧ n ≤ maxLen := by
  obtain ⟨v0, v1, y0, y1, k, rfl, _, _, h0, h1⟩ := Go.Joins.open_agg2 Try.underlying24 (by kernel_rfl) (by kernel_rfl) hv h
  obtain ⟨z, hz, _⟩ := DataW.trod_int Try.underlying3 h0
  obtain rfl : v0 = .int .i64 z := by simpa using hz
  obtain ⟨A, n, c, es, rfl, h2, h3, h4⟩ := edges_in h1
  exact ⟨z, A, n, c, es, rfl, h2, h3, h4⟩

set_option maxRecDepth 100000 in
/-- A job that came in. -/
theorem job_in {b0 : Nat} {v : Value} {d : DataW H} {p : List MemPlace} (hv : Value.okWide Try.prog W .any b0 26 v) (h : DataW.Trod enc Try.prog W base spare held 26 v d p) :
    ∃ p s l q : Int, v = .agg #[.int .i64 p, .int .i64 s, .int .i64 l, .int .i64 q] := by
  obtain ⟨v0, v1, v2, v3, y0, y1, y2, y3, k, rfl, _, _, h0, h1, h2, h3⟩ := Go.Joins.open_agg4 Try.underlying26 (by kernel_rfl) (by kernel_rfl) hv h
  obtain ⟨z0, e0, _⟩ := DataW.trod_int Try.underlying3 h0
  obtain ⟨z1, e1, _⟩ := DataW.trod_int Try.underlying3 h1
  obtain ⟨z2, e2, _⟩ := DataW.trod_int Try.underlying3 h2
  obtain ⟨z3, e3, _⟩ := DataW.trod_int Try.underlying3 h3
  obtain rfl : v0 = .int .i64 z0 := by simpa using e0
  obtain rfl : v1 = .int .i64 z1 := by simpa using e1
  obtain rfl : v2 = .int .i64 z2 := by simpa using e2
  obtain rfl : v3 = .int .i64 z3 := by simpa using e3
  exact ⟨z0, z1, z2, z3, rfl⟩

theorem array5 {cs : Array Value} (h : cs.size = 5) : ∃ a b c d e, cs = #[a, b, c, d, e] := by
  obtain ⟨l⟩ := cs
  match l, h with
  | [a, b, c, d, e], _ => exact ⟨a, b, c, d, e, rfl⟩

set_option maxRecDepth 100000 in
/-- A turn that is asked for. -/
theorem asked_in {b0 : Nat} {v : Value} {d : DataW H} {p : List MemPlace} (hv : Value.okWide Try.prog W .any b0 43 v) (h : DataW.Trod enc Try.prog W base spare held 43 v d p) :
    ∃ (st u val got : Int) (sm : Bool), v = .agg #[.int .i64 st, .int .i64 u, .int .i64 val, .int .i64 got, .bool sm] ∧ bd val ∧ bd got := by
  obtain ⟨cs, rfl, hsz⟩ := okWide_struct Try.underlying43 hv
  have c43 : Try.prog.cellsOf 43 = 5 := by kernel_rfl
  have c3 : Try.prog.cellsOf 3 = 1 := by kernel_rfl
  have c2 : Try.prog.cellsOf 2 = 1 := by kernel_rfl
  have c4 : Try.prog.cellsOf 4 = 1 := by kernel_rfl
  obtain ⟨a, b, c, e, f, rfl⟩ := array5 (hsz.trans c43)
  obtain ⟨fuel, hf⟩ := h
  obtain ⟨xs, n, _, _, _, hlen, hx⟩ := DataW.trod_struct Try.underlying43 hf
  have hx5 : xs.length = 5 := hlen
  have h0 := hx 0 _ rfl
  have h1 := hx 1 _ rfl
  have h2 := hx 2 _ rfl
  have h3 := hx 3 _ rfl
  have h4 := hx 4 _ rfl
  simp [Value.cells, c3, c2, c4] at h0 h1 h2 h3 h4
  have g : ∀ (i : Nat) (t : TypeId) (v : Value), Try.prog.underlying t = some (.int .i64) → i < 5 → DataW.trod enc Try.prog W base spare held n t [v] = xs[i]? → ∃ z : Int, v = .int .i64 z ∧ bd z := fun i t v ht hi he => by
    rw [List.getElem?_eq_getElem (by omega)] at he
    obtain ⟨z, hz, _, hw⟩ := DataW.trod_int ht he
    exact ⟨z, by simpa using hz, bounds_i64 hw⟩
  obtain ⟨st, rfl, _⟩ := g 0 3 a Try.underlying3 (by decide) h0
  obtain ⟨u, rfl, _⟩ := g 1 3 b Try.underlying3 (by decide) h1
  obtain ⟨val, rfl, b2⟩ := g 2 2 c Try.underlying2 (by decide) h2
  obtain ⟨got, rfl, b3⟩ := g 3 2 e Try.underlying2 (by decide) h3
  rw [List.getElem?_eq_getElem (by omega)] at h4
  obtain ⟨sm, e4, _⟩ := DataW.trod_bool Try.underlying4 h4
  obtain rfl : f = .bool sm := by simpa using e4
  exact ⟨st, u, val, got, sm, rfl, b2, b3⟩
end

end Go.Proofs.Ytielmlcgdolgkaa
