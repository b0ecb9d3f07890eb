/-
  What comes in: a graph as it reads in memory; Go's own table out of the rows' list of laid variables. No condition.
-/
import Derived.Test.YtcjghomjjnaddaaDoorRows
import Derived.Test.YtcjghomjjnaddaaDoorTie
import Derived.Test.YtcjghomjjnaddaaDoorCards
import Derived.Test.YtcjghomjjnaddaaDoorWalksG
import Derived.WalkKit
import Derived.ProofKit
import Derived.OpenShut
import Derived.ShutString
import Derived.ChangeOld
import Derived.Lib.LaidTab
import Derived.Lay
import Derived.Deep.Slices
import Derived.Deep.Fields
namespace Go.Proofs.YtcjghomjjnaddaaDoor
open Go.ChangeShapes Go.WideShapes Go.ChangeAt Go.RowKit Go.Deep
set_option linter.unusedVariables false

theorem own : ownKnob Tryd.prog.godebug = none := by kernel_rfl
theorem laidOut : laidOutB Tryd.prog = true := by kernel_rfl

/-- The rows' list. -/
def laidL : List (String × DataW Unit) := [("math/bits.deBruijn32tab", Rows.laid_math_bits_deBruijn32tab), ("math/bits.deBruijn64tab", Rows.laid_math_bits_deBruijn64tab), ("internal/strconv.uint64pow10", Rows.laid_internal_strconv_uint64pow10), ("unicode/utf8.acceptRanges", Rows.laid_unicode_utf8_acceptRanges), ("unicode/utf8.first", Rows.laid_unicode_utf8_first)]

theorem pow_is : (Rows.laid_internal_strconv_uint64pow10 : DataW Unit) = Lib.tabData .u64 Lib.pow10Tab := by kernel_rfl

theorem gr_of_laid {W : World} (h : laidMetH Tryd.prog laidL W) : Gr W := by
  rw [MakeChecks.laidMetH_plain _ _ _ (by kernel_rfl)] at h
  obtain ⟨ps, ⟨g0, t0, cs0, f0, p0, q0, _, _, _, _, ⟨g1, t1, cs1, f1, p1, q1, _, _, _, _, ⟨g2, t2, cs2, f2, p2, q2, hg, ht, hv, hd, _⟩, _⟩, _⟩, _⟩ := h
  have e1 : Tryd.prog.globalNamed "internal/strconv.uint64pow10" = some 0 := by kernel_rfl
  have e2 : (Tryd.prog.globals[0]?).map (·.type) = some 92 := by kernel_rfl
  obtain rfl := Option.some.inj (e1.symm.trans hg)
  obtain rfl := Option.some.inj (e2.symm.trans ht)
  rw [pow_is] at hd
  unfold Gr Lib.TabIs
  rw [hv, ← Lib.cells_of_tab Tryd.underlying92 Tryd.underlying80 (by kernel_rfl) (by kernel_rfl) hd]

section
variable {H : Type} {enc : TypeId × Value → H} {W : World} {base : Nat} {spare : Nat → Bool} {held : Bool}

set_option maxRecDepth 100000 in
/-- An edge in memory. -/
theorem edge_cells {fuel : Nat} {cs : List Value} {x : DataW H × List MemPlace} (h : DataW.trod enc Tryd.prog W base spare held fuel 42 cs = some x) : ∃ e : Ed, cs = [.int .i64 e.1, .int .i64 e.2.1, .int .i64 e.2.2] := by
  obtain ⟨xs, n, _, _, hl, _, hf⟩ := DataW.trod_struct Tryd.underlying42 h
  have c3 : Tryd.prog.cellsOf 3 = 1 := by kernel_rfl
  have c2 : Tryd.prog.cellsOf 2 = 1 := by kernel_rfl
  have c42 : Tryd.prog.cellsOf 42 = 3 := by kernel_rfl
  rw [c42] at hl
  match cs, hl with
  | [a, b, c], _ =>
    have h0 := hf 0 _ rfl
    have h1 := hf 1 _ rfl
    have h2 := hf 2 _ rfl
    simp [c3, c2] at h0 h1 h2
    have g : ∀ (i : Nat) (t : TypeId) (v : Value), Tryd.prog.underlying t = some (.int .i64) → xs.length = 3 → i < 3 → DataW.trod enc Tryd.prog W base spare held n t [v] = xs[i]? → ∃ z : Int, v = .int .i64 z := fun i t v ht hx hi he => by
      rw [List.getElem?_eq_getElem (by omega)] at he
      obtain ⟨z, hz, _⟩ := DataW.trod_int ht he
      exact ⟨z, by simpa using hz⟩
    have hx3 : xs.length = 3 := by assumption
    obtain ⟨x, rfl⟩ := g 0 3 a Tryd.underlying3 hx3 (by decide) h0
    obtain ⟨y, rfl⟩ := g 1 3 b Tryd.underlying3 hx3 (by decide) h1
    obtain ⟨z, rfl⟩ := g 2 2 c Tryd.underlying2 hx3 (by decide) h2
    exact ⟨(x, y, z), rfl⟩

set_option maxRecDepth 100000 in
/-- A list of edges that came in. -/
theorem edges_in {fuel : Nat} {v : Value} {x : DataW H × List MemPlace} (h : DataW.trod enc Tryd.prog W base spare held fuel 22 [v] = some x) :
    ∃ (A : Option Addr) (n c : Nat) (es : List Ed), v = .slice A n c ∧ Lies W W.heap.size 3 A n (ec es) ∧ n ≤ c ∧ n ≤ maxLen := by
  rcases open_slice Tryd.underlying22 h with ⟨hc, _⟩ | ⟨a, len, cap, m, n, D, Pl, hc, _, hl, hm, hmm, _, hi⟩
  · have : v = .slice none 0 0 := by simpa using hc
    exact ⟨none, 0, 0, [], this, Lies.nil, Nat.le_refl _, Nat.zero_le _⟩
  · have hv : v = .slice (some a) len cap := by simpa using hc
    have c42 : Tryd.prog.cellsOf 42 = 3 := by kernel_rfl
    rw [c42] at hi
    have hlm : len ≤ m := by rw [hmm]; split <;> omega
    have hex : ∀ i : Nat, ∃ e : Ed, i < len → W.cell? (a.add (i * 3)) = some (.int .i64 e.1) ∧ W.cell? (a.add (i * 3 + 1)) = some (.int .i64 e.2.1) ∧ W.cell? (a.add (i * 3 + 2)) = some (.int .i64 e.2.2) := fun i => by
      by_cases hil : i < len
      · obtain ⟨cs', h1, h2⟩ := hi i (by omega)
        obtain ⟨e, rfl⟩ := edge_cells h2
        obtain ⟨_, _, hat⟩ := World.cells?_some h1
        refine ⟨e, fun _ => ⟨?_, ?_, ?_⟩⟩
        · have := hat 0 (by decide); rw [add_zero] at this; simpa using this
        · have := hat 1 (by decide); rw [YtcjghomjjnaddaaDoor.add_add] at this; simpa using this
        · have := hat 2 (by decide); rw [YtcjghomjjnaddaaDoor.add_add] at this; simpa using this
      · exact ⟨noEd, fun h => absurd h hil⟩
    obtain ⟨f, hf⟩ := Classical.axiomOfChoice hex
    have hfl : ((List.range len).map f).length = len := by simp
    refine ⟨some a, len, cap, (List.range len).map f, hv, ⟨by rw [ec_length, hfl], fun j u hj => ⟨a, rfl, ?_, ?_⟩⟩, hl, by omega⟩
    · have hjl : j < len * 3 := by have := (List.getElem?_eq_some_iff.1 hj).1; rw [ec_length, hfl] at this; exact this
      have := (hf 0 (by omega)).1
      have h2 := World.block_lt_of_cell? W _ this
      rwa [block_add] at h2
    · have hjl : j < len * 3 := by have := (List.getElem?_eq_some_iff.1 hj).1; rw [ec_length, hfl] at this; exact this
      have hi3 : j / 3 < len := by omega
      obtain ⟨a0, a1, a2⟩ := ec_at ((List.range len).map f) (j / 3) (by rw [hfl]; exact hi3)
      have hfe : eAt ((List.range len).map f) (j / 3) = f (j / 3) := by simp [eAt, hi3]
      rw [hfe] at a0 a1 a2
      obtain ⟨b0, b1, b2⟩ := hf (j / 3) hi3
      rcases (by omega : j = j / 3 * 3 ∨ j = j / 3 * 3 + 1 ∨ j = j / 3 * 3 + 2) with e | e | e
      · rw [e] at hj ⊢; rw [a0] at hj; rw [b0]; exact hj
      · rw [e] at hj ⊢; rw [a1] at hj; rw [b1]; exact hj
      · rw [e] at hj ⊢; rw [a2] at hj; rw [b2]; exact hj

set_option maxRecDepth 100000 in
/-- A graph that came in. -/
theorem graph_in {b0 : Nat} {v : Value} {d : DataW H} {p : List MemPlace} (hv : Value.okWide Tryd.prog W .any b0 24 v) (h : DataW.Trod enc Tryd.prog W base spare held 24 v d p) :
    ∃ (N : Int) (A : Option Addr) (n c : Nat) (es : List Ed), v = .agg #[.int .i64 N, .slice A n c] ∧ Lies W W.heap.size 3 A n (ec es) ∧ n ≤ c ∧ n ≤ maxLen := by
  obtain ⟨v0, v1, y0, y1, k, rfl, _, _, h0, h1⟩ := Go.Joins.open_agg2 Tryd.underlying24 (by kernel_rfl) (by kernel_rfl) hv h
  obtain ⟨z, hz, _⟩ := DataW.trod_int Tryd.underlying3 h0
  obtain rfl : v0 = .int .i64 z := by simpa using hz
  obtain ⟨A, n, c, es, rfl, h2, h3, h4⟩ := edges_in h1
  exact ⟨z, A, n, c, es, rfl, h2, h3, h4⟩
end

end Go.Proofs.YtcjghomjjnaddaaDoor
