import Derived.Test.YtpgdddjjjfkneaaGreatDoorRows
import Derived.Test.YtpgdddjjjfkneaaGreatDoorKu
import Derived.WalkKit
import Derived.ProofKit
import Derived.OpenShut
import Derived.ChangeOld
import Derived.Lay
import Derived.Deep.Slices
import Derived.Deep.Fields
import Derived.Lib.SmallJoins
import Derived.Test.YtpgdddjjjfkneaaGreatDoorPtE
/-
  What comes in: a graph, a job, a state, as they read in memory. No condition.
-/
namespace Go.Proofs.YtpgdddjjjfkneaaGreatDoor
open Go.ChangeShapes Go.WideShapes Go.ChangeAt Go.RowKit Go.Deep
set_option linter.unusedVariables false

theorem own : ownKnob Tryz.prog.godebug = none := by kernel_rfl
theorem laidOut : laidOutB Tryz.prog = true := by kernel_rfl
section
variable {H : Type} {enc : TypeId × Value → H} {W : World} {base : Nat} {spare : Nat → Bool} {held : Bool}

set_option maxRecDepth 100000 in
/-- An edge in memory. -/
theorem edge_cells {fuel : Nat} {cs : List Value} {x : DataW H × List MemPlace} (h : DataW.trod enc Tryz.prog W base spare held fuel 80 cs = some x) : ∃ e : Ed, cs = [.int .i64 e.1, .int .i64 e.2.1, .int .i64 e.2.2] := by
  obtain ⟨xs, n, _, _, hl, _, hf⟩ := DataW.trod_struct Tryz.underlying80 h
  have c3 : Tryz.prog.cellsOf 3 = 1 := by kernel_rfl
  have c2 : Tryz.prog.cellsOf 2 = 1 := by kernel_rfl
  have c54 : Tryz.prog.cellsOf 80 = 3 := by kernel_rfl
  rw [c54] at hl
  match cs, hl with
  | [a, b, c], _ =>
    have h0 := hf 0 _ rfl
    have h1 := hf 1 _ rfl
    have h2 := hf 2 _ rfl
    simp [c3, c2] at h0 h1 h2
    have g : ∀ (i : Nat) (t : TypeId) (v : Value), Tryz.prog.underlying t = some (.int .i64) → xs.length = 3 → i < 3 → DataW.trod enc Tryz.prog W base spare held n t [v] = xs[i]? → ∃ z : Int, v = .int .i64 z := fun i t v ht hx hi he => by
      rw [List.getElem?_eq_getElem (by omega)] at he
      obtain ⟨z, hz, _⟩ := DataW.trod_int ht he
      exact ⟨z, by simpa using hz⟩
    have hx3 : xs.length = 3 := by assumption
    obtain ⟨x, rfl⟩ := g 0 3 a Tryz.underlying3 hx3 (by decide) h0
    obtain ⟨y, rfl⟩ := g 1 3 b Tryz.underlying3 hx3 (by decide) h1
    obtain ⟨z, rfl⟩ := g 2 2 c Tryz.underlying2 hx3 (by decide) h2
    exact ⟨(x, y, z), rfl⟩
set_option maxRecDepth 100000 in
/-- A list of edges that came in. -/
theorem edges_in {fuel : Nat} {v : Value} {x : DataW H × List MemPlace} (h : DataW.trod enc Tryz.prog W base spare held fuel 25 [v] = some x) :
    ∃ (A : Option Addr) (n c : Nat) (es : List Ed), v = .slice A n c ∧ Lies W W.heap.size 3 A n (ec es) ∧ n ≤ c ∧ n ≤ maxLen := by
  rcases open_slice Tryz.underlying25 h with ⟨hc, _⟩ | ⟨a, len, cap, m, n, D, Pl, hc, _, hl, hm, hmm, _, hi⟩
  · have : v = .slice none 0 0 := by simpa using hc
    exact ⟨none, 0, 0, [], this, Lies.nil, Nat.le_refl _, Nat.zero_le _⟩
  · have hv : v = .slice (some a) len cap := by simpa using hc
    have c54 : Tryz.prog.cellsOf 80 = 3 := by kernel_rfl
    rw [c54] at hi
    have hlm : len ≤ m := by rw [hmm]; split <;> omega
    have hex : ∀ i : Nat, ∃ e : Ed, i < len → W.cell? (a.add (i * 3)) = some (.int .i64 e.1) ∧ W.cell? (a.add (i * 3 + 1)) = some (.int .i64 e.2.1) ∧ W.cell? (a.add (i * 3 + 2)) = some (.int .i64 e.2.2) := fun i => by
      by_cases hil : i < len
      · obtain ⟨cs', h1, h2⟩ := hi i (by omega)
        obtain ⟨e, rfl⟩ := edge_cells h2
        obtain ⟨_, _, hat⟩ := World.cells?_some h1
        refine ⟨e, fun _ => ⟨?_, ?_, ?_⟩⟩
        · have := hat 0 (by decide); rw [add_zero] at this; simpa using this
        · have := hat 1 (by decide); rw [YtpgdddjjjfkneaaGreatDoor.add_add] at this; simpa using this
        · have := hat 2 (by decide); rw [YtpgdddjjjfkneaaGreatDoor.add_add] at this; simpa using this
      · exact ⟨noEd, fun h => absurd h hil⟩
    obtain ⟨f, hf⟩ := Classical.axiomOfChoice hex
    have hfl : ((List.range len).map f).length = len := by simp
    refine ⟨some a, len, cap, (List.range len).map f, hv, ⟨by rw [ec_length, hfl], fun j u hj => ⟨a, rfl, ?_, ?_⟩⟩, hl, by omega⟩
    · have hjl : j < len * 3 := by have := (List.getElem?_eq_some_iff.1 hj).1; rw [ec_length, hfl] at this; exact this
      have := (hf 0 (by omega)).1
      have h2 := World.block_lt_of_cell? W _ this
      rwa [block_add] at h2
    · have hjl : j < len * 3 := by have := (List.getElem?_eq_some_iff.1 hj).1; rw [ec_length, hfl] at this; exact this
      have hi3 : j / 3 < len := by omega
      obtain ⟨a0, a1, a2⟩ := ec_at ((List.range len).map f) (j / 3) (by rw [hfl]; exact hi3)
      have hfe : eAt ((List.range len).map f) (j / 3) = f (j / 3) := by simp [eAt, hi3]
      rw [hfe] at a0 a1 a2
      obtain ⟨b0, b1, b2⟩ := hf (j / 3) hi3
      rcases (by omega : j = j / 3 * 3 ∨ j = j / 3 * 3 + 1 ∨ j = j / 3 * 3 + 2) with e | e | e
      · rw [e] at hj ⊢; rw [a0] at hj; rw [b0]; exact hj
      · rw [e] at hj ⊢; rw [a1] at hj; rw [b1]; exact hj
      · rw [e] at hj ⊢; rw [a2] at hj; rw [b2]; exact hj
set_option maxRecDepth 100000 in
/-- A graph that came in. -/
theorem graph_in {b0 : Nat} {v : Value} {d : DataW H} {p : List MemPlace} (hv : Value.okWide Tryz.prog W .any b0 27 v) (h : DataW.Trod enc Tryz.prog W base spare held 27 v d p) :
    ∃ (N : Int) (A : Option Addr) (n c : Nat) (es : List Ed), v = .agg #[.int .i64 N, .slice A n c] ∧ Lies W W.heap.size 3 A n (ec es) ∧ n ≤ c ∧ n ≤ maxLen := by
  obtain ⟨v0, v1, y0, y1, k, rfl, _, _, h0, h1⟩ := Go.Joins.open_agg2 Tryz.underlying27 (by kernel_rfl) (by kernel_rfl) hv h
  obtain ⟨z, hz, _⟩ := DataW.trod_int Tryz.underlying3 h0
  obtain rfl : v0 = .int .i64 z := by simpa using hz
  obtain ⟨A, n, c, es, rfl, h2, h3, h4⟩ := edges_in h1
  exact ⟨z, A, n, c, es, rfl, h2, h3, h4⟩
set_option maxRecDepth 100000 in
/-- A job that came in. -/
theorem job_in {b0 : Nat} {v : Value} {d : DataW H} {p : List MemPlace} (hv : Value.okWide Tryz.prog W .any b0 23 v) (h : DataW.Trod enc Tryz.prog W base spare held 23 v d p) :
    ∃ p s l q : Int, v = .agg #[.int .i64 p, .int .i64 s, .int .i64 l, .int .i64 q] := by
  obtain ⟨v0, v1, v2, v3, y0, y1, y2, y3, k, rfl, _, _, h0, h1, h2, h3⟩ := Go.Joins.open_agg4 Tryz.underlying23 (by kernel_rfl) (by kernel_rfl) hv h
  obtain ⟨z0, e0, _⟩ := DataW.trod_int Tryz.underlying3 h0
  obtain ⟨z1, e1, _⟩ := DataW.trod_int Tryz.underlying3 h1
  obtain ⟨z2, e2, _⟩ := DataW.trod_int Tryz.underlying3 h2
  obtain ⟨z3, e3, _⟩ := DataW.trod_int Tryz.underlying3 h3
  obtain rfl : v0 = .int .i64 z0 := by simpa using e0
  obtain rfl : v1 = .int .i64 z1 := by simpa using e1
  obtain rfl : v2 = .int .i64 z2 := by simpa using e2
  obtain rfl : v3 = .int .i64 z3 := by simpa using e3
  exact ⟨z0, z1, z2, z3, rfl⟩
set_option maxRecDepth 100000 in
/-- A message in memory. -/
theorem msg_cells {fuel : Nat} {cs : List Value} {x : DataW H × List MemPlace} (h : DataW.trod enc Tryz.prog W base spare held fuel 118 cs = some x) : ∃ e : Ms, cs = [.int .i64 e.1, .int .i64 e.2] ∧ bd e.2 := by
  obtain ⟨xs, n, _, _, hl, _, hf⟩ := DataW.trod_struct Tryz.underlying118 h
  have c3 : Tryz.prog.cellsOf 3 = 1 := by kernel_rfl
  have c2 : Tryz.prog.cellsOf 2 = 1 := by kernel_rfl
  have c57 : Tryz.prog.cellsOf 118 = 2 := by kernel_rfl
  rw [c57] at hl
  match cs, hl with
  | [a, b], _ =>
    have h0 := hf 0 _ rfl
    have h1 := hf 1 _ rfl
    simp [c3, c2] at h0 h1
    have g : ∀ (i : Nat) (t : TypeId) (v : Value), Tryz.prog.underlying t = some (.int .i64) → xs.length = 2 → i < 2 → DataW.trod enc Tryz.prog W base spare held n t [v] = xs[i]? → ∃ z : Int, v = .int .i64 z ∧ bd z := fun i t v ht hx hi he => by
      rw [List.getElem?_eq_getElem (by omega)] at he
      obtain ⟨z, hz, _, hw⟩ := DataW.trod_int ht he
      exact ⟨z, by simpa using hz, bounds_i64 hw⟩
    have hx2 : xs.length = 2 := by assumption
    obtain ⟨x, rfl, _⟩ := g 0 3 a Tryz.underlying3 hx2 (by decide) h0
    obtain ⟨y, rfl, hy⟩ := g 1 2 b Tryz.underlying2 hx2 (by decide) h1
    exact ⟨(x, y), rfl, hy⟩
set_option maxRecDepth 100000 in
/-- Messages that came in. -/
theorem msgs_in {fuel : Nat} {v : Value} {x : DataW H × List MemPlace} (h : DataW.trod enc Tryz.prog W base spare held fuel 37 [v] = some x) :
    ∃ (A : Option Addr) (n c : Nat) (ms : List Ms), v = .slice A n c ∧ Lies W W.heap.size 2 A n (mc ms) ∧ n ≤ c ∧ n ≤ maxLen ∧ ∀ e ∈ ms, bd e.2 := by
  rcases open_slice Tryz.underlying37 h with ⟨hc, _⟩ | ⟨a, len, cap, m, n, D, Pl, hc, _, hl, hm, hmm, _, hi⟩
  · have : v = .slice none 0 0 := by simpa using hc
    exact ⟨none, 0, 0, [], this, Lies.nil, Nat.le_refl _, Nat.zero_le _, fun e he => by cases he⟩
  · have hv : v = .slice (some a) len cap := by simpa using hc
    have c57 : Tryz.prog.cellsOf 118 = 2 := by kernel_rfl
    rw [c57] at hi
    have hlm : len ≤ m := by rw [hmm]; split <;> omega
    have hex : ∀ i : Nat, ∃ e : Ms, bd e.2 ∧ (i < len → W.cell? (a.add (i * 2)) = some (.int .i64 e.1) ∧ W.cell? (a.add (i * 2 + 1)) = some (.int .i64 e.2)) := fun i => by
      by_cases hil : i < len
      · obtain ⟨cs', h1, h2⟩ := hi i (by omega)
        obtain ⟨e, rfl, hb⟩ := msg_cells h2
        obtain ⟨_, _, hat⟩ := World.cells?_some h1
        refine ⟨e, hb, fun _ => ⟨?_, ?_⟩⟩
        · have := hat 0 (by decide); rw [YtpgdddjjjfkneaaGreatDoor.add_zero] at this; simpa using this
        · have := hat 1 (by decide); rw [YtpgdddjjjfkneaaGreatDoor.add_add] at this; simpa using this
      · exact ⟨(0, 0), ⟨by decide, by decide⟩, fun h => absurd h hil⟩
    obtain ⟨f, hf⟩ := Classical.axiomOfChoice hex
    have hfl : ((List.range len).map f).length = len := by simp
    refine ⟨some a, len, cap, (List.range len).map f, hv, ⟨by rw [mc_length, hfl], fun j u hj => ⟨a, rfl, ?_, ?_⟩⟩, hl, by omega, fun e he => ?_⟩
    · have hjl : j < len * 2 := by have := (List.getElem?_eq_some_iff.1 hj).1; rw [mc_length, hfl] at this; exact this
      have := ((hf 0).2 (by omega)).1
      have h2 := World.block_lt_of_cell? W _ this
      rwa [block_add] at h2
    · have hjl : j < len * 2 := by have := (List.getElem?_eq_some_iff.1 hj).1; rw [mc_length, hfl] at this; exact this
      have hi3 : j / 2 < len := by omega
      obtain ⟨a0, a1⟩ := mc_at ((List.range len).map f) (j / 2) (by rw [hfl]; exact hi3)
      have hfe : mAt ((List.range len).map f) (j / 2) = f (j / 2) := by simp [mAt, hi3]
      rw [hfe] at a0 a1
      obtain ⟨b0, b1⟩ := (hf (j / 2)).2 hi3
      rcases (by omega : j = j / 2 * 2 ∨ j = j / 2 * 2 + 1) with e | e
      · rw [e] at hj ⊢; rw [a0] at hj; rw [b0]; exact hj
      · rw [e] at hj ⊢; rw [a1] at hj; rw [b1]; exact hj
    · obtain ⟨i, _, rfl⟩ := List.mem_map.1 he
      exact (hf i).1
set_option maxRecDepth 100000 in
/-- Values that came in. -/
theorem vals_in {fuel : Nat} {v : Value} {x : DataW H × List MemPlace} (h : DataW.trod enc Tryz.prog W base spare held fuel 31 [v] = some x) :
    ∃ (A : Option Addr) (c : Nat) (l : List Int), v = .slice A l.length c ∧ Lies W W.heap.size 1 A l.length (vc l) ∧ l.length ≤ c ∧ ∀ e ∈ l, bd e := by
  rcases open_slice Tryz.underlying31 h with ⟨hc, _⟩ | ⟨a, len, cap, m, n, D, Pl, hc, _, hl, hm, hmm, _, hi⟩
  · have : v = .slice none 0 0 := by simpa using hc
    exact ⟨none, 0, [], this, Lies.nil, Nat.le_refl _, fun e he => by cases he⟩
  · have hv : v = .slice (some a) len cap := by simpa using hc
    have ce : Tryz.prog.cellsOf 2 = 1 := by kernel_rfl
    rw [ce] at hi
    have hlm : len ≤ m := by rw [hmm]; split <;> omega
    have hex : ∀ i : Nat, ∃ e : Int, bd e ∧ (i < len → W.cell? (a.add i) = some (.int .i64 e)) := fun i => by
      by_cases hil : i < len
      · obtain ⟨cs', h1, h2⟩ := hi i (by omega)
        obtain ⟨_, hsz, hat⟩ := World.cells?_some h1
        rw [Nat.mul_one] at hat
        match cs', hsz with
        | [u], _ =>
          obtain ⟨z, hz, _, hw⟩ := DataW.trod_int Tryz.underlying2 h2
          obtain rfl : u = .int .i64 z := by simpa using hz
          refine ⟨z, bounds_i64 hw, fun _ => ?_⟩
          have := hat 0 (by decide); rw [YtpgdddjjjfkneaaGreatDoor.add_zero] at this; simpa using this
      · exact ⟨0, bd0, fun h => absurd h hil⟩
    obtain ⟨f, hf⟩ := Classical.axiomOfChoice hex
    have hfl : ((List.range len).map f).length = len := by simp
    refine ⟨some a, cap, (List.range len).map f, by rw [hfl]; exact hv, ?_, by rw [hfl]; exact hl, ?_⟩
    · rw [hfl]
      refine ⟨by simp [vc], fun j u hj => ⟨a, rfl, ?_, ?_⟩⟩
      · have hjl : j < len := by have := (List.getElem?_eq_some_iff.1 hj).1; simpa [vc] using this
        have := (hf 0).2 (by omega)
        have h2 := World.block_lt_of_cell? W _ this
        rwa [block_add] at h2
      · have hjl : j < len := by have := (List.getElem?_eq_some_iff.1 hj).1; simpa [vc] using this
        rw [(hf j).2 hjl]
        unfold vc at hj
        simp [hjl] at hj
        rw [hj]
    · intro e he
      obtain ⟨i, _, rfl⟩ := List.mem_map.1 he
      exact (hf i).1
set_option maxRecDepth 100000 in
/-- Rests that came in. -/
theorem rests_in {fuel : Nat} {v : Value} {x : DataW H × List MemPlace} (h : DataW.trod enc Tryz.prog W base spare held fuel 36 [v] = some x) :
    ∃ (A : Option Addr) (c : Nat) (l : List Bool), v = .slice A l.length c ∧ Lies W W.heap.size 1 A l.length (rc l) ∧ l.length ≤ c := by
  rcases open_slice Tryz.underlying36 h with ⟨hc, _⟩ | ⟨a, len, cap, m, n, D, Pl, hc, _, hl, hm, hmm, _, hi⟩
  · have : v = .slice none 0 0 := by simpa using hc
    exact ⟨none, 0, [], this, Lies.nil, Nat.le_refl _⟩
  · have hv : v = .slice (some a) len cap := by simpa using hc
    have ce : Tryz.prog.cellsOf 4 = 1 := by kernel_rfl
    rw [ce] at hi
    have hlm : len ≤ m := by rw [hmm]; split <;> omega
    have hex : ∀ i : Nat, ∃ e : Bool, (i < len → W.cell? (a.add i) = some (.bool e)) := fun i => by
      by_cases hil : i < len
      · obtain ⟨cs', h1, h2⟩ := hi i (by omega)
        obtain ⟨_, hsz, hat⟩ := World.cells?_some h1
        rw [Nat.mul_one] at hat
        match cs', hsz with
        | [u], _ =>
          obtain ⟨z, hz, _⟩ := DataW.trod_bool Tryz.underlying4 h2
          obtain rfl : u = .bool z := by simpa using hz
          refine ⟨z, fun _ => ?_⟩
          have := hat 0 (by decide); rw [YtpgdddjjjfkneaaGreatDoor.add_zero] at this; simpa using this
      · exact ⟨false, fun h => absurd h hil⟩
    obtain ⟨f, hf⟩ := Classical.axiomOfChoice hex
    have hfl : ((List.range len).map f).length = len := by simp
    refine ⟨some a, cap, (List.range len).map f, by rw [hfl]; exact hv, ?_, by rw [hfl]; exact hl⟩
    · rw [hfl]
      refine ⟨by simp [rc], fun j u hj => ⟨a, rfl, ?_, ?_⟩⟩
      · have hjl : j < len := by have := (List.getElem?_eq_some_iff.1 hj).1; simpa [rc] using this
        have := hf 0 (by omega)
        have h2 := World.block_lt_of_cell? W _ this
        rwa [block_add] at h2
      · have hjl : j < len := by have := (List.getElem?_eq_some_iff.1 hj).1; simpa [rc] using this
        rw [hf j hjl]
        unfold rc at hj
        simp [hjl] at hj
        rw [hj]
set_option maxRecDepth 100000 in
/-- A state that came in. -/
theorem state_in {b0 : Nat} {v : Value} {d : DataW H} {p : List MemPlace} (hv : Value.okWide Tryz.prog W .any b0 39 v) (h : DataW.Trod enc Tryz.prog W base spare held 39 v d p) :
    ∃ (S : St) (A1 : Option Addr) (c1 : Nat) (A2 : Option Addr) (c2 : Nat) (A3 : Option Addr) (c3 : Nat), v = .agg #[.int .i64 S.step, .slice A1 S.vals.length c1, .slice A2 S.rest.length c2, .slice A3 S.inn.length c3] ∧ StI W S A1 c1 A2 c2 A3 c3 := by
  obtain ⟨v0, v1, v2, v3, y0, y1, y2, y3, k, rfl, _, _, h0, h1, h2, h3⟩ := Go.Joins.open_agg4 Tryz.underlying39 (by kernel_rfl) (by kernel_rfl) hv h
  obtain ⟨z0, e0, _, hw⟩ := DataW.trod_int Tryz.underlying3 h0
  obtain rfl : v0 = .int .i64 z0 := by simpa using e0
  obtain ⟨A1, c1, vs, rfl, l1, m1, b1⟩ := vals_in h1
  obtain ⟨A2, c2, rs, rfl, l2, m2⟩ := rests_in h2
  obtain ⟨A3, n3, c3, ms, rfl, l3, m3, _, b3⟩ := msgs_in h3
  obtain rfl := l3.ms_len
  exact ⟨⟨z0, vs, rs, ms⟩, A1, c1, A2, c2, A3, c3, rfl, ⟨bounds_i64 hw, l1, l2, l3, m1, m2, m3, b1, b3⟩⟩
end

end Go.Proofs.YtpgdddjjjfkneaaGreatDoor

/-
  What comes in: a partition, a list of partitions, as they read in memory; whether they are broad. No condition.
-/
namespace Go.Proofs.YtpgdddjjjfkneaaGreatDoor
open Go.ChangeShapes Go.WideShapes Go.ChangeAt Go.RowKit Go.Deep
set_option linter.unusedVariables false

section
variable {H : Type} {enc : TypeId × Value → H} {W : World} {base : Nat} {spare : Nat → Bool} {held : Bool}
end
end Go.Proofs.YtpgdddjjjfkneaaGreatDoor


