import Derived.Test.YtdpmlpclhojcjaaRows
import Derived.Test.YtdpmlpclhojcjaaDq
import Derived.WalkKit
import Derived.ProofKit
import Derived.OpenShut
import Derived.ChangeOld
import Derived.ChangeMaps5
import Derived.Lay
import Derived.Deep.Slices
import Derived.Deep.Fields
/-
  What comes in: bytes, numbers, a disk, an act, a list of acts, as they read in memory. No condition.
-/
namespace Go.Proofs.Ytdpmlpclhojcjaa
open Go.ChangeShapes Go.WideShapes Go.ChangeAt Go.RowKit Go.Deep
set_option linter.unusedVariables false

theorem own : ownKnob Try.prog.godebug = none := by kernel_rfl
theorem laidOut : laidOutB Try.prog = true := by kernel_rfl
def bd (x : Int) : Prop := -9223372036854775808 ≤ x ∧ x ≤ 9223372036854775807
section
variable {H : Type} {enc : TypeId × Value → H} {W : World} {base : Nat} {spare : Nat → Bool} {held : Bool}
set_option maxRecDepth 100000 in
/-- Numbers that came in. -/
theorem nums_in {fuel : Nat} {v : Value} {x : DataW H × List MemPlace} (h : DataW.trod enc Try.prog W base spare held fuel 32 [v] = some x) :
    ∃ (A : Option Addr) (c : Nat) (l : List Int), v = .slice A l.length c ∧ Lies W W.heap.size 1 A l.length (vc l) ∧ l.length ≤ c ∧ c ≤ maxLen ∧ ∀ e ∈ l, bd e := by
  rcases open_slice Try.underlying32 h with ⟨hc, _⟩ | ⟨a, len, cap, m, n, D, Pl, hc, _, hl, hm, hmm, _, hi⟩
  · have : v = .slice none 0 0 := by simpa using hc
    exact ⟨none, 0, [], this, Lies.nil, Nat.le_refl _, Nat.zero_le _, fun e he => by cases he⟩
  · have hv : v = .slice (some a) len cap := by simpa using hc
    have ce : Try.prog.cellsOf 3 = 1 := by kernel_rfl
    rw [ce] at hi
    have hlm : len ≤ m := by rw [hmm]; split <;> omega
    have hex : ∀ i : Nat, ∃ e : Int, bd e ∧ (i < len → W.cell? (a.add i) = some (.int .i64 e)) := fun i => by
      by_cases hil : i < len
      · obtain ⟨cs', h1, h2⟩ := hi i (by omega)
        obtain ⟨_, hsz, hat⟩ := World.cells?_some h1
        rw [Nat.mul_one] at hat
        match cs', hsz with
        | [u], _ =>
          obtain ⟨z, hz, _, hw⟩ := DataW.trod_int Try.underlying3 h2
          obtain rfl : u = .int .i64 z := by simpa using hz
          refine ⟨z, bounds_i64 hw, fun _ => ?_⟩
          have := hat 0 (by decide); rw [Ytdpmlpclhojcjaa.add_zero] at this; simpa using this
      · exact ⟨0, ⟨by decide, by decide⟩, fun h => absurd h hil⟩
    obtain ⟨f, hf⟩ := Classical.axiomOfChoice hex
    have hfl : ((List.range len).map f).length = len := by simp
    refine ⟨some a, cap, (List.range len).map f, by rw [hfl]; exact hv, ?_, by rw [hfl]; exact hl, hm, ?_⟩
    · rw [hfl]
      refine ⟨by simp [vc], fun j u hj => ⟨a, rfl, ?_, ?_⟩⟩
      · have hjl : j < len := by have := (List.getElem?_eq_some_iff.1 hj).1; simpa [vc] using this
        have := (hf 0).2 (by omega)
        have h2 := World.block_lt_of_cell? W _ this
        rwa [block_add] at h2
      · have hjl : j < len := by have := (List.getElem?_eq_some_iff.1 hj).1; simpa [vc] using this
        rw [(hf j).2 hjl]
        unfold vc at hj
        simp [hjl] at hj
        rw [hj]
    · intro e he
      obtain ⟨i, _, rfl⟩ := List.mem_map.1 he
      exact (hf i).1
set_option maxRecDepth 100000 in
/-- Bytes that came in. -/
theorem bytes_in {fuel : Nat} {v : Value} {x : DataW H × List MemPlace} (h : DataW.trod enc Try.prog W base spare held fuel 31 [v] = some x) :
    ∃ (A : Option Addr) (c : Nat) (l : List UInt8), v = .slice A l.length c ∧ Lies W W.heap.size 1 A l.length (bc l) ∧ l.length ≤ c ∧ c ≤ maxLen := by
  rcases open_slice Try.underlying31 h with ⟨hc, _⟩ | ⟨a, len, cap, m, n, D, Pl, hc, _, hl, hm, hmm, _, hi⟩
  · have : v = .slice none 0 0 := by simpa using hc
    exact ⟨none, 0, [], this, Lies.nil, Nat.le_refl _, Nat.zero_le _⟩
  · have hv : v = .slice (some a) len cap := by simpa using hc
    have ce : Try.prog.cellsOf 5 = 1 := by kernel_rfl
    rw [ce] at hi
    have hlm : len ≤ m := by rw [hmm]; split <;> omega
    have hex : ∀ i : Nat, ∃ e : UInt8, i < len → W.cell? (a.add i) = some (.int .u8 (e.toNat : Int)) := fun i => by
      by_cases hil : i < len
      · obtain ⟨cs', h1, h2⟩ := hi i (by omega)
        obtain ⟨_, hsz, hat⟩ := World.cells?_some h1
        rw [Nat.mul_one] at hat
        match cs', hsz with
        | [u], _ =>
          obtain ⟨z, hz, _, hw⟩ := DataW.trod_int Try.underlying5 h2
          obtain rfl : u = .int .u8 z := by simpa using hz
          have hb := bounds_u8 hw
          refine ⟨UInt8.ofNat z.toNat, fun _ => ?_⟩
          have := hat 0 (by decide); rw [Ytdpmlpclhojcjaa.add_zero] at this
          have e : ((UInt8.ofNat z.toNat).toNat : Int) = z := by simp; omega
          rw [e]; simpa using this
      · exact ⟨0, fun h => absurd h hil⟩
    obtain ⟨f, hf⟩ := Classical.axiomOfChoice hex
    have hfl : ((List.range len).map f).length = len := by simp
    refine ⟨some a, cap, (List.range len).map f, by rw [hfl]; exact hv, ?_, by rw [hfl]; exact hl, hm⟩
    rw [hfl]
    refine ⟨by simp [bc], fun j u hj => ⟨a, rfl, ?_, ?_⟩⟩
    · have hjl : j < len := by have := (List.getElem?_eq_some_iff.1 hj).1; simpa [bc] using this
      have := (hf 0) (by omega)
      have h2 := World.block_lt_of_cell? W _ this
      rwa [block_add] at h2
    · have hjl : j < len := by have := (List.getElem?_eq_some_iff.1 hj).1; simpa [bc] using this
      rw [(hf j) hjl]
      unfold bc at hj
      simp [hjl] at hj
      rw [← hj]
set_option maxRecDepth 100000 in
/-- A file's cells. -/
theorem file_cells {fuel : Nat} {cs : List Value} {x : DataW H × List MemPlace} (h : DataW.trod enc Try.prog W base spare held fuel 53 cs = some x) : ∃ e : Fe, cs = e.cells ∧ Fd W W.heap.size e := by
  obtain ⟨xs, n, _, _, hl, _, hf⟩ := DataW.trod_struct Try.underlying53 h
  have c3 : Try.prog.cellsOf 3 = 1 := by kernel_rfl
  have c9 : Try.prog.cellsOf 9 = 1 := by kernel_rfl
  have c31 : Try.prog.cellsOf 31 = 1 := by kernel_rfl
  have c53 : Try.prog.cellsOf 53 = 3 := by kernel_rfl
  rw [c53] at hl
  match cs, hl with
  | [a, b, c], _ =>
    have h0 := hf 0 _ rfl
    have h1 := hf 1 _ rfl
    have h2 := hf 2 _ rfl
    simp [c3, c9, c31] at h0 h1 h2
    have hx3 : xs.length = 3 := by assumption
    rw [List.getElem?_eq_getElem (by omega)] at h0 h1 h2
    obtain ⟨s, e0, _, _⟩ := DataW.trod_string Try.underlying9 h0
    obtain rfl : a = .string s := by simpa using e0
    obtain ⟨A, cp, l, rfl, l1, m1, _⟩ := bytes_in h1
    obtain ⟨z, e2, _, _⟩ := DataW.trod_int Try.underlying3 h2
    obtain rfl : c = .int .i64 z := by simpa using e2
    exact ⟨⟨s, l, z, A, cp⟩, rfl, l1, m1⟩
set_option maxRecDepth 100000 in
/-- Files that came in. -/
theorem files_in {fuel : Nat} {v : Value} {x : DataW H × List MemPlace} (h : DataW.trod enc Try.prog W base spare held fuel 22 [v] = some x) :
    ∃ (A : Option Addr) (c : Nat) (ls : List Fe), v = .slice A ls.length c ∧ Fls W W.heap.size A c ls := by
  rcases open_slice Try.underlying22 h with ⟨hc, _⟩ | ⟨a, len, cap, m, n, D, Pl, hc, _, hl, hm, hmm, _, hi⟩
  · have : v = .slice none 0 0 := by simpa using hc
    exact ⟨none, 0, [], this, Fls.no _ _⟩
  · have hv : v = .slice (some a) len cap := by simpa using hc
    have c53 : Try.prog.cellsOf 53 = 3 := by kernel_rfl
    rw [c53] at hi
    have hlm : len ≤ m := by rw [hmm]; split <;> omega
    have hex : ∀ i : Nat, ∃ e : Fe, Fd W W.heap.size e ∧ (i < len → ∀ j (h : j < 3), W.cell? (a.add (i * 3 + j)) = e.cells[j]?) := fun i => by
      by_cases hil : i < len
      · obtain ⟨cs', h1, h2⟩ := hi i (by omega)
        obtain ⟨e, rfl, hb⟩ := file_cells h2
        obtain ⟨_, _, hat⟩ := World.cells?_some h1
        refine ⟨e, hb, fun _ j hj => ?_⟩
        have := hat j (by simpa [Fe.cells] using hj)
        rw [Ytdpmlpclhojcjaa.add_add] at this
        rw [this]
      · exact ⟨noFe, Fd.no _ _, fun h => absurd h hil⟩
    obtain ⟨f, hf⟩ := Classical.axiomOfChoice hex
    have hfl : ((List.range len).map f).length = len := by simp
    refine ⟨some a, cap, (List.range len).map f, by rw [hfl]; exact hv, ⟨⟨by rw [fc_len], fun j u hj => ⟨a, rfl, ?_, ?_⟩⟩, by rw [hfl]; exact hl, fun e he => ?_⟩⟩
    · have hjl : j < len * 3 := by have := (List.getElem?_eq_some_iff.1 hj).1; rw [fc_len, hfl] at this; exact this
      have h0 := (hf 0).2 (by omega) 0 (by decide)
      have h2 := World.block_lt_of_cell? W (a.add (0 * 3 + 0)) (h0.trans rfl)
      rwa [block_add] at h2
    · have hjl : j < len * 3 := by have := (List.getElem?_eq_some_iff.1 hj).1; rw [fc_len, hfl] at this; exact this
      have hi3 : j / 3 < len := by omega
      obtain ⟨a0, a1, a2⟩ := fc_at ((List.range len).map f) (j / 3) (by rw [hfl]; exact hi3)
      have hfe : ((List.range len).map f)[j / 3]'(by rw [hfl]; exact hi3) = f (j / 3) := by simp
      rw [hfe] at a0 a1 a2
      have hc := (hf (j / 3)).2 hi3
      have hj5 : j % 3 < 3 := Nat.mod_lt _ (by decide)
      have e : j = j / 3 * 3 + j % 3 := by omega
      have hcj := hc (j % 3) hj5
      rw [← e] at hcj
      rw [hcj, ← hj]
      clear hcj hj hc hfe
      generalize j / 3 = t at *
      rcases (by omega : j % 3 = 0 ∨ j % 3 = 1 ∨ j % 3 = 2) with h | h | h
      · rw [h] at e ⊢; rw [e]; exact a0.symm
      · rw [h] at e ⊢; rw [e]; exact a1.symm
      · rw [h] at e ⊢; rw [e]; exact a2.symm
    · obtain ⟨i, _, rfl⟩ := List.mem_map.1 he
      exact (hf i).1
set_option maxRecDepth 100000 in
/-- A disk that came in. -/
theorem disk_in {b0 : Nat} {v : Value} {d : DataW H} {p : List MemPlace} (hv : Value.okWide Try.prog W .any b0 24 v) (h : DataW.Trod enc Try.prog W base spare held 24 v d p) :
    ∃ (A : Option Addr) (c : Nat) (ls : List Fe), v = .agg #[.slice A ls.length c] ∧ Fls W W.heap.size A c ls := by
  obtain ⟨cs, rfl, hsz⟩ := okWide_struct Try.underlying24 hv
  have c24 : Try.prog.cellsOf 24 = 1 := by kernel_rfl
  have c22 : Try.prog.cellsOf 22 = 1 := by kernel_rfl
  rw [c24] at hsz
  obtain ⟨fuel, hf⟩ := h
  have hf' : DataW.trod enc Try.prog W base spare held fuel 24 cs.toList = some (d, p) := by simpa [Value.cells] using hf
  obtain ⟨xs, n, _, _, hl, hx, hg⟩ := DataW.trod_struct Try.underlying24 hf'
  have hg0 := hg 0 _ rfl
  obtain ⟨a, ha⟩ : ∃ a, cs = #[a] := by
    cases cs with
    | mk l =>
      match l, hsz with
      | [a], _ => exact ⟨a, rfl⟩
  subst ha
  simp [c22] at hg0
  have hx1 : xs.length = 1 := hx
  rw [List.getElem?_eq_getElem (by omega)] at hg0
  obtain ⟨A, c, ls, rfl, hL⟩ := files_in hg0
  exact ⟨A, c, ls, rfl, hL⟩
set_option maxRecDepth 100000 in
/-- An act's cells. -/
theorem act_cells {fuel : Nat} {cs : List Value} {x : DataW H × List MemPlace} (h : DataW.trod enc Try.prog W base spare held fuel 34 cs = some x) : ∃ e : Ae, cs = e.cells ∧ AeI W e := by
  obtain ⟨xs, n, _, _, hl, _, hf⟩ := DataW.trod_struct Try.underlying34 h
  have c3 : Try.prog.cellsOf 3 = 1 := by kernel_rfl
  have c9 : Try.prog.cellsOf 9 = 1 := by kernel_rfl
  have c31 : Try.prog.cellsOf 31 = 1 := by kernel_rfl
  have c32 : Try.prog.cellsOf 32 = 1 := by kernel_rfl
  have c34 : Try.prog.cellsOf 34 = 5 := by kernel_rfl
  rw [c34] at hl
  match cs, hl with
  | [a, b, c, d, e], _ =>
    have h0 := hf 0 _ rfl
    have h1 := hf 1 _ rfl
    have h2 := hf 2 _ rfl
    have h3 := hf 3 _ rfl
    have h4 := hf 4 _ rfl
    simp [c3, c9, c31, c32] at h0 h1 h2 h3 h4
    have hx5 : xs.length = 5 := by assumption
    rw [List.getElem?_eq_getElem (by omega)] at h0 h1 h2 h3 h4
    obtain ⟨z0, e0, _, _⟩ := DataW.trod_int Try.underlying3 h0
    obtain rfl : a = .int .i64 z0 := by simpa using e0
    obtain ⟨z1, e1, _, w1⟩ := DataW.trod_int Try.underlying3 h1
    obtain rfl : b = .int .i64 z1 := by simpa using e1
    obtain ⟨s, e2, _, _⟩ := DataW.trod_string Try.underlying9 h2
    obtain rfl : c = .string s := by simpa using e2
    obtain ⟨A, cp, l, rfl, l1, m1, _⟩ := bytes_in h3
    obtain ⟨K, kc, k, rfl, l2, m2, _, b2⟩ := nums_in h4
    have hb := bounds_i64 w1
    exact ⟨⟨z0, z1, s, A, cp, l, K, kc, k⟩, rfl, ⟨⟨l1, l2, m1, m2⟩, hb.1, hb.2, b2⟩⟩
set_option maxRecDepth 100000 in
/-- An act that came in. -/
theorem act_in {b0 : Nat} {v : Value} {d : DataW H} {p : List MemPlace} (hv : Value.okWide Try.prog W .any b0 34 v) (h : DataW.Trod enc Try.prog W base spare held 34 v d p) :
    ∃ e : Ae, v = .agg #[.int .i64 e.kd, .int .i64 e.n, .string e.nm, .slice e.BA e.b.length e.bcap, .slice e.KA e.l.length e.kc] ∧ AeI W e := by
  obtain ⟨cs, rfl, hsz⟩ := okWide_struct Try.underlying34 hv
  obtain ⟨fuel, hf⟩ := h
  have hf' : DataW.trod enc Try.prog W base spare held fuel 34 cs.toList = some (d, p) := by simpa [Value.cells] using hf
  obtain ⟨e, he, hi⟩ := act_cells hf'
  refine ⟨e, ?_, hi⟩
  have : cs = e.cells.toArray := by rw [← he]
  rw [this]; rfl
set_option maxRecDepth 100000 in
theorem acts_in {fuel : Nat} {v : Value} {x : DataW H × List MemPlace} (h : DataW.trod enc Try.prog W base spare held fuel 25 [v] = some x) :
    ∃ (A : Option Addr) (c : Nat) (ls : List Ae), v = .slice A ls.length c ∧ Lies W W.heap.size 5 A ls.length (ac ls) ∧ ls.length ≤ maxLen ∧ ∀ e ∈ ls, AeI W e := by
  rcases open_slice Try.underlying25 h with ⟨hc, _⟩ | ⟨a, len, cap, m, n, D, Pl, hc, _, hl, hm, hmm, _, hi⟩
  · have : v = .slice none 0 0 := by simpa using hc
    exact ⟨none, 0, [], this, Lies.nil, Nat.zero_le _, fun e he => by cases he⟩
  · have hv : v = .slice (some a) len cap := by simpa using hc
    have c57 : Try.prog.cellsOf 34 = 5 := by kernel_rfl
    rw [c57] at hi
    have hlm : len ≤ m := by rw [hmm]; split <;> omega
    have hno : AeI W noAe := ⟨⟨Lies.nil, Lies.nil, Nat.le_refl _, Nat.le_refl _⟩, by decide, by decide, fun x hx => by cases hx⟩
    have hex : ∀ i : Nat, ∃ e : Ae, AeI W e ∧ (i < len → ∀ j (h : j < 5), W.cell? (a.add (i * 5 + j)) = e.cells[j]?) := fun i => by
      by_cases hil : i < len
      · obtain ⟨cs', h1, h2⟩ := hi i (by omega)
        obtain ⟨e, rfl, hb⟩ := act_cells h2
        obtain ⟨_, _, hat⟩ := World.cells?_some h1
        refine ⟨e, hb, fun _ j hj => ?_⟩
        have := hat j (by simpa [Ae.cells] using hj)
        rw [Ytdpmlpclhojcjaa.add_add] at this
        rw [this]
      · exact ⟨noAe, hno, fun h => absurd h hil⟩
    obtain ⟨f, hf⟩ := Classical.axiomOfChoice hex
    have hfl : ((List.range len).map f).length = len := by simp
    refine ⟨some a, cap, (List.range len).map f, by rw [hfl]; exact hv, ⟨by rw [ac_len], fun j u hj => ⟨a, rfl, ?_, ?_⟩⟩, by rw [hfl]; omega, fun e he => ?_⟩
    · have hjl : j < len * 5 := by have := (List.getElem?_eq_some_iff.1 hj).1; rw [ac_len, hfl] at this; exact this
      have h0 := (hf 0).2 (by omega) 0 (by decide)
      have h2 := World.block_lt_of_cell? W (a.add (0 * 5 + 0)) (h0.trans rfl)
      rwa [block_add] at h2
    · have hjl : j < len * 5 := by have := (List.getElem?_eq_some_iff.1 hj).1; rw [ac_len, hfl] at this; exact this
      have hi3 : j / 5 < len := by omega
      obtain ⟨a0, a1, a2, a3, a4⟩ := ac_at ((List.range len).map f) (j / 5) (by rw [hfl]; exact hi3)
      have hfe : ((List.range len).map f)[j / 5]'(by rw [hfl]; exact hi3) = f (j / 5) := by simp
      rw [hfe] at a0 a1 a2 a3 a4
      have hc := (hf (j / 5)).2 hi3
      have hj5 : j % 5 < 5 := Nat.mod_lt _ (by decide)
      have e : j = j / 5 * 5 + j % 5 := by omega
      have hcj := hc (j % 5) hj5
      rw [← e] at hcj
      rw [hcj, ← hj]
      clear hcj hj hc hfe
      generalize j / 5 = t at *
      rcases (by omega : j % 5 = 0 ∨ j % 5 = 1 ∨ j % 5 = 2 ∨ j % 5 = 3 ∨ j % 5 = 4) with h | h | h | h | h
      · rw [h] at e ⊢; rw [e]; exact a0.symm
      · rw [h] at e ⊢; rw [e]; exact a1.symm
      · rw [h] at e ⊢; rw [e]; exact a2.symm
      · rw [h] at e ⊢; rw [e]; exact a3.symm
      · rw [h] at e ⊢; rw [e]; exact a4.symm
    · obtain ⟨i, _, rfl⟩ := List.mem_map.1 he
      exact (hf i).1
end
end Go.Proofs.Ytdpmlpclhojcjaa
