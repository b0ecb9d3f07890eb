/-
  The worlds that a sort in place passes through: a row of messages in one block, all else as it was, blocks and draws behind. What a walk wants of them: loads, comparisons, exchanges. No condition.
-/
import Derived.Test.YtkmflofokgkekaaCmpA
namespace Go.Proofs.Ytkmflofokgkekaa
open Go.RowKit Go.Sort
set_option linter.unusedVariables false

/-- W is w0 with the row at (blk, off) holding dk, some draws and some blocks on. -/
def Sw (w0 : World) (blk off : Nat) (dk : Array Ms) (W : World) : Prop := ∃ n os, W = grow (putRowK me 2 (Sort.ahead w0 n) blk off dk) os

theorem me_len (m : Ms) : (me m).length = 2 := rfl
theorem me_one (m : Ms) : ∀ v ∈ me m, v.oneCell' = true := by
  intro v hv
  simp [me] at hv
  rcases hv with rfl | rfl <;> rfl

variable {w0 W : World} {blk off N : Nat} {dk : Array Ms}

theorem Sw.start (h : HoldsK me 2 w0 blk off dk) : Sw w0 blk off dk w0 := ⟨0, #[], by rw [grow_empty]; exact (putRowK_self me 2 w0 blk off dk h).symm⟩

theorem Sw.grown (h : Sw w0 blk off dk W) (n : Nat) (os : Array Obj) : Sw w0 blk off dk (grow (W.drewN n) os) := by
  obtain ⟨m, os0, rfl⟩ := h
  refine ⟨m + n, os0 ++ os, ?_⟩
  show grow (grow ((putRowK me 2 (Sort.ahead w0 m) blk off dk).drewN n) os0) os = _
  rw [grow_grow, putRowK_drewN]

theorem Sw.drew (h : Sw w0 blk off dk W) : Sw w0 blk off dk W.drew := by
  have := h.grown 1 #[]
  rw [grow_empty] at this
  exact this

/-- The row, told once. -/
structure Row (w0 : World) (blk off N : Nat) : Prop where
  hH : ∃ d0 : Array Ms, d0.size = N ∧ HoldsK me 2 w0 blk off d0
  hblk : blk < w0.heap.size

theorem Sw.holds (h : Sw w0 blk off dk W) (R : Row w0 blk off N) (hs : dk.size = N) : HoldsK me 2 W blk off dk := by
  obtain ⟨n, os, rfl⟩ := h
  obtain ⟨d0, h0, hH⟩ := R.hH
  subst h0
  exact holdsK_grow me 2 _ os blk off dk (by rw [size_putRowK]; exact R.hblk) (holdsK_putRowK me 2 _ blk off d0 dk (holdsK_ahead me 2 w0 n blk off d0 hH) hs)

theorem Sw.cell (h : Sw w0 blk off dk W) (R : Row w0 blk off N) (hs : dk.size = N) {i : Nat} (hi : i < dk.size) :
    W.cell? ⟨blk, off + i * 2, none⟩ = some (.int .i64 dk[i]!.1) ∧ W.cell? ⟨blk, off + i * 2 + 1, none⟩ = some (.int .i64 dk[i]!.2) := by
  have a := (HoldsK.cell (h.holds R hs) hi (c := 0) (by decide)).1
  have b := (HoldsK.cell (h.holds R hs) hi (c := 1) (by decide)).1
  exact ⟨a, b⟩

/-- The cells of a message, in every world on from one. -/
theorem Sw.ld (h : Sw w0 blk off dk W) (R : Row w0 blk off N) (hs : dk.size = N) {i : Nat} (hi : i < dk.size) (n : Nat) (os : Array Obj) :
    (grow (W.drewN n) os).cell? ⟨blk, off + i * 2, none⟩ = some (.int .i64 dk[i]!.1) ∧ (grow (W.drewN n) os).cell? ⟨blk, off + i * 2 + 1, none⟩ = some (.int .i64 dk[i]!.2) := (h.grown n os).cell R hs hi

theorem Sw.fr (h : Sw w0 blk off dk W) (R : Row w0 blk off N) (hs : dk.size = N) {i : Nat} (hi : i < dk.size) :
    W.frozen? ⟨blk, off + i * 2, none⟩ = false ∧ W.frozen? ⟨blk, off + i * 2 + 1, none⟩ = false := by
  have a := (HoldsK.cell (h.holds R hs) hi (c := 0) (by decide)).2
  have b := (HoldsK.cell (h.holds R hs) hi (c := 1) (by decide)).2
  exact ⟨a, b⟩

theorem Sw.cmp (h : Sw w0 blk off dk W) (x y : Ms) (n : Nat) (os : Array Obj) :
    Calls Try.prog 87 #[.agg #[.int .i64 x.1, .int .i64 x.2], .agg #[.int .i64 y.1, .int .i64 y.2]] (grow (W.drewN n) os) fun e w' => e = .returned (.int .i64 (cmpM x y)) ∧ ∃ q os', w' = grow ((grow (W.drewN n) os).drewN q) os' := mcompare_any x y _

theorem Sw.swapped (h : Sw w0 blk off dk W) (R : Row w0 blk off N) (i j : Nat) (hi : i < dk.size) (hj : j < dk.size) :
    Sw w0 blk off (swp dk i j) ((W.drew.setCells blk (off + i * 2) (me dk[j]!)).setCells blk (off + j * 2) (me dk[i]!)) := by
  obtain ⟨n, os, hw⟩ := h.drew
  rw [hw]
  refine ⟨n, os, ?_⟩
  rw [← putRowK_grow me 2 (Sort.ahead w0 n) os blk off dk R.hblk, putRowK_swp me 2 me_len _ blk off dk i j hi hj, putRowK_grow me 2 (Sort.ahead w0 n) os blk off _ R.hblk]

/-- All that an exchange asks and leaves. -/
theorem Sw.sw (h : Sw w0 blk off dk W) (R : Row w0 blk off N) (hs : dk.size = N) (i j : Nat) (hi : i < dk.size) (hj : j < dk.size) :
    (W.setCell ⟨blk, off + i * 2, none⟩ (.int .i64 dk[j]!.1)).cell? ⟨blk, off + i * 2 + 1, none⟩ = some (.int .i64 dk[i]!.2) ∧
    (((W.setCell ⟨blk, off + i * 2, none⟩ (.int .i64 dk[j]!.1)).setCell ⟨blk, off + i * 2 + 1, none⟩ (.int .i64 dk[j]!.2)).cell? ⟨blk, off + j * 2, none⟩ = some (.int .i64 dk[j]!.1)) ∧
    ((((W.setCell ⟨blk, off + i * 2, none⟩ (.int .i64 dk[j]!.1)).setCell ⟨blk, off + i * 2 + 1, none⟩ (.int .i64 dk[j]!.2)).setCell ⟨blk, off + j * 2, none⟩ (.int .i64 dk[i]!.1)).cell? ⟨blk, off + j * 2 + 1, none⟩ = some (.int .i64 dk[j]!.2)) ∧
    Sw w0 blk off (swp dk i j) ((((W.setCell ⟨blk, off + i * 2, none⟩ (.int .i64 dk[j]!.1)).setCell ⟨blk, off + i * 2 + 1, none⟩ (.int .i64 dk[j]!.2)).setCell ⟨blk, off + j * 2, none⟩ (.int .i64 dk[i]!.1)).setCell ⟨blk, off + j * 2 + 1, none⟩ (.int .i64 dk[i]!.2)).drew := by
  obtain ⟨a0, a1⟩ := h.cell R hs hi
  obtain ⟨b0, b1⟩ := h.cell R hs hj
  have ne : ∀ (X : World) (o o' : Nat) (v : Value), o ≠ o' → (X.setCell ⟨blk, o, none⟩ v).cell? ⟨blk, o', none⟩ = X.cell? ⟨blk, o', none⟩ := fun X o o' v hne => World.cell?_setCell_other _ _ _ _ (by simp)
  refine ⟨?_, ?_, ?_, h.swapped R i j hi hj⟩
  · rw [ne _ _ _ _ (by omega)]; exact a1
  · by_cases e : i = j
    · subst e
      rw [ne _ _ _ _ (by omega)]
      exact World.cell?_setCell_same' _ _ _ (by rw [a0]; rfl)
    · rw [ne _ _ _ _ (by omega), ne _ _ _ _ (by omega)]; exact b0
  · rw [ne _ _ _ _ (by omega)]
    by_cases e : i = j
    · subst e
      exact World.cell?_setCell_same' _ _ _ (by rw [ne _ _ _ _ (by omega), a1]; rfl)
    · rw [ne _ _ _ _ (by omega), ne _ _ _ _ (by omega)]; exact b1

end Go.Proofs.Ytkmflofokgkekaa
