/-
  The graph, the job and the turn that is asked for, boxed; how many messages a turn sends, and where they go. No condition.
-/
import Derived.Test.YtielmlcgdolgkaaLawA
namespace Go.Proofs.Ytielmlcgdolgkaa
open Go.ChangeShapes Go.WideShapes Go.ChangeAt Go.RowKit
set_option linter.unusedVariables false

/-- The graph, the job and the turn stand boxed in the first three blocks behind w. -/
structure Bx3 (w : World) (N : Int) (A : Option Addr) (n c : Nat) (p s l q st v val got : Int) (sm : Bool) (W : World) : Prop where
  x : Bx w N A n c p s l q W
  z : w.heap.size + 1 + 1 < W.heap.size
  a0 : W.cell? ⟨w.heap.size + 1 + 1, 0, none⟩ = some (.int .i64 st)
  a1 : W.cell? ⟨w.heap.size + 1 + 1, 1, none⟩ = some (.int .i64 v)
  a2 : W.cell? ⟨w.heap.size + 1 + 1, 2, none⟩ = some (.int .i64 val)
  a3 : W.cell? ⟨w.heap.size + 1 + 1, 3, none⟩ = some (.int .i64 got)
  a4 : W.cell? ⟨w.heap.size + 1 + 1, 4, none⟩ = some (.bool sm)
theorem Bx3.next {w : World} {N : Int} {A : Option Addr} {n c : Nat} {p s l q st v val got : Int} {sm : Bool} {W W' : World} (h : Bx3 w N A n c p s l q st v val got sm W) (hb : Below W.heap.size W W') : Bx3 w N A n c p s l q st v val got sm W' :=
  have k : ∀ o, W'.cell? ⟨w.heap.size + 1 + 1, o, none⟩ = W.cell? ⟨w.heap.size + 1 + 1, o, none⟩ := fun o => hb.cell (p := ⟨w.heap.size + 1 + 1, o, none⟩) h.z
  ⟨h.x.next hb, Nat.lt_of_lt_of_le h.z hb.size, (k _).trans h.a0, (k _).trans h.a1, (k _).trans h.a2, (k _).trans h.a3, (k _).trans h.a4⟩
theorem Bx3.init (w : World) (N : Int) (A : Option Addr) (n c : Nat) (p s l q st v val got : Int) (sm : Bool) :
    Bx3 w N A n c p s l q st v val got sm (((w.alloc (.cells #[.int .i64 N, .slice A n c] 24)).alloc (.cells #[.int .i64 p, .int .i64 s, .int .i64 l, .int .i64 q] 26)).alloc (.cells #[.int .i64 st, .int .i64 v, .int .i64 val, .int .i64 got, .bool sm] 43)) :=
  ⟨(Bx.init w N A n c p s l q).alloc _, by simp, by simp [go_sem], by simp [go_sem], by simp [go_sem], by simp [go_sem], by simp [go_sem]⟩

theorem turnR_len (N : Int) (A : Option Addr) (n c : Nat) (es : List Ed) (p s l q st v val got : Int) (sm : Bool) : (turnR N es p s l q st v val got sm).2.1.length ≤ 80 := by
  unfold turnR
  by_cases h1 : vchk N es p s l q v = 0
  · rw [if_pos h1]
    split
    · simp
    · split
      · split
        · split
          · have := out_len N es v (chk_zero (jchk_zero (vchk_zero h1).1).1).2.2.1
            simpa [msgL] using this
          · simp
        · simp
      · simp
  · rw [if_neg h1]; simp

end Go.Proofs.Ytielmlcgdolgkaa
