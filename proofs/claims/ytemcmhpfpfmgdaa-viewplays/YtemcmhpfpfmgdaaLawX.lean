import Derived.Test.YtemcmhpfpfmgdaaLawC
/-
  Words for what an act leaves in a variable of its own. No condition.
-/
namespace Go.Proofs.Ytemcmhpfpfmgdaa
open Go.ChangeShapes Go.WideShapes Go.ChangeAt Go.RowKit Go.Maps
set_option linter.unusedVariables false

/-- Behind wr a view stands boxed in a block of its own; its members lie in no block that lay in w's place, nor there. -/
structure Xc (wr : World) (b bx : Nat) (yn : Int) (X : Option Addr) (d : Nat) (yl : List Mb) (W : World) : Prop where
  bw : Below wr.heap.size wr W
  hb : wr.heap.size ≤ bx
  hy : W.heap[bx]? = some (.cells #[.int .i64 yn, .slice X yl.length d] 24 (0, 0))
  ly : Lx W b 2 X yl.length (mc yl)
  lz : Lx W bx 2 X yl.length (mc yl)
theorem xc_b {wr w6 : World} {b : Nat} {yn : Int} {X : Option Addr} {d : Nat} {yl : List Mb} (hb : b < wr.heap.size) (ho : w6.ownsRow wr.drew.heap.size 59 2 (.slice X yl.length d) yl.length (mc yl)) (h6 : Below wr.heap.size wr w6) :
    Xc wr b w6.heap.size yn X d yl (w6.alloc (.cells #[.int .i64 yn, .slice X yl.length d] 24)) := by
  have ho' := own_next ho (below_alloc w6 (.cells #[.int .i64 yn, .slice X yl.length d] 24))
  refine ⟨h6.trans ((below_alloc w6 _).mono h6.size), h6.size, World.alloc_heap_new w6 _, Lx.of_own ho' hb, ⟨Lies.of_own ho', fun hne ad ea => ?_⟩⟩
  rcases ho.2 with ⟨hv, _⟩ | ⟨g, cap, cur, hv, hg, hgb, _⟩
  · injection hv with e1 _ _; rw [ea] at e1; cases e1
  · injection hv with e1 _ _
    rw [ea] at e1
    injection e1 with e1
    subst e1
    have := (Array.getElem?_eq_some_iff.1 hgb).1
    show g ≠ w6.heap.size
    omega
theorem xc_a {wr w6 : World} {b : Nat} {yn : Int} {X : Option Addr} {d : Nat} {yl : List Mb} {u v : Value} (hb : b < wr.heap.size) (ho : w6.ownsRow (wr.alloc (.cells #[.int .i64 0, .slice none 0 0] 24)).drew.heap.size 59 2 (.slice X yl.length d) yl.length (mc yl)) (h6 : Below wr.heap.size wr w6)
    (hz : w6.heap[wr.heap.size]? = some (.cells #[u, v] 24 (0, 0))) :
    Xc wr b wr.heap.size yn X d yl ((w6.setCell ⟨wr.heap.size, 0, none⟩ (.int .i64 yn)).setCell ⟨wr.heap.size, 1, none⟩ (.slice X yl.length d)) := by
  have hs : (wr.alloc (.cells #[.int .i64 0, .slice none 0 0] 24)).drew.heap.size = wr.heap.size + 1 := by show (wr.alloc _).heap.size = _; simp
  have ho' := own_set2 ho (b := wr.heap.size) (by rw [hs]; omega) (.int .i64 yn) (.slice X yl.length d)
  exact ⟨below_set2 h6 (Nat.le_refl _) _ _, Nat.le_refl _, set2_at hz _ _, Lx.of_own ho' (by rw [hs]; omega), Lx.of_own ho' (by rw [hs]; omega)⟩
theorem Xc.next {wr : World} {b bx : Nat} {yn : Int} {X : Option Addr} {d : Nat} {yl : List Mb} {W W' : World} (h : Xc wr b bx yn X d yl W) (hb : Below W.heap.size W W') : Xc wr b bx yn X d yl W' :=
  ⟨h.bw.trans (hb.mono h.bw.size), h.hb, (hb.block _ (Array.getElem?_eq_some_iff.1 h.hy).1).trans h.hy, h.ly.next hb, h.lz.next hb⟩
end Go.Proofs.Ytemcmhpfpfmgdaa
