/-
  The walk of GraphChecks. Condition: Go's own table of powers of ten lies in memory.
-/
import Derived.Test.YtcjghomjjnaddaaDoorWalksQ
namespace Go.Proofs.YtcjghomjjnaddaaDoor
open Go.RowKit
set_option linter.unusedVariables false

/-- The boxed argument stands, and all that lay there when the call began. -/
def Pk (w0 : World) (v : Value) (W : World) : Prop := w0.heap.size + 1 ≤ W.heap.size ∧ Below (w0.heap.size + 1) (w0.alloc (.cells #[v, v] 24)) W

theorem pk4 {w0 W W' : World} {x y : Value} (h : w0.heap.size + 1 ≤ W.heap.size ∧ W.cell? ⟨w0.heap.size, 0, none⟩ = some x ∧ W.cell? ⟨w0.heap.size, 1, none⟩ = some y ∧ Below w0.heap.size w0 W) (hb : Below W.heap.size W W') :
    w0.heap.size + 1 ≤ W'.heap.size ∧ W'.cell? ⟨w0.heap.size, 0, none⟩ = some x ∧ W'.cell? ⟨w0.heap.size, 1, none⟩ = some y ∧ Below w0.heap.size w0 W' := by
  obtain ⟨h1, h2, h3, h4⟩ := h
  exact ⟨Nat.le_trans h1 hb.size, (hb.cell (p := ⟨w0.heap.size, 0, none⟩) h1).trans h2, (hb.cell (p := ⟨w0.heap.size, 1, none⟩) h1).trans h3, h4.trans (hb.mono (by omega))⟩

theorem check_held {w0 : World} {N : Int} {A : Option Addr} {n c : Nat} {es : List Ed} (hA : Lies w0 w0.heap.size 3 A n (ec es)) (hnc : n ≤ c) (hn : n ≤ maxLen) {x y : Value} (W : World)
    (h : w0.heap.size + 1 ≤ W.heap.size ∧ W.cell? ⟨w0.heap.size, 0, none⟩ = some x ∧ W.cell? ⟨w0.heap.size, 1, none⟩ = some y ∧ Below w0.heap.size w0 W) :
    Calls Tryd.prog 11 #[.agg #[.int .i64 N, .slice A n c]] W fun e w' => e = .returned (.int .i64 (chk N es)) ∧ (w0.heap.size + 1 ≤ w'.heap.size ∧ w'.cell? ⟨w0.heap.size, 0, none⟩ = some x ∧ w'.cell? ⟨w0.heap.size, 1, none⟩ = some y ∧ Below w0.heap.size w0 w') :=
  (check_any N A n c es W (hA.next h.2.2.2) hnc hn).mono fun _ _ ⟨he, hb⟩ => ⟨he, pk4 h hb⟩
theorem rcheck_held {w0 : World} {N : Int} {A : Option Addr} {n c : Nat} {es : List Ed} (hA : Lies w0 w0.heap.size 3 A n (ec es)) (hnc : n ≤ c) (hn : n ≤ maxLen) {x y : Value} (W : World)
    (h : w0.heap.size + 1 ≤ W.heap.size ∧ W.cell? ⟨w0.heap.size, 0, none⟩ = some x ∧ W.cell? ⟨w0.heap.size, 1, none⟩ = some y ∧ Below w0.heap.size w0 W) :
    Calls Tryd.prog 12 #[.agg #[.int .i64 N, .slice A n c]] W fun e w' => e = .returned (.int .i64 (chk N es)) ∧ (w0.heap.size + 1 ≤ w'.heap.size ∧ w'.cell? ⟨w0.heap.size, 0, none⟩ = some x ∧ w'.cell? ⟨w0.heap.size, 1, none⟩ = some y ∧ Below w0.heap.size w0 w') :=
  (rcheck_any N A n c es W (hA.next h.2.2.2) hnc hn).mono fun _ _ ⟨he, hb⟩ => ⟨he, pk4 h hb⟩
theorem knows_held {w0 : World} (hg : Gr w0) {x y : Value} (W : World)
    (h : w0.heap.size + 1 ≤ W.heap.size ∧ W.cell? ⟨w0.heap.size, 0, none⟩ = some x ∧ W.cell? ⟨w0.heap.size, 1, none⟩ = some y ∧ Below w0.heap.size w0 W) :
    Calls Tryd.prog 10 #[] W fun e w' => e = .returned (.bool true) ∧ (w0.heap.size + 1 ≤ w'.heap.size ∧ w'.cell? ⟨w0.heap.size, 0, none⟩ = some x ∧ w'.cell? ⟨w0.heap.size, 1, none⟩ = some y ∧ Below w0.heap.size w0 w') :=
  (knows_any W (hg.next h.2.2.2)).mono fun _ _ ⟨he, hb⟩ => ⟨he, pk4 h hb⟩

set_option maxHeartbeats 1000000 in
theorem checks_walk (N : Int) (A : Option Addr) (n c : Nat) (es : List Ed) (w : World) (hA : Lies w w.heap.size 3 A n (ec es)) (hnc : n ≤ c) (hn : n ≤ maxLen) (hg : Gr w) :
    Calls Tryd.prog 3 #[.agg #[.int .i64 N, .slice A n c]] w fun e w' => e = .returned (.bool true) ∧ Below w.heap.size w w' := by
  have HG := Lib.hid hg
  clear hg
  by_cases h200 : 200 < n
  · go_enter Tryd.func3, Tryd.ntmps3
    go_wp2_with fail
    refine (great_any N A n c _ true (by simpa using h200)).mono ?_
    rintro e w1 ⟨rfl, hb1⟩
    have hb01 : Below w.heap.size w w1 := (below_alloc _ _).trans (hb1.mono (by simp))
    go_wp2_with fail
    refine (knows_any _ (HG.out.next hb01)).mono ?_
    rintro e w2 ⟨rfl, hb2⟩
    have hb02 := hb01.trans (hb2.mono hb01.size)
    go_wp2_with fail
    go_ret
    exact ⟨rfl, hb02⟩
  · go_enter Tryd.func3, Tryd.ntmps3
    go_wp2_with fail
    refine (great_any N A n c _ false (by simpa using h200)).mono ?_
    rintro e w1 ⟨rfl, hb1⟩
    have hp1 : w.heap.size + 1 ≤ w1.heap.size ∧ w1.cell? ⟨w.heap.size, 0, none⟩ = some (.int .i64 N) ∧ w1.cell? ⟨w.heap.size, 1, none⟩ = some (.slice A n c) ∧ Below w.heap.size w w1 :=
      pk4 ⟨by simp, by simp [go_sem], by simp [go_sem], below_alloc _ _⟩ hb1
    obtain ⟨g1, g2, g3, g4⟩ := id hp1
    clear hb1
    go_wp2_with fail
    go_region_held3 (fun w' => w.heap.size + 1 ≤ w'.heap.size ∧ w'.cell? ⟨w.heap.size, 0, none⟩ = some (.int .i64 N) ∧ w'.cell? ⟨w.heap.size, 1, none⟩ = some (.slice A n c) ∧ Below w.heap.size w w')
      (first | exact q | exact ⟨g1, g2, g3, g4.drew⟩)
      (first | ((go_at_call 11); (with_reducible refine (check_held (x := .int .i64 N) (y := .slice A n c) hA hnc hn _ ?c1).mono ?_); (case c1 => first | assumption | exact ⟨g1, g2, g3, g4.drew⟩); rintro e w2 ⟨rfl, q⟩) | ((go_at_call 12); (with_reducible refine (rcheck_held (x := .int .i64 N) (y := .slice A n c) hA hnc hn _ ?c1).mono ?_); (case c1 => first | assumption | exact ⟨g1, g2, g3, g4.drew⟩); rintro e w2 ⟨rfl, q⟩) | ((go_at_call 10); (with_reducible refine (knows_held (x := .int .i64 N) (y := .slice A n c) HG.out _ ?c1).mono ?_); (case c1 => first | assumption | exact ⟨g1, g2, g3, g4.drew⟩); rintro e w2 ⟨rfl, q⟩))
    go_wp2_with fail
    go_ret
    exact ⟨rfl, q.2.2.2⟩
end Go.Proofs.YtcjghomjjnaddaaDoor
