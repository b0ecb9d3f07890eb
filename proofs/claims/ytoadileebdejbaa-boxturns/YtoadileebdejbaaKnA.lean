/-
  The contracts of Same, of the document's own, and of the examples (knows), which come out true. No condition but that the messages are not too many.
-/
import Derived.Test.YtoadileebdejbaaFdB
namespace Go.Proofs.Ytoadileebdejbaa
open Go.RowKit Go.Sort
set_option linter.unusedVariables false

theorem same_any (A : Option Addr) (n c : Nat) (a : List Ms) (A' : Option Addr) (n' c' : Nat) (b : List Ms) (w : World) (hA : Lies w w.heap.size 2 A n (mc a)) (hA' : Lies w w.heap.size 2 A' n' (mc b)) (hn : n ≤ 1000000) (hn' : n' ≤ 1000000) :
    Calls Try.prog 22 #[.slice A n c, .slice A' n' c'] w fun e w' => e = .returned (.bool (decide (msort a = msort b))) ∧ Below w.heap.size w w' := by
  have hl := hA.ms_len
  have hl' := hA'.ms_len
  have HC := Lib.hid (sort_any A n c a w hA hn)
  have HA' := Lib.hid hA'
  clear hA hA'
  go_enter Try.func22, Try.ntmps22
  go_wp2_with fail
  refine HC.out.mono ?_
  rintro e w1 ⟨A1, c1, rfl, ho1, hb1⟩
  have HO1 := Lib.hid ho1
  have HB1 := Lib.hid hb1
  have HC2 := Lib.hid (sort_any A' n' c' b w1 (HA'.out.next hb1) hn')
  clear ho1 hb1 HC
  go_wp2_with fail
  refine HC2.out.mono ?_
  rintro e w2 ⟨A2, c2, rfl, ho2, hb2⟩
  have HC3 := Lib.hid (equal_any A1 _ c1 (msort a) A2 _ c2 (msort b) w2 ((Lies.of_own HO1.out).next hb2) (Lies.of_own ho2) (by rw [msort_len]; omega) (by rw [msort_len]; omega))
  have HB2 := Lib.hid (HB1.out.trans (hb2.mono HB1.out.size))
  clear ho2 hb2 HC2
  go_wp2_with fail
  refine HC3.out.mono ?_
  rintro e w3 ⟨rfl, hb3⟩
  have HB3 := Lib.hid (HB2.out.trans (hb3.mono HB2.out.size))
  clear hb3
  go_wp2_with fail
  go_ret
  exact ⟨rfl, HB3.out⟩

theorem rsame_any (A : Option Addr) (n c : Nat) (a : List Ms) (A' : Option Addr) (n' c' : Nat) (b : List Ms) (w : World) (hA : Lies w w.heap.size 2 A n (mc a)) (hA' : Lies w w.heap.size 2 A' n' (mc b)) (hn : n ≤ 1000000) (hn' : n' ≤ 1000000) :
    Calls Try.prog 23 #[.slice A n c, .slice A' n' c'] w fun e w' => e = .returned (.bool (decide (msort a = msort b))) ∧ Below w.heap.size w w' := by
  have hl := hA.ms_len
  have hl' := hA'.ms_len
  have HC := Lib.hid (rsort_any A n c a w hA hn)
  have HA' := Lib.hid hA'
  clear hA hA'
  go_enter Try.func23, Try.ntmps23
  go_wp2_with fail
  refine HC.out.mono ?_
  rintro e w1 ⟨A1, c1, rfl, ho1, hb1⟩
  have HO1 := Lib.hid ho1
  have HB1 := Lib.hid hb1
  have HC2 := Lib.hid (rsort_any A' n' c' b w1 (HA'.out.next hb1) hn')
  clear ho1 hb1 HC
  go_wp2_with fail
  refine HC2.out.mono ?_
  rintro e w2 ⟨A2, c2, rfl, ho2, hb2⟩
  have HC3 := Lib.hid (sameM_any A1 _ c1 (msort a) A2 _ c2 (msort b) w2 ((Lies.of_own HO1.out).next hb2) (Lies.of_own ho2) (by rw [msort_len]; omega) (by rw [msort_len]; omega))
  have HB2 := Lib.hid (HB1.out.trans (hb2.mono HB1.out.size))
  clear ho2 hb2 HC2
  go_wp2_with fail
  refine HC3.out.mono ?_
  rintro e w3 ⟨rfl, hb3⟩
  have HB3 := Lib.hid (HB2.out.trans (hb3.mono HB2.out.size))
  clear hb3
  go_wp2_with fail
  go_ret
  exact ⟨rfl, HB3.out⟩

/-- The examples' messages. -/
def exM : List Ms := [(1, 5), (0, 9), (1, 2)]
theorem ex_sort : msort exM = [(0, 9), (1, 2), (1, 5)] := by decide +kernel
theorem ex_fold : fdR 5 exM = [(0, 9), (1, 7)] ∧ fdC 5 exM = 0 := by decide +kernel
theorem ex_at : atV exM 1 = 5 ∧ atB exM 1 = true := by decide +kernel
theorem ex_bd : ∀ e ∈ exM, bd e.2 := by unfold bd exM; simp

set_option maxHeartbeats 2000000 in
theorem knows_any (w : World) : Calls Try.prog 11 #[] w fun e w' => e = .returned (.bool true) ∧ Below w.heap.size w w' := by
  obtain ⟨o, ho⟩ : ∃ o : Obj, o = .cells #[.int .i64 1, .int .i64 5, .int .i64 0, .int .i64 9, .int .i64 1, .int .i64 2] 40 := ⟨_, rfl⟩
  have hl1 : Lies (w.alloc o) (w.alloc o).heap.size 2 (some ⟨w.heap.size, 0, none⟩) 3 (mc exM) := by
    rw [ho]; exact (lies_cells w (mc exM) 40 3 2 rfl).more (by simp)
  have hb1 := below_alloc w o
  have HC1 := Lib.hid (sort_any _ 3 3 exM _ hl1 (by omega))
  rw [ex_sort] at HC1
  have HL1 := Lib.hid hl1
  have HB1 := Lib.hid hb1
  rw [ho] at HC1 HL1 HB1
  clear hl1 hb1 ho
  go_enter Try.func11, Try.ntmps11
  go_wp2_with fail
  refine HC1.out.mono ?_
  rintro e w2 ⟨A2, c2, rfl, ho2, hb2⟩
  have hb2' := HB1.out.trans (hb2.mono HB1.out.size)
  obtain ⟨g2, rfl, _, _⟩ := own_some ho2 (by decide)
  have HO2 := Lib.hid ho2
  have HL2 := Lib.hid (HL1.out.next hb2)
  have HB2 := Lib.hid hb2'
  have hc := fdf_any 5 _ 3 3 exM w2 HL2.out (by omega) ex_bd
  rw [ex_fold.1, ex_fold.2] at hc
  have HC2 := Lib.hid hc
  clear hc ho2 hb2 hb2' HC1 HL1 HB1
  go_wp2_with fail
  refine HC2.out.mono ?_
  rintro e w3 ⟨A3, c3, rfl, ho3, hb3⟩
  obtain ⟨g3, rfl, _, _⟩ := own_some ho3 (by decide)
  have HO3 := Lib.hid ho3
  have HS3 := Lib.hid (own_next HO2.out hb3)
  have HL3 := Lib.hid (HL2.out.next hb3)
  have HB3 := Lib.hid (HB2.out.trans (hb3.mono HB2.out.size))
  have hc := at_any _ 3 3 exM 1 w3 HL3.out (by omega)
  rw [ex_at.1, ex_at.2] at hc
  have HC3 := Lib.hid hc
  clear hc ho3 hb3 HC2 HL2 HB2 HO2
  go_wp2_with fail
  refine HC3.out.mono ?_
  rintro e w4 ⟨rfl, hb4⟩
  have HS4 := Lib.hid (own_next HS3.out hb4)
  have HO4 := Lib.hid (own_next HO3.out hb4)
  have HL4 := Lib.hid (HL3.out.next hb4)
  have HB4 := Lib.hid (HB3.out.trans (hb4.mono HB3.out.size))
  have hc := same_any _ 3 c2 _ _ 3 3 exM w4 (Lies.of_own HS4.out) HL4.out (by omega) (by omega)
  rw [show decide (msort [(0, 9), (1, 2), (1, 5)] = msort exM) = true by decide +kernel] at hc
  have HC4 := Lib.hid hc
  have s0 : w4.cell? ⟨g2, 2, none⟩ = some (.int .i64 1) := (own_cell HS4.out 1 (by decide)).1
  have s1 : w4.cell? ⟨g2, 3, none⟩ = some (.int .i64 2) := (own_cell HS4.out 1 (by decide)).2
  have f1 : w4.cell? ⟨g3, 3, none⟩ = some (.int .i64 7) := (own_cell HO4.out 1 (by decide)).2
  clear hc hb4 HC3 HL3 HB3 HS3 HO3 HS4 HO4
  go_wp2_with fail
  refine HC4.out.mono ?_
  rintro e w5 ⟨rfl, hb5⟩
  have hll : LL (w5.alloc (.cells #[.slice (some ⟨w.heap.size, 0, none⟩) 3 3, .slice (some ⟨w.heap.size, 0, none⟩) 3 3] 22)) (w5.alloc (.cells #[.slice (some ⟨w.heap.size, 0, none⟩) 3 3, .slice (some ⟨w.heap.size, 0, none⟩) 3 3] 22)).heap.size (some ⟨w5.heap.size, 0, none⟩) 2 [(some ⟨w.heap.size, 0, none⟩, 3, 3, exM), (some ⟨w.heap.size, 0, none⟩, 3, 3, exM)] := by
    refine ⟨(lies_cells w5 [.slice (some ⟨w.heap.size, 0, none⟩) 3 3, .slice (some ⟨w.heap.size, 0, none⟩) 3 3] 22 2 1 rfl).more (by simp), fun x hx => ?_⟩
    have hx' : x = (some ⟨w.heap.size, 0, none⟩, 3, 3, exM) := by simpa using hx
    rw [hx']
    exact (HL4.out.next hb5).next (below_alloc _ _)
  have HC5 := Lib.hid (join_any _ 2 2 _ _ hll (by omega) (by show (6 : Nat) ≤ 1000000; omega))
  have HB5 := Lib.hid (HB4.out.trans (hb5.mono HB4.out.size))
  clear hb5 HC4 HL4 HB4 hll s0 s1 f1
  go_wp2_with fail
  refine HC5.out.mono ?_
  rintro e w6 h6
  obtain ⟨A6, c6, rfl, ho6, hb6⟩ := h6.up (below_alloc _ _)
  have HB6 := Lib.hid (HB5.out.trans (hb6.mono HB5.out.size))
  have hlen : (msort (lcat [(some ⟨w.heap.size, 0, none⟩, 3, 3, exM), (some ⟨w.heap.size, 0, none⟩, 3, 3, exM)])).length = 6 := by rw [msort_len]; rfl
  rw [hlen]
  clear ho6 hb6 h6 HC5 hlen
  go_wp2_with fail
  go_ret
  exact ⟨rfl, HB6.out⟩

end Go.Proofs.Ytoadileebdejbaa
