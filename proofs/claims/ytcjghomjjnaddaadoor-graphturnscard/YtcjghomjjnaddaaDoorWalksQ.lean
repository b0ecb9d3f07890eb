/-
  The contract of knows: the document's examples hold. Condition: Go's own table of powers of ten lies in memory.
-/
import Derived.Test.YtcjghomjjnaddaaDoorWalksN
import Derived.Test.YtcjghomjjnaddaaDoorWalksO
import Derived.Test.YtcjghomjjnaddaaDoorWalksP
namespace Go.Proofs.YtcjghomjjnaddaaDoor
open Go.RowKit
set_option linter.unusedVariables false
theorem kn1 : parseL [103, 114, 97, 112, 104, 32, 50, 10, 101, 100, 103, 101, 32, 49, 32, 48, 32, 53, 10, 101, 100, 103, 101, 32, 48, 32, 49, 32, 55] = ((2, [(0, 1, 7), (1, 0, 5)]), 0, 0) := by decide +kernel
theorem kn2 : parseL [103, 114, 97, 112, 104, 32, 50, 10, 101, 100, 103, 101, 32, 48, 32, 50, 32, 49, 10] = ((0, []), 2, 4) := by decide +kernel
theorem kn3 : chk 2 [(0, 1, 7), (1, 0, 5)] = 0 := by decide +kernel
theorem kn4 : txt 2 [(0, 1, 7), (1, 0, 5)] = [103, 114, 97, 112, 104, 32, 50, 10, 101, 100, 103, 101, 32, 48, 32, 49, 32, 55, 10, 101, 100, 103, 101, 32, 49, 32, 48, 32, 53, 10] := by
  simp [txt, headL, lines, line, dec, Lib.decDigits_one]
theorem kn5 : outE 2 [(0, 1, 7), (1, 0, 5)] 1 = [(1, 0, 5)] := by decide +kernel

set_option maxHeartbeats 1000000 in
set_option maxRecDepth 100000 in
theorem knows_any (w : World) (hgr : Gr w) : Calls Tryd.prog 10 #[] w fun e w' => e = .returned (.bool true) ∧ Below w.heap.size w w' := by
  have HG := Lib.hid hgr
  clear hgr
  go_enter Tryd.func10, Tryd.ntmps10
  go_wp2_with fail
  refine (parse_any _ [103, 114, 97, 112, 104, 32, 50, 10, 101, 100, 103, 101, 32, 49, 32, 48, 32, 53, 10, 101, 100, 103, 101, 32, 48, 32, 49, 32, 55] _ rfl (by decide)).mono ?_
  rintro e w1 ⟨hb1, A1, c1, he, hL1, hc1⟩
  rw [kn1] at he hL1 hc1
  subst he
  go_wp2_with fail
  obtain ⟨w2, hw2⟩ : ∃ w2, w2 = w1.alloc (.cells #[.int .i64 2, .slice A1 2 c1] 24) := ⟨_, rfl⟩
  have hb12 : Below w1.heap.size w1 w2 := by rw [hw2]; exact below_alloc _ _
  have hb02 : Below w.heap.size w w2 := hb1.trans (hb12.mono hb1.size)
  have hB2 : w2.heap[w1.heap.size]? = some (.cells #[.int .i64 2, .slice A1 2 c1] 24 (0, 0)) := by rw [hw2]; exact heap_alloc_new w1 _
  have hl2 : w1.heap.size < w2.heap.size := (Array.getElem?_eq_some_iff.1 hB2).1
  have hL2 : Lies w2 w2.heap.size 3 A1 2 (ec [(0, 1, 7), (1, 0, 5)]) := hL1.next hb12
  have HB2 := Lib.hid hB2
  rw [← hw2]
  clear hw2 hB2 hL1
  have hc1' : 2 ≤ c1 := hc1
  refine (print_any 2 A1 2 c1 [(0, 1, 7), (1, 0, 5)] w2 hL2 hc1' (by unfold maxLen; decide) (HG.out.next hb02) kn3).mono ?_
  rintro e w3 ⟨he, hb3⟩
  rw [kn4] at he
  subst he
  have hb03 : Below w.heap.size w w3 := hb02.trans (hb3.mono hb02.size)
  have HB3 := Lib.hid ((hb3.block w1.heap.size hl2).trans HB2.out)
  have hL3 := hL2.next hb3
  have hl3 : w1.heap.size < w3.heap.size := Nat.lt_of_lt_of_le hl2 hb3.size
  clear hb3 hL2 HB2 hb02 hb12 hl2
  go_wp2_with fail
  refine (parse_any _ [103, 114, 97, 112, 104, 32, 50, 10, 101, 100, 103, 101, 32, 48, 32, 50, 32, 49, 10] _ rfl (by decide)).mono ?_
  rintro e w4 ⟨hb4, A4, c4, he, hL4, hc4⟩
  rw [kn2] at he
  subst he
  have hb04 : Below w.heap.size w w4 := hb03.trans (hb4.mono hb03.size)
  have HB4 := Lib.hid ((hb4.block w1.heap.size hl3).trans HB3.out)
  have hL4' := hL3.next hb4
  have hl4 : w1.heap.size < w4.heap.size := Nat.lt_of_lt_of_le hl3 hb4.size
  clear hb4 hL3 HB3 hb03 hl3 hL4 hc4
  have hk0 := blk_cell' HB4.out 0
  have hk1 := blk_cell' HB4.out 1
  simp only [List.getElem?_toArray, List.getElem?_cons_zero, List.getElem?_cons_succ] at hk0 hk1
  have al : ∀ (W : World) (o : Obj) (b k : Nat), b < W.heap.size → (W.alloc o).cell? ⟨b, k, none⟩ = W.cell? ⟨b, k, none⟩ := fun W o b k h => World.cell?_alloc_lt W o ⟨b, k, none⟩ h
  have hb4n : ∀ o, Below w.heap.size w (w4.alloc o) := fun o => hb04.alloc hb04.size o
  have hL4n : ∀ o, Lies (w4.alloc o) (w4.alloc o).heap.size 3 A1 2 (ec [(0, 1, 7), (1, 0, 5)]) := fun o => hL4'.next (below_alloc w4 o)
  clear hb04 hL4'
  go_wp2_with fail
  refine (out_any 2 A1 2 c1 [(0, 1, 7), (1, 0, 5)] 1 _ (hL4n _) hc1' (by unfold maxLen; decide)).mono ?_
  rintro e w5 ⟨hb5, A5, c5, he, ho5⟩
  rw [kn5] at he ho5
  subst he
  obtain ⟨ad, had, _, e0, e1, e2⟩ := (Lies.of_own (n := 1) ho5).ed (es := [(1, 0, 5)]) 0 (by decide)
  subst had
  have hb05 : Below w.heap.size w w5 := (hb4n _).trans (hb5.mono (hb4n _).size)
  clear e0 e1 hb4n hL4n hb5 ho5 hk0 hk1 al
  have e2' : w5.cell? ⟨ad.block, ad.off + 2, none⟩ = some (.int .i64 5) := by simpa [add_zero, eAt] using e2
  clear e2
  go_wp2_with fail
  go_ret
  exact ⟨rfl, hb05⟩
end Go.Proofs.YtcjghomjjnaddaaDoor
