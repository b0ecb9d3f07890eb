/-
  The walks of GraphPrints and GraphOuts. Condition: Go's own table of powers of ten lies in memory.
-/
import Derived.Test.YtcjghomjjnaddaaDoorLawA
namespace Go.Proofs.YtcjghomjjnaddaaDoor
open Go.RowKit
set_option linter.unusedVariables false

set_option maxHeartbeats 1000000 in
theorem prints_walk (N : Int) (A : Option Addr) (n c : Nat) (es : List Ed) (w : World) (hA : Lies w w.heap.size 3 A n (ec es)) (hnc : n ≤ c) (hn : n ≤ maxLen) (hg : Gr w) :
    Calls Tryd.prog 4 #[.agg #[.int .i64 N, .slice A n c]] w fun e w' => e = .returned (.bool true) ∧ Below w.heap.size w w' := by
  have HG := Lib.hid hg
  clear hg
  by_cases h200 : 200 < n
  · go_enter Tryd.func4, Tryd.ntmps4
    go_wp2_with fail
    refine (great_any N A n c _ true (by simpa using h200)).mono ?_
    rintro e w1 ⟨rfl, hb1⟩
    have hb01 : Below w.heap.size w w1 := (below_alloc _ _).trans (hb1.mono (by simp))
    go_wp2_with fail
    refine (knows_any _ (HG.out.next hb01)).mono ?_
    rintro e w2 ⟨rfl, hb2⟩
    have hb02 := hb01.trans (hb2.mono hb01.size)
    go_wp2_with fail
    go_ret
    exact ⟨rfl, hb02⟩
  · by_cases hok : chk N es = 0
    · obtain ⟨t, ht⟩ : ∃ t : ByteArray, t = ⟨(txt N es).toArray⟩ := ⟨_, rfl⟩
      have HT := Lib.hid ht
      have HOK := Lib.hid hok
      clear ht hok
      go_enter Tryd.func4, Tryd.ntmps4
      go_wp2_with fail
      refine (great_any N A n c _ false (by simpa using h200)).mono ?_
      rintro e w1 ⟨rfl, hb1⟩
      have hp1 : w.heap.size + 1 ≤ w1.heap.size ∧ w1.cell? ⟨w.heap.size, 0, none⟩ = some (.int .i64 N) ∧ w1.cell? ⟨w.heap.size, 1, none⟩ = some (.slice A n c) ∧ Below w.heap.size w w1 :=
        pk4 ⟨by simp, by simp [go_sem], by simp [go_sem], below_alloc _ _⟩ hb1
      obtain ⟨g1, g2, g3, g4⟩ := id hp1
      clear hb1
      go_wp2_with fail
      refine (print_any N A n c es w1 (hA.next g4) hnc hn (HG.out.next g4) HOK.out).mono ?_
      rintro e w2 ⟨he, hb2⟩
      rw [← HT.out] at he
      subst he
      have hp2 := pk4 hp1 hb2
      clear hp1 hb2 g1 g2 g3 g4
      obtain ⟨g1, g2, g3, g4⟩ := id hp2
      go_wp2_with fail
      refine (rcheck_any N A n c es w2 (hA.next g4) hnc hn).mono ?_
      rintro e w3 ⟨rfl, hb3⟩
      rw [HOK.out]
      have hp3 := pk4 hp2 hb3
      clear hp2 hb3 g1 g2 g3 g4
      obtain ⟨g1, g2, g3, g4⟩ := id hp3
      go_wp2_with fail
      refine (rprint_any N A n c es w3 (hA.next g4) hnc HOK.out).mono ?_
      rintro e w4 ⟨he, hb4⟩
      rw [← HT.out] at he
      subst he
      have hp4 := pk4 hp3 hb4
      clear hp3 hb4 g1 g2 g3 g4
      obtain ⟨g1, g2, g3, g4⟩ := id hp4
      go_wp2_with fail
      refine (knows_any _ (HG.out.next g4)).mono ?_
      rintro e w5 ⟨rfl, hb5⟩
      have hp5 := pk4 hp4 hb5
      go_wp2_with fail
      go_ret
      exact ⟨rfl, hp5.2.2.2⟩
    · have h1 : (chk N es != 0) = true := by simpa using hok
      have h2 : (chk N es == chk N es) = true := by simp
      have HOK := Lib.hid hok
      clear hok
      go_enter Tryd.func4, Tryd.ntmps4
      go_wp2_with fail
      refine (great_any N A n c _ false (by simpa using h200)).mono ?_
      rintro e w1 ⟨rfl, hb1⟩
      have hp1 : w.heap.size + 1 ≤ w1.heap.size ∧ w1.cell? ⟨w.heap.size, 0, none⟩ = some (.int .i64 N) ∧ w1.cell? ⟨w.heap.size, 1, none⟩ = some (.slice A n c) ∧ Below w.heap.size w w1 :=
        pk4 ⟨by simp, by simp [go_sem], by simp [go_sem], below_alloc _ _⟩ hb1
      obtain ⟨g1, g2, g3, g4⟩ := id hp1
      clear hb1
      go_wp2_with fail
      refine (print_no N A n c es w1 (hA.next g4) hnc hn HOK.out).mono ?_
      rintro e w2 ⟨rfl, hb2⟩
      have hp2 := pk4 hp1 hb2
      clear hp1 hb2 g1 g2 g3 g4
      obtain ⟨g1, g2, g3, g4⟩ := id hp2
      go_wp2_with fail
      refine (rcheck_any N A n c es w2 (hA.next g4) hnc hn).mono ?_
      rintro e w3 ⟨rfl, hb3⟩
      have hp3 := pk4 hp2 hb3
      clear hp2 hb3 g1 g2 g3 g4
      obtain ⟨g1, g2, g3, g4⟩ := id hp3
      go_wp2_with fail
      refine (knows_any _ (HG.out.next g4)).mono ?_
      rintro e w5 ⟨rfl, hb5⟩
      have hp5 := pk4 hp3 hb5
      go_wp2_with fail
      go_ret
      exact ⟨rfl, hp5.2.2.2⟩

set_option maxHeartbeats 1000000 in
theorem outs_walk (N : Int) (A : Option Addr) (n c : Nat) (es : List Ed) (v : Int) (w : World) (hA : Lies w w.heap.size 3 A n (ec es)) (hnc : n ≤ c) (hn : n ≤ maxLen) (hg : Gr w) :
    Calls Tryd.prog 5 #[.agg #[.int .i64 N, .slice A n c], .int .i64 v] w fun e w' => e = .returned (.bool true) ∧ Below w.heap.size w w' := by
  have HG := Lib.hid hg
  clear hg
  by_cases h200 : 200 < n
  · go_enter Tryd.func5, Tryd.ntmps5
    go_wp2_with fail
    refine (great_any N A n c _ true (by simpa using h200)).mono ?_
    rintro e w1 ⟨rfl, hb1⟩
    have hb01 : Below w.heap.size w w1 := (below_alloc _ _).trans (hb1.mono (by simp))
    go_wp2_with fail
    refine (knows_any _ (HG.out.next hb01)).mono ?_
    rintro e w2 ⟨rfl, hb2⟩
    have hb02 := hb01.trans (hb2.mono hb01.size)
    go_wp2_with fail
    go_ret
    exact ⟨rfl, hb02⟩
  · have hlen : (outE N es v).length ≤ es.length := by unfold outE; split; exact fromV_len v es; simp
    have hes := hA.ed_len
    go_enter Tryd.func5, Tryd.ntmps5
    go_wp2_with fail
    refine (great_any N A n c _ false (by simpa using h200)).mono ?_
    rintro e w1 ⟨rfl, hb1⟩
    have hp1 : w.heap.size + 1 ≤ w1.heap.size ∧ w1.cell? ⟨w.heap.size, 0, none⟩ = some (.int .i64 N) ∧ w1.cell? ⟨w.heap.size, 1, none⟩ = some (.slice A n c) ∧ Below w.heap.size w w1 :=
      pk4 ⟨by simp, by simp [go_sem], by simp [go_sem], below_alloc _ _⟩ hb1
    have HO1 := Lib.hid (fun W (h : Below w.heap.size w W) => out_any N A n c es v W (hA.next h) hnc hn)
    have HO2 := Lib.hid (fun W (h : Below w.heap.size w W) => rout_any N A n c es v W (hA.next h) hnc hn)
    have hL : (outE N es v).length ≤ maxLen := by omega
    have HES := Lib.hid hes
    clear hb1 hes
    generalize outE N es v = out at *
    obtain ⟨g1, g2, g3, g4⟩ := id hp1
    go_wp2_with fail
    go_region_held3 (fun w' => w.heap.size + 1 ≤ w'.heap.size ∧ w'.cell? ⟨w.heap.size, 0, none⟩ = some (.int .i64 N) ∧ w'.cell? ⟨w.heap.size, 1, none⟩ = some (.slice A n c) ∧ Below w.heap.size w w')
      (first | exact q2 | exact q1 | exact ⟨g1, g2, g3, g4.drew⟩)
      (first | ((go_at_call 15); (with_reducible refine (HO1.out _ g4.drew).mono ?_); rintro e w2 ⟨hb2, A2, c2, rfl, ho2⟩; have q1 := pk4 (W := w1.drew) ⟨g1, g2, g3, g4.drew⟩ hb2) | ((go_at_call 16); (with_reducible refine (HO2.out _ q1.2.2.2).mono ?_); rintro e w3 ⟨hb3, A3, c3, rfl, ho3⟩; have q2 := pk4 q1 hb3))
    have hf := q2.2.2.2
    have hL2 := (Lies.of_own ho2).next hb3
    have hL3 := Lies.of_own ho3
    clear ho2 ho3 hb2 hb3 q1 q2 g1 g2 g3 g4 hp1
    go_wp2_with fail
    refine (same_yes 0 A2 out.length c2 A3 c3 out w3 hL2 hL3 hL).mono ?_
    rintro e w4 ⟨rfl, hb4⟩
    have hf4 : Below w.heap.size w w4 := hf.trans (hb4.mono hf.size)
    go_wp2_with fail
    refine (knows_any _ (HG.out.next hf4)).mono ?_
    rintro e w5 ⟨rfl, hb5⟩
    have hf5 : Below w.heap.size w w5 := hf4.trans (hb5.mono hf4.size)
    go_wp2_with fail
    go_ret
    exact ⟨rfl, hf5⟩
end Go.Proofs.YtcjghomjjnaddaaDoor
