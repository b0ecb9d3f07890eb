import Derived.Test.YtcaccjfnibjbpaaKd
/-
  Contracts of the document's own Start, Fold, sum and sent, and of the examples' graph. No condition but that the numbers are of 64 bits and the vertex one of a graph that is right.
-/
namespace Go.Proofs.Ytcaccjfnibjbpaa
open Go.ChangeShapes Go.WideShapes Go.ChangeAt Go.RowKit
set_option linter.unusedVariables false

set_option maxHeartbeats 1000000 in
theorem rfold_any (p a b : Int) (w : World) (ha : bd a) (hb : bd b) :
    Calls Try.prog 58 #[.int .i64 p, .int .i64 a, .int .i64 b] w fun e w' => e = .returned (.tuple #[.int .i64 (fdX p a b), .int .i64 (fdE p a b)]) ∧ w = w' := by
  by_cases hp : 1 ≤ p ∧ p ≤ 5
  · by_cases h5 : p = 5
    · subst h5
      by_cases hf : fits (a + b) = true
      · have HR := Lib.hid (show fdX 5 a b = told (a + b) ∧ fdE 5 a b = 0 by
          have e1 : foldB 5 a b = true := hf
          unfold fdX fdE
          rw [if_pos hp, if_pos e1, if_pos hp, if_pos e1]; exact ⟨rfl, rfl⟩)
        clear hp
        have HF := Lib.hid hf
        clear hf
        go_enter Try.func58, Try.ntmps58
        go_wp2_with fail
        refine (radd_any a b _ ha.1 ha.2 hb.1 hb.2).mono ?_
        rintro e w' ⟨rfl, rfl⟩
        rw [HF.out]
        go_wp2_with fail
        go_ret2
        exact ⟨ret_ii HR.out.1.symm HR.out.2.symm, rfl⟩
      · have hf' : fits (a + b) = false := by simpa using hf
        have HR := Lib.hid (show fdX 5 a b = 0 ∧ fdE 5 a b = 8 by
          have e1 : ¬ foldB 5 a b = true := hf
          unfold fdX fdE
          rw [if_pos hp, if_neg e1, if_pos hp, if_neg e1]; exact ⟨rfl, rfl⟩)
        clear hp hf
        have HF := Lib.hid hf'
        clear hf'
        go_enter Try.func58, Try.ntmps58
        go_wp2_with fail
        refine (radd_any a b _ ha.1 ha.2 hb.1 hb.2).mono ?_
        rintro e w' ⟨rfl, rfl⟩
        rw [HF.out]
        go_wp2_with fail
        go_ret2
        exact ⟨ret_ii HR.out.1.symm HR.out.2.symm, rfl⟩
    · have HR := Lib.hid (show fdX p a b = (if p = 4 then greatI a b else lessI a b) ∧ fdE p a b = 0 by
        have e1 : foldB p a b = true := by unfold foldB; rw [if_neg h5]
        unfold fdX fdE
        rw [if_pos hp, if_pos e1, if_pos hp, if_pos e1]
        unfold foldX
        rw [if_neg h5]; exact ⟨rfl, rfl⟩)
      have h5' : (p == 5) = false := by simpa using h5
      obtain ⟨p1, p2⟩ : ¬ p < 1 ∧ ¬ 5 < p := by omega
      clear h5 hp
      by_cases h4 : p = 4
      · subst h4
        by_cases h : b < a
        · go_enter Try.func58, Try.ntmps58
          go_wp2_with fail
          go_ret2
          exact ⟨ret_ii (by rw [HR.out.1]; simp only [if_true]; unfold greatI; rw [if_neg (by omega)]) HR.out.2.symm, rfl⟩
        · go_enter Try.func58, Try.ntmps58
          go_wp2_with fail
          go_ret2
          exact ⟨ret_ii (by rw [HR.out.1]; simp only [if_true]; unfold greatI; split <;> omega) HR.out.2.symm, rfl⟩
      · have h4' : (p == 4) = false := by simpa using h4
        have H4 := Lib.hid h4
        clear h4
        by_cases h : a < b
        · go_enter Try.func58, Try.ntmps58
          go_wp2_with fail
          go_ret2
          exact ⟨ret_ii (by rw [HR.out.1, if_neg H4.out]; unfold lessI; rw [if_neg (by omega)]) HR.out.2.symm, rfl⟩
        · go_enter Try.func58, Try.ntmps58
          go_wp2_with fail
          go_ret2
          exact ⟨ret_ii (by rw [HR.out.1, if_neg H4.out]; unfold lessI; split <;> omega) HR.out.2.symm, rfl⟩
  · have HR := Lib.hid (show fdX p a b = 0 ∧ fdE p a b = 1 by unfold fdX fdE; rw [if_neg hp, if_neg hp]; exact ⟨rfl, rfl⟩)
    by_cases h1 : p < 1
    · clear hp
      go_enter Try.func58, Try.ntmps58
      go_wp2_with fail
      go_ret2
      exact ⟨ret_ii HR.out.1.symm HR.out.2.symm, rfl⟩
    · have h2 : 5 < p := by omega
      clear hp
      go_enter Try.func58, Try.ntmps58
      go_wp2_with fail
      go_ret2
      exact ⟨ret_ii HR.out.1.symm HR.out.2.symm, rfl⟩
def sumX (g : Int) : Int := if quoB g 85 100 = true then told (150000 + quoV g 85 100) else 0
def sumB (g : Int) : Bool := if quoB g 85 100 = true then fits (150000 + quoV g 85 100) else false
set_option maxHeartbeats 1000000 in
theorem rsum_any (g : Int) (w : World) (hg : bd g) :
    Calls Try.prog 57 #[.int .i64 g] w fun e w' =>
      e = .returned (.tuple #[.int .i64 (sumX g), .bool (sumB g)]) ∧ w = w' := by
  unfold sumX sumB
  have HQ := Lib.hid (quoV_bd g 85 100)
  by_cases hq : quoB g 85 100 = true
  · rw [if_pos hq, if_pos hq]
    go_enter Try.func57, Try.ntmps57
    go_wp2_with fail
    refine (rratio_any g 85 100 _ hg.1 hg.2 (by decide) (by decide) (by decide) (by decide)).mono ?_
    rintro e w1 ⟨rfl, rfl⟩
    go_wp2_with fail
    refine (radd_any 150000 (quoV g 85 100) _ (by decide) (by decide) HQ.out.1 HQ.out.2).mono ?_
    rintro e w' ⟨rfl, rfl⟩
    go_wp2_with fail
    go_ret2
    exact ⟨rfl, rfl⟩
  · rw [if_neg hq, if_neg hq]
    have hq' : quoB g 85 100 = false := by simpa using hq
    clear hq
    go_enter Try.func57, Try.ntmps57
    go_wp2_with fail
    refine (rratio_any g 85 100 _ hg.1 hg.2 (by decide) (by decide) (by decide) (by decide)).mono ?_
    rintro e w1 ⟨rfl, rfl⟩
    go_wp2_with fail
    go_ret2
    exact ⟨rfl, rfl⟩
set_option maxHeartbeats 1000000 in
theorem rsent_any (p now : Int) (x : Ed) (m : Int) (w : World) (hp : 1 ≤ p ∧ p ≤ 5) (h1 : bd now) (h2 : bd x.2.2) (h3 : bd m) :
    Calls Try.prog 60 #[.int .i64 p, .int .i64 now, .agg #[.int .i64 x.1, .int .i64 x.2.1, .int .i64 x.2.2], .int .i64 m] w fun e w' =>
      e = .returned (.tuple #[.int .i64 (alX p now x m), .bool (alB p now x m)]) ∧ Below w.heap.size w w' := by
  obtain rfl | rfl | rfl | rfl | rfl : p = 1 ∨ p = 2 ∨ p = 3 ∨ p = 4 ∨ p = 5 := by omega
  · go_enter Try.func60, Try.ntmps60
    go_wp2_with fail
    refine (radd_any now x.2.2 _ h1.1 h1.2 h2.1 h2.2).mono ?_
    rintro e w' ⟨rfl, rfl⟩
    go_wp2_with fail
    go_ret2
    exact ⟨rfl, below_alloc _ _⟩
  · go_enter Try.func60, Try.ntmps60
    go_wp2_with fail
    go_ret2
    exact ⟨rfl, below_alloc _ _⟩
  · go_enter Try.func60, Try.ntmps60
    go_wp2_with fail
    refine (radd_any now 1 _ h1.1 h1.2 (by decide) (by decide)).mono ?_
    rintro e w' ⟨rfl, rfl⟩
    go_wp2_with fail
    go_ret2
    exact ⟨rfl, below_alloc _ _⟩
  · go_enter Try.func60, Try.ntmps60
    go_wp2_with fail
    go_ret2
    exact ⟨rfl, below_alloc _ _⟩
  · go_enter Try.func60, Try.ntmps60
    go_wp2_with fail
    refine (rratio_any now 1 m _ h1.1 h1.2 (by decide) (by decide) h3.1 h3.2).mono ?_
    rintro e w' ⟨rfl, rfl⟩
    go_wp2_with fail
    go_ret2
    exact ⟨rfl, below_alloc _ _⟩
/-- The edges of the examples' graph. -/
def twoE : List Ed := [(0, 1, 7), (1, 0, 5)]
end Go.Proofs.Ytcaccjfnibjbpaa

