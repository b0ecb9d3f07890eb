/-
  Contracts of isVertex, Check, the document's own Check, programFor. No condition.
-/
import Derived.Test.YtkmflofokgkekaaProB
namespace Go.Proofs.Ytkmflofokgkekaa
open Go.ChangeShapes Go.WideShapes Go.ChangeAt Go.RowKit
set_option linter.unusedVariables false

theorem isV_any (N : Int) (A : Option Addr) (n c : Nat) (v : Int) (w : World) (b : Bool) (hb : b = decide (0 ≤ v ∧ v < N)) :
    Calls Try.prog 40 #[.agg #[.int .i64 N, .slice A n c], .int .i64 v] w fun e w' => e = .returned (.bool b) ∧ Below w.heap.size w w' := by
  by_cases h : 0 ≤ v
  · obtain rfl : b = decide (v < N) := by rw [hb]; simp [h]
    clear hb
    go_enter Try.func40, Try.ntmps40
    go_wp2
    go_ret
    exact ⟨rfl, below_alloc _ _⟩
  · obtain rfl : b = false := by rw [hb]; simp; omega
    clear hb
    go_enter Try.func40, Try.ntmps40
    go_wp2
    go_ret
    exact ⟨rfl, below_alloc _ _⟩

/-- The graph and the job stand boxed in the first two blocks behind w; all that lay in w lies there still. -/
structure Bx (w : World) (N : Int) (A : Option Addr) (n c : Nat) (p s l q : Int) (W : World) : Prop where
  z : w.heap.size + 2 ≤ W.heap.size
  g0 : W.cell? ⟨w.heap.size, 0, none⟩ = some (.int .i64 N)
  g1 : W.cell? ⟨w.heap.size, 1, none⟩ = some (.slice A n c)
  j0 : W.cell? ⟨w.heap.size + 1, 0, none⟩ = some (.int .i64 p)
  j1 : W.cell? ⟨w.heap.size + 1, 1, none⟩ = some (.int .i64 s)
  j2 : W.cell? ⟨w.heap.size + 1, 2, none⟩ = some (.int .i64 l)
  j3 : W.cell? ⟨w.heap.size + 1, 3, none⟩ = some (.int .i64 q)
  bl : Below w.heap.size w W
theorem Bx.init (w : World) (N : Int) (A : Option Addr) (n c : Nat) (p s l q : Int) : Bx w N A n c p s l q ((w.alloc (.cells #[.int .i64 N, .slice A n c] 24)).alloc (.cells #[.int .i64 p, .int .i64 s, .int .i64 l, .int .i64 q] 26)) :=
  ⟨by simp, by simp [go_sem], by simp [go_sem], by simp [go_sem], by simp [go_sem], by simp [go_sem], by simp [go_sem], ((Below.refl _ _).alloc (Nat.le_refl _) _).alloc (by simp) _⟩
theorem Bx.next {w : World} {N : Int} {A : Option Addr} {n c : Nat} {p s l q : Int} {W W' : World} (h : Bx w N A n c p s l q W) (hb : Below W.heap.size W W') : Bx w N A n c p s l q W' :=
  have k : ∀ b o, b < w.heap.size + 2 → W'.cell? ⟨b, o, none⟩ = W.cell? ⟨b, o, none⟩ := fun b o hl => hb.cell (p := ⟨b, o, none⟩) (Nat.lt_of_lt_of_le hl h.z)
  ⟨Nat.le_trans h.z hb.size, (k _ _ (by omega)).trans h.g0, (k _ _ (by omega)).trans h.g1, (k _ _ (by omega)).trans h.j0, (k _ _ (by omega)).trans h.j1, (k _ _ (by omega)).trans h.j2, (k _ _ (by omega)).trans h.j3,
    h.bl.trans (hb.mono (by have := h.z; omega))⟩
theorem Bx.alloc {w : World} {N : Int} {A : Option Addr} {n c : Nat} {p s l q : Int} {W : World} (h : Bx w N A n c p s l q W) (o : Obj) : Bx w N A n c p s l q (W.alloc o) := h.next (below_alloc W o)

theorem badJ_not {N p s l q : Int} (h : ¬ badJ N p s l q) : (1 ≤ p ∧ p ≤ 5) ∧ (0 ≤ s ∧ s < N) ∧ ¬ l < 0 ∧ ¬ 40 < l ∧ ¬ q < 1 ∧ ¬ 6 < q := by unfold badJ at h; omega

set_option maxHeartbeats 1000000 in
theorem jcheck_any (N : Int) (A : Option Addr) (n c : Nat) (es : List Ed) (p s l q : Int) (w : World) (hA : Lies w w.heap.size 3 A n (ec es)) (hnc : n ≤ c) (hn : n ≤ maxLen) :
    Calls Try.prog 26 #[.agg #[.int .i64 N, .slice A n c], .agg #[.int .i64 p, .int .i64 s, .int .i64 l, .int .i64 q]] w fun e w' => e = .returned (.int .i64 (jchk N es p s l q)) ∧ Below w.heap.size w w' := by
  have hbx := Bx.init w N A n c p s l q
  have hA1 := hA.next hbx.bl
  by_cases hg : chk N es = 0
  · by_cases hp : p < 1 ∨ 5 < p
    · have HR := Lib.hid (jchk_bad hg (show badJ N p s l q by unfold badJ; omega))
      have HG := Lib.hid hg
      have HP := Lib.hid hp
      have HBX := Lib.hid hbx
      clear hg hp hbx
      go_enter Try.func26, Try.ntmps26
      go_wp2_with fail
      refine (check_any N A n c es _ hA1 hnc hn).mono ?_
      rintro e w1 ⟨rfl, hb1⟩
      rw [HG.out]
      have hx1 := HBX.out.next hb1
      obtain ⟨z1, g0, g1, j0, j1, j2, j3, bl1⟩ := id hx1
      clear hb1 hA1 HBX
      go_wp2_with fail
      refine (of_no p _ HP.out).mono ?_
      rintro e w2 ⟨rfl, hb2⟩
      have H2 := Lib.hid ((hx1.next hb2).alloc (.cells #[.nilFunc, .nilFunc, .nilFunc, .nilFunc, .nilFunc, .nilFunc] 78)).bl
      clear hb2 hx1
      go_wp2_with fail
      go_ret
      exact ⟨ret_int HR.out.symm, H2.out⟩
    · have HP := Lib.hid (show 1 ≤ p ∧ p ≤ 5 by omega)
      have HG := Lib.hid hg
      have HBX := Lib.hid hbx
      by_cases hs : 0 ≤ s ∧ s < N
      · have HS := Lib.hid (show true = decide (0 ≤ s ∧ s < N) by simpa using hs)
        have HR := Lib.hid (show jchk N es p s l q = if l < 0 ∨ 40 < l ∨ q < 1 ∨ 6 < q then 1 else 0 by
          by_cases hb : badJ N p s l q
          · rw [jchk_bad hg hb, if_pos (by unfold badJ at hb; omega)]
          · rw [jchk_good hg hb, if_neg (by unfold badJ at hb; omega)])
        clear hg hp hs hbx
        go_enter Try.func26, Try.ntmps26
        go_wp2_with fail
        refine (check_any N A n c es _ hA1 hnc hn).mono ?_
        rintro e w1 ⟨rfl, hb1⟩
        rw [HG.out]
        have hx1 := HBX.out.next hb1
        obtain ⟨z1, g0, g1, j0, j1, j2, j3, bl1⟩ := id hx1
        clear hb1 hA1 HBX
        go_wp2_with fail
        refine (of_yes p _ HP.out.1 HP.out.2).mono ?_
        rintro e w2 ⟨hb2, k0, k1, k2, k3, k4, k5, y, rfl, _⟩
        have H2 := Lib.hid ((hx1.next hb2).alloc (.cells #[.func (.func k0) #[] #[], .func (.func k1) #[] #[], .func (.func k2) #[] y, .func (.func k3) #[] #[], .func (.func k4) #[] #[], .func (.func k5) #[] #[]] 78))
        clear z1 g0 g1 j0 j1 j2 j3 bl1
        obtain ⟨z1, g0, g1, j0, j1, j2, j3, bl1⟩ := H2.out
        clear hb2 hx1
        go_wp2_with fail
        refine (isV_any N A n c s _ true HS.out).mono ?_
        rintro e w3 ⟨rfl, hb3⟩
        have hx3 := H2.out.next hb3
        clear z1 g0 g1 j0 j1 j2 j3 bl1 H2 hb3
        obtain ⟨z1, g0, g1, j0, j1, j2, j3, bl1⟩ := hx3
        have HB3 := Lib.hid bl1
        clear bl1
        by_cases q1 : l < 0
        · go_wp2_with fail
          go_ret
          exact ⟨ret_int (by rw [HR.out, if_pos (by omega)]), HB3.out⟩
        · by_cases q2 : 40 < l
          · go_wp2_with fail
            go_ret
            exact ⟨ret_int (by rw [HR.out, if_pos (by omega)]), HB3.out⟩
          · by_cases q3 : q < 1
            · go_wp2_with fail
              go_ret
              exact ⟨ret_int (by rw [HR.out, if_pos (by omega)]), HB3.out⟩
            · by_cases q4 : 6 < q
              · go_wp2_with fail
                go_ret
                exact ⟨ret_int (by rw [HR.out, if_pos (by omega)]), HB3.out⟩
              · go_wp2_with fail
                go_ret
                exact ⟨ret_int (by rw [HR.out, if_neg (by omega)]), HB3.out⟩
      · have HS := Lib.hid (show false = decide (0 ≤ s ∧ s < N) by simpa using hs)
        have HR := Lib.hid (jchk_bad hg (show badJ N p s l q by unfold badJ; omega))
        clear hg hp hs hbx
        go_enter Try.func26, Try.ntmps26
        go_wp2_with fail
        refine (check_any N A n c es _ hA1 hnc hn).mono ?_
        rintro e w1 ⟨rfl, hb1⟩
        rw [HG.out]
        have hx1 := HBX.out.next hb1
        obtain ⟨z1, g0, g1, j0, j1, j2, j3, bl1⟩ := id hx1
        clear hb1 hA1 HBX
        go_wp2_with fail
        refine (of_yes p _ HP.out.1 HP.out.2).mono ?_
        rintro e w2 ⟨hb2, k0, k1, k2, k3, k4, k5, y, rfl, _⟩
        have H2 := Lib.hid ((hx1.next hb2).alloc (.cells #[.func (.func k0) #[] #[], .func (.func k1) #[] #[], .func (.func k2) #[] y, .func (.func k3) #[] #[], .func (.func k4) #[] #[], .func (.func k5) #[] #[]] 78))
        clear z1 g0 g1 j0 j1 j2 j3 bl1
        obtain ⟨z1, g0, g1, j0, j1, j2, j3, bl1⟩ := H2.out
        clear hb2 hx1
        go_wp2_with fail
        refine (isV_any N A n c s _ false HS.out).mono ?_
        rintro e w3 ⟨rfl, hb3⟩
        have HB3 := Lib.hid (H2.out.next hb3).bl
        clear z1 g0 g1 j0 j1 j2 j3 bl1 H2 hb3
        go_wp2_with fail
        go_ret
        exact ⟨ret_int HR.out.symm, HB3.out⟩
  · have HR := Lib.hid (jchk_graph (p := p) (s := s) (l := l) (q := q) hg)
    have h1 : (chk N es != 0) = true := by simpa using hg
    clear hg
    have HBX := Lib.hid hbx
    clear hbx
    go_enter Try.func26, Try.ntmps26
    go_wp2_with fail
    refine (check_any N A n c es _ hA1 hnc hn).mono ?_
    rintro e w1 ⟨rfl, hb1⟩
    have H1 := Lib.hid (HBX.out.next hb1).bl
    clear hb1
    go_wp2_with fail
    go_ret
    exact ⟨ret_int HR.out.symm, H1.out⟩

set_option maxHeartbeats 1000000 in
/-- The document's own Check of a job. -/
theorem rjcheck_any (N : Int) (A : Option Addr) (n c : Nat) (es : List Ed) (p s l q : Int) (w : World) (hA : Lies w w.heap.size 3 A n (ec es)) (hnc : n ≤ c) (hn : n ≤ maxLen) :
    Calls Try.prog 18 #[.agg #[.int .i64 N, .slice A n c], .agg #[.int .i64 p, .int .i64 s, .int .i64 l, .int .i64 q]] w fun e w' => e = .returned (.int .i64 (jchk N es p s l q)) ∧ Below w.heap.size w w' := by
  have hbx := Bx.init w N A n c p s l q
  have hA1 := hA.next hbx.bl
  by_cases hg : chk N es = 0
  · have HG := Lib.hid hg
    have HBX := Lib.hid hbx
    have HR := Lib.hid (show jchk N es p s l q = if badJ N p s l q then 1 else 0 by
      by_cases hb : badJ N p s l q
      · rw [jchk_bad hg hb, if_pos hb]
      · rw [jchk_good hg hb, if_neg hb])
    clear hg hbx
    go_enter Try.func18, Try.ntmps18
    go_wp2_with fail
    refine (rcheck_any N A n c es _ hA1 hnc hn).mono ?_
    rintro e w1 ⟨rfl, hb1⟩
    rw [HG.out]
    have hx1 := HBX.out.next hb1
    obtain ⟨z1, g0, g1, j0, j1, j2, j3, bl1⟩ := hx1
    have H1 := Lib.hid bl1
    clear hb1 hA1 HBX bl1
    by_cases q1 : p < 1
    · go_wp2_with fail
      go_ret
      exact ⟨ret_int (by rw [HR.out, if_pos (by unfold badJ; omega)]), H1.out⟩
    by_cases q2 : 5 < p
    · go_wp2_with fail
      go_ret
      exact ⟨ret_int (by rw [HR.out, if_pos (by unfold badJ; omega)]), H1.out⟩
    by_cases q3 : s < 0
    · go_wp2_with fail
      go_ret
      exact ⟨ret_int (by rw [HR.out, if_pos (by unfold badJ; omega)]), H1.out⟩
    by_cases q4 : N ≤ s
    · go_wp2_with fail
      go_ret
      exact ⟨ret_int (by rw [HR.out, if_pos (by unfold badJ; omega)]), H1.out⟩
    by_cases q5 : l < 0
    · go_wp2_with fail
      go_ret
      exact ⟨ret_int (by rw [HR.out, if_pos (by unfold badJ; omega)]), H1.out⟩
    by_cases q6 : 40 < l
    · go_wp2_with fail
      go_ret
      exact ⟨ret_int (by rw [HR.out, if_pos (by unfold badJ; omega)]), H1.out⟩
    by_cases q7 : q < 1
    · go_wp2_with fail
      go_ret
      exact ⟨ret_int (by rw [HR.out, if_pos (by unfold badJ; omega)]), H1.out⟩
    by_cases q8 : 6 < q
    · go_wp2_with fail
      go_ret
      exact ⟨ret_int (by rw [HR.out, if_pos (by unfold badJ; omega)]), H1.out⟩
    · go_wp2_with fail
      go_ret
      exact ⟨ret_int (by rw [HR.out, if_neg (by unfold badJ; omega)]), H1.out⟩
  · have HR := Lib.hid (jchk_graph (p := p) (s := s) (l := l) (q := q) hg)
    have h1 : (chk N es != 0) = true := by simpa using hg
    clear hg
    have HBX := Lib.hid hbx
    clear hbx
    go_enter Try.func18, Try.ntmps18
    go_wp2_with fail
    refine (rcheck_any N A n c es _ hA1 hnc hn).mono ?_
    rintro e w1 ⟨rfl, hb1⟩
    have H1 := Lib.hid (HBX.out.next hb1).bl
    clear hb1
    go_wp2_with fail
    go_ret
    exact ⟨ret_int HR.out.symm, H1.out⟩

end Go.Proofs.Ytkmflofokgkekaa
