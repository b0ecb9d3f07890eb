import Derived.Test.YtemcmhpfpfmgdaaVf
/-
  The contracts of the document's own Fenced and Same. No condition but that the lists have at most a million members.
-/
namespace Go.Proofs.Ytemcmhpfpfmgdaa
open Go.ChangeShapes Go.WideShapes Go.ChangeAt Go.RowKit Go.Maps
set_option linter.unusedVariables false

set_option maxHeartbeats 4000000 in
set_option maxRecDepth 20000 in
theorem rfenced_any (num : Int) (A : Option Addr) (c : Nat) (l : List Mb) (n id inc : Int) (w : World) (hA : Lies w w.heap.size 2 A l.length (mc l)) (hn : l.length ≤ 1000000) :
    Calls Try.prog 24 #[.agg #[.int .i64 num, .slice A l.length c], .int .i64 n, .int .i64 id, .int .i64 inc] w fun e w' => e = .returned (.int .i64 (fenE (good (num, l)) n id inc)) ∧ Below w.heap.size w w' := by
  have HB := Lib.hid (below_alloc w (.cells #[.int .i64 num, .slice A l.length c] 30))
  have h0 := World.alloc_heap_new w (.cells #[.int .i64 num, .slice A l.length c] 30)
  have CG := Lib.hid (fun (W : World) (hb : Below w.heap.size w W) => good_any num A c l w.heap.size W hb.size (hA.below hb) hn)
  obtain ⟨g, hg⟩ : ∃ g, g = good (num, l) := ⟨_, rfl⟩
  have HR := Lib.hid (show rightV g = true by rw [hg]; exact good_right _)
  rw [← hg] at CG ⊢
  clear hA hg
  obtain ⟨gn, gl⟩ := g
  have HN := Lib.hid (right_num HR.out)
  have d0 := c2_0 h0
  have d1 := c2_1 h0
  have HZ1 := Lib.hid (show (w.alloc (.cells #[.int .i64 num, .slice A l.length c] 30)).heap.size = w.heap.size + 1 by simp)
  go_enter Try.func24, Try.ntmps24
  go_upto_region 1 with fail
  generalize w.alloc (.cells #[.int .i64 num, .slice A l.length c] 30) = w1 at HB h0 d0 d1 HZ1 ⊢
  go_wp2_with fail
  refine (CG.out _ HB.out).mono ?_
  rintro e w3 ⟨A1, c1, rfl, ho3, hb3⟩
  simp only at ho3
  have h3 := (hb3.block w.heap.size (by rw [HZ1.out]; omega)).trans h0
  clear d0 d1 h0
  have d0 := c2_0 h3
  have d1 := c2_1 h3
  have f0 := unfrozen h3 0
  have f1 := unfrozen h3 1
  have H4 := Lib.hid (set2_at h3 (.int .i64 gn) (.slice A1 gl.length c1))
  have HB4 := Lib.hid (below_set2 (HB.out.trans (hb3.mono HB.out.size)) (Nat.le_refl w.heap.size) (.int .i64 gn) (.slice A1 gl.length c1))
  have HL4 := Lib.hid (show Lies ((w3.setCell ⟨w.heap.size, 0, none⟩ (.int .i64 gn)).setCell ⟨w.heap.size, 1, none⟩ (.slice A1 gl.length c1)) w.heap.size 2 A1 gl.length (mc gl) from lies_set2 (ho3.keep (fun p hp => hb3.cell (by rw [HZ1.out]; omega))) (Nat.le_refl _) _ _)
  clear ho3 hb3 h3
  go_upto_region 2 with fail
  generalize (w3.setCell ⟨w.heap.size, 0, none⟩ (.int .i64 gn)).setCell ⟨w.heap.size, 1, none⟩ (.slice A1 gl.length c1) = w4 at H4 HB4 HL4 ⊢
  clear d0 d1 f0 f1
  have d1 := c2_1 H4.out
  have d0 := c2_0 H4.out
  have F9 := Lib.hid (fe_9 (g := (gn, gl)) (n := n) (id := id) (inc := inc))
  have F4 := Lib.hid (fe_4 (g := (gn, gl)) (n := n) (id := id) (inc := inc))
  have F0 := Lib.hid (fe_0 (g := (gn, gl)) (n := n) (id := id) (inc := inc))
  have F9' := Lib.hid (fe_9' (g := (gn, gl)) (n := n) (id := id) (inc := inc))
  by_cases g1 : n = gn
  · have HG1 := Lib.hid g1
    have g1' : (n != gn) = false := by simpa using g1
    clear g1
    go_wp2_with fail
    refine (rinc_g HR.out A1 c1 id _ (HL4.out.more HB4.out.size)).mono ?_
    rintro e w5 ⟨rfl, hb5⟩
    have HB5 := Lib.hid (HB4.out.trans (hb5.mono HB4.out.size))
    clear d0 d1 hb5
    obtain ⟨z, hz⟩ : ∃ z, z = incL gl id := ⟨_, rfl⟩
    have HZ := Lib.hid hz
    rw [← hz]
    clear hz
    by_cases h0 : z = 0
    · have HT := Lib.hid (F4.out HG1.out (HZ.out.symm.trans h0))
      have h0' : (z == 0) = true := by simpa using h0
      clear h0
      go_wp2_with fail
      go_ret
      exact ⟨ret_int HT.out.symm, HB5.out⟩
    · have HH := Lib.hid (show ¬ incL gl id = 0 by rw [← HZ.out]; exact h0)
      have h0' : (z == 0) = false := by simpa using h0
      clear h0
      by_cases g2 : z = inc
      · have HT := Lib.hid (F0.out HG1.out HH.out (HZ.out.symm.trans g2))
        have g2' : (z != inc) = false := by simpa using g2
        clear g2
        go_wp2_with fail
        go_ret
        exact ⟨ret_int HT.out.symm, HB5.out⟩
      · have HT := Lib.hid (F9'.out HG1.out HH.out (by rw [← HZ.out]; exact g2))
        have g2' : (z != inc) = true := by simpa using g2
        clear g2
        go_wp2_with fail
        go_ret
        exact ⟨ret_int HT.out.symm, HB5.out⟩
  · have HT := Lib.hid (F9.out g1)
    have g1' : (n != gn) = true := by simpa using g1
    clear g1
    go_wp2_with fail
    go_ret
    exact ⟨ret_int HT.out.symm, HB4.out⟩
def SvRel (a b : List Mb) (w2 : World) (i : Value) (W : World) : Prop := ∃ k : Nat, i = .int .i64 k ∧ k ≤ a.length ∧ Hid (a.take k = b.take k) ∧ Hid (Below w2.heap.size w2 W)
set_option maxHeartbeats 4000000 in
set_option maxRecDepth 20000 in
theorem rsame_any (n1 : Int) (A : Option Addr) (c : Nat) (a : List Mb) (n2 : Int) (B : Option Addr) (d : Nat) (b : List Mb) (w : World) (hA : Lies w w.heap.size 2 A a.length (mc a)) (hB : Lies w w.heap.size 2 B b.length (mc b)) (hn : a.length ≤ 1000000) (hm : b.length ≤ 1000000) :
    Calls Try.prog 17 #[.agg #[.int .i64 n1, .slice A a.length c], .agg #[.int .i64 n2, .slice B b.length d]] w fun e w' => e = .returned (.bool (decide ((n1, a) = (n2, b)))) ∧ Below w.heap.size w w' := by
  have hI := Vb.init w (.int .i64 n1) (.slice A a.length c) (.int .i64 n2) (.slice B b.length d) 30 30
  have HA := Lib.hid (hA.below hI.bl)
  have HB := Lib.hid (hB.below hI.bl)
  clear hA hB
  have d0 := c2_0 hI.h0
  have d1 := c2_1 hI.h0
  have e0 := c2_0 hI.h1
  have e1 := c2_1 hI.h1
  have HI := Lib.hid hI
  clear hI
  go_enter Try.func17, Try.ntmps17
  go_upto_region 1 with fail
  generalize (w.alloc (.cells #[.int .i64 n1, .slice A a.length c] 30)).alloc (.cells #[.int .i64 n2, .slice B b.length d] 30) = w2 at HI HA HB d0 d1 e0 e1 ⊢
  by_cases g1 : n1 = n2
  · have g1' : (n1 != n2) = false := by simpa using g1
    have HG1 := Lib.hid g1
    clear g1
    by_cases hl : a.length = b.length
    · have hl' : ((a.length : Int) != (b.length : Int)) = false := by simp; omega
      obtain ⟨n, hn'⟩ : ∃ n : Nat, n = a.length := ⟨_, rfl⟩
      have HN1 := Lib.hid hn'
      have HN2 := Lib.hid (show n = b.length by omega)
      rw [← hn'] at d1 hl'
      rw [show b.length = n by omega] at e1 hl'
      have hn6 : n ≤ 1000000 := by omega
      have D1 := Lib.hid (show ∀ W : World, Below w2.heap.size w2 W → W.cell? ⟨w.heap.size, 1, none⟩ = some (.slice A n c) ∧ W.cell? ⟨w.heap.size + 1, 1, none⟩ = some (.slice B n d) from fun W hb => ⟨(hb.cell (p := ⟨w.heap.size, 1, none⟩) (by have := HI.out.z; show w.heap.size < _; omega)).trans d1, (hb.cell (p := ⟨w.heap.size + 1, 1, none⟩) (by have := HI.out.z; show w.heap.size + 1 < _; omega)).trans e1⟩)
      clear hn hm hl hn'
      go_wp2_with fail
      clear d0 d1 e0 e1
      go_loopw [5] (fun i W => SvRel a b w2 i W) (fun i W => n - (intOf i).toNat)
      case atStart => exact ⟨0, rfl, Nat.zero_le _, Lib.hid (by simp), Lib.hid (Below.refl _ _)⟩
      case round =>
        obtain ⟨k, rfl, hk, HP, HW⟩ := hrel
        obtain ⟨d1, e1⟩ := D1.out wr HW.out
        have HZ := Lib.hid (show w.heap.size ≤ w2.heap.size by have := HI.out.z; omega)
        by_cases hlt : k < n
        · obtain ⟨ad, rfl, hadb, x0, x1⟩ := (HA.out.below (HW.out.mono HZ.out)).mb k (by have := HN1.out; omega)
          obtain ⟨ad', rfl, hadb', y0, y1⟩ := (HB.out.below (HW.out.mono HZ.out)).mb k (by have := HN2.out; omega)
          have hkl : (k : Int) < (n : Int) := by omega
          have HT0 := Lib.hid (show mAt a k = mAt b k → a.take (k + 1) = b.take (k + 1) from fun he => by rw [mtake_at a k (by have := HN1.out; omega), mtake_at b k (by have := HN2.out; omega), HP.out, he])
          have HF := Lib.hid (show ¬ mAt a k = mAt b k → decide ((n1, a) = (n2, b)) = false from fun he => decide_eq_false (fun h => he (by rw [(Prod.mk.inj h).2])))
          generalize mAt a k = x at *
          generalize mAt b k = y at *
          obtain ⟨p0, p1⟩ := x
          obtain ⟨q0, q1⟩ := y
          simp only at x0 x1 y0 y1
          by_cases g0 : p0 = q0
          · by_cases g2 : p1 = q1
            · have HT := Lib.hid (HT0.out (by rw [g0, g2]))
              subst g0 g2
              go_upto_region 6 with fail
              go_quiet (fail)
              go_wp2_with fail
              go_roundw
              case rel => exact ⟨k + 1, by go_num, by have := HN1.out; omega, HT, Lib.hid (below_to_drewN HW.out _)⟩
              case measure => simp [intOf]; omega
            · have HT := Lib.hid (HF.out (fun h => g2 (Prod.mk.inj h).2))
              subst g0
              go_upto_region 6 with fail
              go_quiet (fail)
              go_wp2_with fail
              go_ret
              exact ⟨ret_bool HT.out.symm, HI.out.bl.trans (below_to_drewN (HW.out.mono HZ.out) _)⟩
          · have HT := Lib.hid (HF.out (fun h => g0 (Prod.mk.inj h).1))
            go_upto_region 6 with fail
            go_quiet (fail)
            go_wp2_with fail
            go_ret
            exact ⟨ret_bool HT.out.symm, HI.out.bl.trans (below_to_drewN (HW.out.mono HZ.out) _)⟩
        · have hk' : k = n := by have := HN1.out; omega
          subst hk'
          have HT := Lib.hid (show decide ((n1, a) = (n2, b)) = true from decide_eq_true (by have h := HP.out; rw [List.take_of_length_le (by have := HN1.out; omega), List.take_of_length_le (by have := HN2.out; omega)] at h; rw [h, HG1.out]))
          go_wp2_with fail
          go_ret
          exact ⟨ret_bool HT.out.symm, HI.out.bl.trans (HW.out.mono HZ.out)⟩
    · have HT := Lib.hid (show decide ((n1, a) = (n2, b)) = false from decide_eq_false (fun h => hl (by rw [(Prod.mk.inj h).2])))
      have hl' : ((a.length : Int) != (b.length : Int)) = true := by simp; omega
      clear hl
      go_wp2_with fail
      go_ret
      exact ⟨ret_bool HT.out.symm, HI.out.bl⟩
  · have HT := Lib.hid (show decide ((n1, a) = (n2, b)) = false from decide_eq_false (fun h => g1 (Prod.mk.inj h).1))
    have g1' : (n1 != n2) = true := by simpa using g1
    clear g1
    go_wp2_with fail
    go_ret
    exact ⟨ret_bool HT.out.symm, HI.out.bl⟩
end Go.Proofs.Ytemcmhpfpfmgdaa
