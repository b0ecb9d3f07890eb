import Derived.Test.YtemcmhpfpfmgdaaVq
/-
  The document's examples hold (knows). No condition.
-/
namespace Go.Proofs.Ytemcmhpfpfmgdaa
open Go.ChangeShapes Go.WideShapes Go.ChangeAt Go.RowKit Go.Maps
set_option linter.unusedVariables false

theorem jn_at {num : Int} {A : Option Addr} {k c : Nat} {l : List Mb} {id inc : Int} {w : World} {n' : Int} {l' : List Mb} {E : Int} {k' : Nat} (hA : Lies w w.heap.size 2 A k (mc l)) (hk : l.length = k) (hk1 : k ≤ 1000) (hw : (Lit.int .i64 id).wf = true)
    (h1 : joinG (good (num, l)) id inc = (n', l')) (h2 : joinE (good (num, l)) id inc = E) (hk' : l'.length = k') :
    Calls Try.prog 25 #[.agg #[.int .i64 num, .slice A k c], .int .i64 id, .int .i64 inc] w fun e w' => ∃ A' c', e = .returned (.tuple #[.agg #[.int .i64 n', .slice A' k' c'], .int .i64 E]) ∧ w'.ownsRow w.heap.size 59 2 (.slice A' k' c') k' (mc l') ∧ Below w.heap.size w w' := by
  subst hk hk'
  have h := join_any num A c l id inc w hA (by omega) hw
  rw [h1, h2] at h
  exact h
def l3 : List Mb := [(1, 1), (3, 2)]
theorem id_at {A : Option Addr} {c : Nat} {w : World} (hA : Lies w w.heap.size 2 A 2 (mc l3)) :
    Calls Try.prog 21 #[.agg #[.int .i64 3, .slice A 2 c]] w fun e w' => ∃ D d, e = .returned (.slice D 2 d) ∧ w'.ownsRow w.heap.size 3 1 (.slice D 2 d) 2 (vc [1, 3]) ∧ Below w.heap.size w w' := by
  have h := ids_any 3 A c l3 w hA (by decide)
  rw [show idsL (good (3, l3)).2 = [1, 3] by decide] at h
  exact h
theorem sm_at {A B : Option Addr} {c d : Nat} {w : World} (hA : Lies w w.heap.size 1 A 2 (vc [1, 3])) (hB : Lies w w.heap.size 1 B 2 (vc [1, 3])) :
    Calls Try.prog 20 #[.slice A 2 c, .slice B 2 d] w fun e w' => e = .returned (.bool true) ∧ Below w.heap.size w w' := by
  have h := same_any A c [1, 3] B d [1, 3] w hA hB (by decide) (by decide)
  rw [show decide (([1, 3] : List Int) = [1, 3]) = true by decide] at h
  exact h
theorem ic_at {A : Option Addr} {c : Nat} {w : World} (hA : Lies w w.heap.size 2 A 2 (mc l3)) :
    Calls Try.prog 18 #[.agg #[.int .i64 3, .slice A 2 c], .int .i64 3] w fun e w' => e = .returned (.int .i64 2) ∧ Below w.heap.size w w' := by
  have h := inc_any 3 A c l3 3 w hA (by decide) (by decide)
  rw [show incL (good (3, l3)).2 3 = 2 by decide] at h
  exact h
theorem fn_at {A : Option Addr} {c : Nat} {w : World} {n E : Int} (hA : Lies w w.heap.size 2 A 2 (mc l3)) (hE : fenE (good (3, l3)) n 3 2 = E) :
    Calls Try.prog 23 #[.agg #[.int .i64 3, .slice A 2 c], .int .i64 n, .int .i64 3, .int .i64 2] w fun e w' => e = .returned (.int .i64 E) ∧ Below w.heap.size w w' := by
  have h := fenced_any 3 A c l3 n 3 2 w hA (by decide) (by decide)
  rw [hE] at h
  exact h
theorem rt_at {A : Option Addr} {c : Nat} {w : World} (hA : Lies w w.heap.size 2 A 2 (mc l3)) :
    Calls Try.prog 12 #[.agg #[.int .i64 3, .slice A 2 c]] w fun e w' => e = .returned (.bool true) ∧ Below w.heap.size w w' := by
  have h := right_any 3 A c l3 w hA (by decide)
  rw [show rightV (3, l3) = true by decide] at h
  exact h
set_option maxHeartbeats 4000000 in
set_option maxRecDepth 20000 in
theorem knows_any (w : World) : Calls Try.prog 10 #[] w fun e w' => e = .returned (.bool true) ∧ Below w.heap.size w w' := by
  go_enter Try.func10, Try.ntmps10
  go_wp2_with fail
  refine (jn_at (l := []) (n' := 1) (l' := [(3, 1)]) (E := 0) (k' := 1) Lies.nil rfl (by decide) (by decide) (by decide) (by decide) rfl).mono ?_
  rintro e w1 ⟨A1, c1, rfl, ho1, hb1⟩
  have HB2 := Lib.hid (hb1.trans ((below_alloc w1 (.cells #[.int .i64 1, .slice A1 1 c1] 24)).mono hb1.size))
  have H2 := Lib.hid (World.alloc_heap_new w1 (.cells #[.int .i64 1, .slice A1 1 c1] 24))
  have HO2 := Lib.hid (own_next ho1 (below_alloc w1 (.cells #[.int .i64 1, .slice A1 1 c1] 24)))
  have HZ2 := Lib.hid (show w1.heap.size < (w1.alloc (.cells #[.int .i64 1, .slice A1 1 c1] 24)).heap.size by simp)
  have HZ1 := Lib.hid hb1.size
  clear ho1 hb1
  go_upto_region 2 with fail
  generalize w1.alloc (.cells #[.int .i64 1, .slice A1 1 c1] 24) = w2 at HB2 H2 HO2 HZ2 ⊢
  have d0 := c2_0 H2.out
  have d1 := c2_1 H2.out
  go_wp2_with fail
  refine (jn_at (l := [(3, 1)]) (n' := 2) (l' := [(1, 1), (3, 1)]) (E := 0) (k' := 2) (Lies.of_own HO2.out) rfl (by decide) (by decide) (by decide) (by decide) rfl).mono ?_
  rintro e w3 ⟨A2, c2, rfl, ho3, hb3⟩
  have h3 := (hb3.block _ HZ2.out).trans H2.out
  have HB4 := Lib.hid (below_set2 (HB2.out.trans (hb3.mono HB2.out.size)) HZ1.out (.int .i64 2) (.slice A2 2 c2))
  have H4 := Lib.hid (set2_at h3 (.int .i64 2) (.slice A2 2 c2))
  have HO4 := Lib.hid (own_set2 ho3 HZ2.out (.int .i64 2) (.slice A2 2 c2))
  clear d0 d1 ho3 hb3
  have d0 := c2_0 h3
  have d1 := c2_1 h3
  have f0 := unfrozen h3 0
  have f1 := unfrozen h3 1
  clear h3
  go_upto_region 3 with fail
  generalize (w3.setCell ⟨w1.heap.size, 0, none⟩ (.int .i64 2)).setCell ⟨w1.heap.size, 1, none⟩ (.slice A2 2 c2) = w4 at HB4 H4 HO4 ⊢
  clear d0 d1 f0 f1
  have d0 := c2_0 H4.out
  have d1 := c2_1 H4.out
  go_wp2_with fail
  refine (jn_at (l := [(1, 1), (3, 1)]) (n' := 2) (l' := [(1, 1), (3, 1)]) (E := 5) (k' := 2) (Lies.of_own HO4.out) rfl (by decide) (by decide) (by decide) (by decide) rfl).mono ?_
  rintro e w5 ⟨A3, c3, rfl, ho5, hb5⟩
  have HB6' := hb5.trans ((below_alloc w5 (.cells #[.int .i64 2, .slice A3 2 c3] 24)).mono hb5.size)
  have HB6 := Lib.hid (HB4.out.trans (HB6'.mono HB4.out.size))
  have H6 := Lib.hid ((HB6'.block _ (Array.getElem?_eq_some_iff.1 H4.out).1).trans H4.out)
  have HO6 := Lib.hid (own_next HO4.out HB6')
  clear d0 d1 ho5 hb5 HB6'
  go_upto_region 4 with fail
  generalize w5.alloc (.cells #[.int .i64 2, .slice A3 2 c3] 24) = w6 at HB6 H6 HO6 ⊢
  have d0 := c2_0 H6.out
  have d1 := c2_1 H6.out
  go_wp2_with fail
  refine (jn_at (l := [(1, 1), (3, 1)]) (n' := 3) (l' := l3) (E := 0) (k' := 2) (Lies.of_own HO6.out) rfl (by decide) (by decide) (by decide) (by decide) rfl).mono ?_
  rintro e w7 ⟨A4, c4, rfl, ho7, hb7⟩
  have HB8 := Lib.hid ((HB6.out.trans (hb7.mono HB6.out.size)).trans ((below_alloc w7 (.cells #[.int .i64 3, .slice A4 2 c4] 24)).mono (HB6.out.trans (hb7.mono HB6.out.size)).size))
  have H8 := Lib.hid (World.alloc_heap_new w7 (.cells #[.int .i64 3, .slice A4 2 c4] 24))
  have HL8 := Lib.hid (Lies.of_own (own_next ho7 (below_alloc w7 (.cells #[.int .i64 3, .slice A4 2 c4] 24))))
  have HZ8 := Lib.hid (show w7.heap.size < (w7.alloc (.cells #[.int .i64 3, .slice A4 2 c4] 24)).heap.size by simp)
  clear d0 d1 ho7 hb7
  go_upto_region 5 with fail
  generalize w7.alloc (.cells #[.int .i64 3, .slice A4 2 c4] 24) = w8 at HB8 H8 HL8 HZ8 ⊢
  have HD := Lib.hid (show ∀ W : World, Below w8.heap.size w8 W → W.cell? ⟨w7.heap.size, 0, none⟩ = some (.int .i64 3) ∧ W.cell? ⟨w7.heap.size, 1, none⟩ = some (.slice A4 2 c4) from fun W hb => ⟨(hb.cell (p := ⟨w7.heap.size, 0, none⟩) HZ8.out).trans (c2_0 H8.out), (hb.cell (p := ⟨w7.heap.size, 1, none⟩) HZ8.out).trans (c2_1 H8.out)⟩)
  obtain ⟨d0, d1⟩ := HD.out w8 (Below.refl _ _)
  go_wp2_with fail
  refine (id_at HL8.out).mono ?_
  rintro e w9 ⟨D9, c9, rfl, ho9, hb9⟩
  have HLN := Lib.hid ((Lies.of_own ho9).next (below_alloc w9 (.cells #[.int .i64 1, .int .i64 3] 3)))
  have HL2 := Lib.hid (show Lies (w9.alloc (.cells #[.int .i64 1, .int .i64 3] 3)) (w9.alloc (.cells #[.int .i64 1, .int .i64 3] 3)).heap.size 1 (some ⟨w9.heap.size, 0, none⟩) 2 (vc [1, 3]) from (lies_cells w9 (vc [1, 3]) 3 2 1 rfl).more (by simp))
  have HB9 := Lib.hid (hb9.trans ((below_alloc w9 (.cells #[.int .i64 1, .int .i64 3] 3)).mono hb9.size))
  clear ho9 hb9 d0 d1
  go_wp2_with fail
  refine (sm_at HLN.out HL2.out).mono ?_
  rintro e w10 ⟨rfl, hb10⟩
  have HB10 := Lib.hid (HB9.out.trans (hb10.mono HB9.out.size))
  obtain ⟨d0, d1⟩ := HD.out w10 HB10.out
  clear hb10
  go_wp2_with fail
  refine (ic_at (HL8.out.next HB10.out)).mono ?_
  rintro e w11 ⟨rfl, hb11⟩
  have HB11 := Lib.hid (HB10.out.trans (hb11.mono HB10.out.size))
  clear hb11 d0 d1
  obtain ⟨d0, d1⟩ := HD.out w11 HB11.out
  go_wp2_with fail
  refine (fn_at (E := 0) (HL8.out.next HB11.out) (by decide)).mono ?_
  rintro e w12 ⟨rfl, hb12⟩
  have HB12 := Lib.hid (HB11.out.trans (hb12.mono HB11.out.size))
  clear hb12 d0 d1
  obtain ⟨d0, d1⟩ := HD.out w12 HB12.out
  go_wp2_with fail
  refine (fn_at (E := 9) (HL8.out.next HB12.out) (by decide)).mono ?_
  rintro e w13 ⟨rfl, hb13⟩
  have HB13 := Lib.hid (HB12.out.trans (hb13.mono HB12.out.size))
  clear hb13 d0 d1
  obtain ⟨d0, d1⟩ := HD.out w13 HB13.out
  go_wp2_with fail
  refine (rt_at (HL8.out.next HB13.out)).mono ?_
  rintro e w14 ⟨rfl, hb14⟩
  have HB14 := Lib.hid (HB13.out.trans (hb14.mono HB13.out.size))
  clear hb14 d0 d1
  go_wp2_with fail
  go_ret
  exact ⟨rfl, HB8.out.trans (HB14.out.mono HB8.out.size)⟩
end Go.Proofs.Ytemcmhpfpfmgdaa
