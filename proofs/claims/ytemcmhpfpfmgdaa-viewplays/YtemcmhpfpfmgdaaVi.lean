import Derived.Test.YtemcmhpfpfmgdaaVf
/-
  The contracts of the statements' own as and do. No condition but that there are at most a thousand members and the numbers are of 64 bits.
-/
namespace Go.Proofs.Ytemcmhpfpfmgdaa
open Go.ChangeShapes Go.WideShapes Go.ChangeAt Go.RowKit Go.Maps
set_option linter.unusedVariables false

def AsRel (num : Int) (l : List Mb) (w2 : World) (B : Nat) (i : Value) (W : World) : Prop := ∃ (k : Nat) (D : Option Addr) (d : Nat), i = .int .i64 (k : Int) ∧ k ≤ l.length ∧ Hid (W.heap[w2.heap.size]? = some (.cells #[.int .i64 num, .slice D k d] 30 (0, 0))) ∧ Hid (W.ownsRow B 60 2 (.slice D k d) k (mc (l.take k))) ∧ Hid (Below w2.heap.size w2 W)
set_option maxHeartbeats 4000000 in
set_option maxRecDepth 20000 in
theorem as_any (num : Int) (A : Option Addr) (c : Nat) (l : List Mb) (w : World) (hA : Lies w w.heap.size 2 A l.length (mc l)) (hn : l.length ≤ 1000) :
    Calls Try.prog 11 #[.agg #[.int .i64 num, .slice A l.length c]] w (VPost (num, l) 60 w) := by
  obtain ⟨iv, hiv, hzv, hzsv, hzbv⟩ := info_parts info60
  have IV := Lib.hid hiv
  have ZV := Lib.hid hzv
  have SV := Lib.hid hzsv
  have BV := Lib.hid hzbv
  have HA := Lib.hid hA
  have hI := Vb.init w (.int .i64 num) (.slice A l.length c) (.int .i64 0) (.slice none 0 0) 24 30
  clear hiv hzv hzsv hzbv hA
  have d0 : ((w.alloc (.cells #[.int .i64 num, .slice A l.length c] 24)).alloc (.cells #[.int .i64 0, .slice none 0 0] 30)).cell? ⟨w.heap.size, 0, none⟩ = some (.int .i64 num) := c2_0 hI.h0
  go_enter Try.func11, Try.ntmps11
  go_upto_region 1 with fail
  generalize (w.alloc (.cells #[.int .i64 num, .slice A l.length c] 24)).alloc (.cells #[.int .i64 0, .slice none 0 0] 30) = w2 at hI d0 ⊢
  have HI := Lib.hid hI
  have HB6 := Lib.hid (below_alloc w2 (.cells #[.int .i64 num, .slice none 0 0] 30))
  have H6 := Lib.hid (World.alloc_heap_new w2 (.cells #[.int .i64 num, .slice none 0 0] 30))
  have HS6 := Lib.hid (show (w2.alloc (.cells #[.int .i64 num, .slice none 0 0] 30)).heap.size = w2.heap.size + 1 by simp)
  go_upto_region 2 with fail
  generalize w2.alloc (.cells #[.int .i64 num, .slice none 0 0] 30) = w6 at HB6 H6 HS6 ⊢
  clear d0 hI
  go_wp2_with fail
  go_loopw [4] (fun i W => AsRel num l w2 w6.heap.size i W) (fun i W => l.length - (intOf i).toNat)
  case atStart => exact ⟨0, none, 0, rfl, Nat.zero_le _, H6, Lib.hid (World.ownsRow_nil _ _ _ _), HB6⟩
  case round =>
    obtain ⟨k, D, d, rfl, hk, H9, HO, HW⟩ := hrel
    have HIw := Lib.hid (HI.out.next HW.out)
    have d1 := c2_1 HIw.out.h0
    have HZW := Lib.hid (show w6.heap.size ≤ wr.heap.size by rw [HS6.out]; have := (Array.getElem?_eq_some_iff.1 H9.out).1; omega)
    by_cases hlt : k < l.length
    · obtain ⟨ad, rfl, hadb, e0, e1⟩ := (HA.out.below HIw.out.bl).mb k hlt
      have hkl : (k : Int) < (l.length : Int) := by omega
      have hk5 : k < 1000 := by omega
      have HX := Lib.hid (mtake_at l k hlt)
      obtain ⟨m, hm⟩ : ∃ m, m = mAt l k := ⟨_, rfl⟩
      rw [← hm] at HX e0 e1
      clear hm
      obtain ⟨mi, mn⟩ := m
      simp only at e0 e1
      generalize hX0 : l.take k = X at *
      have HO8 := Lib.hid (own_next (own_next HO.out (below_alloc wr (.cells #[.int .i64 mi, .int .i64 mn] 60))) (Below.refl _ (wr.alloc (.cells #[.int .i64 mi, .int .i64 mn] 60))).drew)
      have HL8 := Lib.hid (show Lies (wr.alloc (.cells #[.int .i64 mi, .int .i64 mn] 60)).drew (wr.heap.size + 1) 2 (some ⟨wr.heap.size, 0, none⟩) 1 (mc [(mi, mn)]) from lies_cells wr (mc [(mi, mn)]) 60 1 2 rfl)
      have HW8 := Lib.hid (show Below w2.heap.size w2 (wr.alloc (.cells #[.int .i64 mi, .int .i64 mn] 60)).drew from (HW.out.trans ((below_alloc wr (.cells #[.int .i64 mi, .int .i64 mn] 60)).mono HW.out.size)).drew)
      have H98 := Lib.hid (show (wr.alloc (.cells #[.int .i64 mi, .int .i64 mn] 60)).drew.heap[w2.heap.size]? = some (.cells #[.int .i64 num, .slice D k d] 30 (0, 0)) from (Below.heap_alloc wr (.cells #[.int .i64 mi, .int .i64 mn] 60) w2.heap.size (Array.getElem?_eq_some_iff.1 H9.out).1).trans H9.out)
      have HZ8 := Lib.hid (show w6.heap.size ≤ (wr.alloc (.cells #[.int .i64 mi, .int .i64 mn] 60)).drew.heap.size by have h1 := HZW.out; show _ ≤ (wr.alloc (.cells #[.int .i64 mi, .int .i64 mn] 60)).heap.size; simp; omega)
      have o0 := c2_1 H9.out
      have o9 : (wr.alloc (.cells #[.int .i64 mi, .int .i64 mn] 60)).cell? ⟨w2.heap.size, 1, none⟩ = some (.slice D k d) := c2_1 H98.out
      go_upto_region 5 with fail
      go_region_law (refine step_own2 rfl _ _ 28 rfl w6.heap.size 60 iv _ 2 16 Try.underlying28 IV.out ZV.out SV.out BV.out rfl (by decide) D k d (mc X) (by simp [Act.eval]) HO8.out (wr.heap.size + 1) (some ⟨wr.heap.size, 0, none⟩) 1 1 (mc [(mi, mn)]) (by simp [Act.eval]) HL8.out (mc_one _) (k + 1) rfl (by unfold maxLen; omega) (by omega) HZ8.out ?_; intro A9 c9 w9 ho9 hb9; have H99 := Lib.hid ((hb9.block w2.heap.size (by rw [HS6.out]; omega)).trans H98.out); have HW9 := Lib.hid (show Below w2.heap.size w2 w9 from HW8.out.trans (hb9.mono (by rw [HS6.out]; omega))); have HO9 := Lib.hid ho9; have o1 := c2_1 H99.out; have o2 := unfrozen H99.out 1; clear ho9 hb9)
      all_goals
        have HS9 := Lib.hid (set1_at H99.out (.slice A9 (k + 1) c9))
        have HOS := Lib.hid (own_setLow HO9.out (b := w2.heap.size) (o := 1) (by rw [HS6.out]; omega) (u := .slice A9 (k + 1) c9))
        have HWS := Lib.hid (HW9.out.setCell (p := ⟨w2.heap.size, 1, none⟩) (Nat.le_refl _) (.slice A9 (k + 1) c9))
        clear o0 o9 o1 o2 d1 e0 e1
        go_wp2_with fail
        go_roundw
        case rel => exact ⟨k + 1, A9, c9, by go_num, by omega, HS9, by rw [HX.out, mc_append]; exact HOS, HWS⟩
        case measure => simp [intOf]; omega
    · have hk' : k = l.length := by omega
      subst hk'
      have HT := Lib.hid (show l.take l.length = l from List.take_length)
      rw [HT.out] at HO
      have o0 := c2_0 H9.out
      have o1 := c2_1 H9.out
      have r0 := c2_0 HIw.out.h1
      have f0 := unfrozen HIw.out.h1 0
      have r1 := c2_1 HIw.out.h1
      have f1 := unfrozen HIw.out.h1 1
      go_wp2_with fail
      refine bodyPost_ret (v := .agg #[.int .i64 num, .slice D l.length d]) (by simp [results, Try.results11, go_sem, r0, r1]) rfl ?_
      have hz := HI.out.z
      exact vp_of rfl rfl (own_low (own_set2 HO.out (by rw [HS6.out]; omega) _ _) (by rw [HS6.out]; omega)) (HIw.out.setR _ _).bl
/-- A view, an act and the room of the answer stand in the first three blocks behind w. -/
structure Vd3 (w : World) (num : Int) (A : Option Addr) (n c : Nat) (k id inc : Int) (W : World) : Prop where
  d0 : W.cell? ⟨w.heap.size, 0, none⟩ = some (.int .i64 num)
  d1 : W.cell? ⟨w.heap.size, 1, none⟩ = some (.slice A n c)
  a0 : W.cell? ⟨w.heap.size + 1, 0, none⟩ = some (.int .i64 k)
  a1 : W.cell? ⟨w.heap.size + 1, 1, none⟩ = some (.int .i64 id)
  a2 : W.cell? ⟨w.heap.size + 1, 2, none⟩ = some (.int .i64 inc)
  h2 : W.heap[w.heap.size + 1 + 1]? = some (.cells #[.int .i64 0, .slice none 0 0] 24 (0, 0))
  z : w.heap.size + 3 ≤ W.heap.size
  bl : Below w.heap.size w W
theorem Vd3.init (w : World) (num : Int) (A : Option Addr) (n c : Nat) (k id inc : Int) : Vd3 w num A n c k id inc (((w.alloc (.cells #[.int .i64 num, .slice A n c] 24)).alloc (.cells #[.int .i64 k, .int .i64 id, .int .i64 inc] 37)).alloc (.cells #[.int .i64 0, .slice none 0 0] 24)) := by
  refine ⟨by simp [go_sem], by simp [go_sem], by simp [go_sem], by simp [go_sem], by simp [go_sem], ?_, by simp, (((Below.refl _ w).alloc (Nat.le_refl _) _).alloc (by simp) _).alloc (by simp; omega) _⟩
  have := World.alloc_heap_new ((w.alloc (.cells #[.int .i64 num, .slice A n c] 24)).alloc (.cells #[.int .i64 k, .int .i64 id, .int .i64 inc] 37)) (.cells #[.int .i64 0, .slice none 0 0] 24)
  rw [World.size_alloc, World.size_alloc] at this
  exact this
theorem ep_do {v : V} {E : Int} {w w' : World} {W : World} {b : Nat} {A : Option Addr} {c : Nat} (ho : w'.ownsRow W.heap.size 59 2 (.slice A v.2.length c) v.2.length (mc v.2)) (hb : Below w.heap.size w w') (h1 : w.heap.size ≤ b) (h2 : b < W.heap.size) :
    EPost v E 59 w (.returned (.tuple #[.agg #[.int .i64 v.1, .slice A v.2.length c], .int .i64 E])) ((w'.setCell ⟨b, 0, none⟩ (.int .i64 v.1)).setCell ⟨b, 1, none⟩ (.slice A v.2.length c)) :=
  ⟨A, c, rfl, own_low (own_set2 ho h2 _ _) (by omega), below_set2 hb h1 _ _⟩
theorem act_0 {g : V} {k id inc : Int} (h : k = 0) : actG g k id inc = joinG g id inc ∧ actE g k id inc = joinE g id inc := ⟨if_pos h, if_pos h⟩
theorem act_1 {g : V} {k id inc : Int} (h : ¬ k = 0) : actG g k id inc = leaveG g id ∧ actE g k id inc = leaveE g id := ⟨if_neg h, if_neg h⟩
set_option maxHeartbeats 4000000 in
set_option maxRecDepth 20000 in
theorem do_any (num : Int) (A : Option Addr) (c : Nat) (l : List Mb) (k id inc : Int) (w : World) (hA : Lies w w.heap.size 2 A l.length (mc l)) (hn : l.length ≤ 1000000) (hw : (Lit.int .i64 id).wf = true) :
    Calls Try.prog 14 #[.agg #[.int .i64 num, .slice A l.length c], .agg #[.int .i64 k, .int .i64 id, .int .i64 inc]] w (EPost (actG (good (num, l)) k id inc) (actE (good (num, l)) k id inc) 59 w) := by
  have hI := Vd3.init w num A l.length c k id inc
  have CJ := Lib.hid (fun (W : World) (hb : Below w.heap.size w W) => join_any num A c l id inc W (hA.next hb) hn hw)
  have CL := Lib.hid (fun (W : World) (hb : Below w.heap.size w W) => leave_any num A c l id W (hA.next hb) hn hw)
  obtain ⟨g, hg⟩ : ∃ g, g = good (num, l) := ⟨_, rfl⟩
  rw [← hg] at CJ CL ⊢
  clear hA hg
  have d0 := hI.d0
  have d1 := hI.d1
  have a0 := hI.a0
  have a1 := hI.a1
  have a2 := hI.a2
  have HI := Lib.hid hI
  clear hI
  by_cases hk : k = 0
  · obtain ⟨q1, q2⟩ := act_0 (g := g) (id := id) (inc := inc) hk
    rw [q1, q2]
    have hk' : (k == 0) = true := by simpa using hk
    clear hk q1 q2
    generalize joinG g id inc = v at *
    generalize joinE g id inc = E at *
    go_enter Try.func14, Try.ntmps14
    go_upto_region 1 with fail
    generalize ((w.alloc (.cells #[.int .i64 num, .slice A l.length c] 24)).alloc (.cells #[.int .i64 k, .int .i64 id, .int .i64 inc] 37)).alloc (.cells #[.int .i64 0, .slice none 0 0] 24) = w3 at HI d0 d1 a0 a1 a2 ⊢
    go_wp2_with fail
    refine (CJ.out _ HI.out.bl).mono ?_
    rintro e w4 ⟨A1, c1, rfl, ho, hb⟩
    have h4 := (hb.block (w.heap.size + 1 + 1) (by have := HI.out.z; omega)).trans HI.out.h2
    have HO := Lib.hid ho
    have HB := Lib.hid (HI.out.bl.trans (hb.mono HI.out.bl.size))
    clear ho hb d0 d1 a0 a1 a2
    have r0 := c2_0 h4
    have f0 := unfrozen h4 0
    have r1 := c2_1 h4
    have f1 := unfrozen h4 1
    go_wp2_with fail
    refine bodyPost_ret (v := .tuple #[.agg #[.int .i64 v.1, .slice A1 v.2.length c1], .int .i64 E]) (by simp [results, Try.results14, go_sem, r0, r1]) rfl ?_
    exact ep_do HO.out HB.out (by omega) (by have := HI.out.z; omega)
  · obtain ⟨q1, q2⟩ := act_1 (g := g) (id := id) (inc := inc) hk
    rw [q1, q2]
    have hk' : (k == 0) = false := by simpa using hk
    clear hk q1 q2
    generalize leaveG g id = v at *
    generalize leaveE g id = E at *
    go_enter Try.func14, Try.ntmps14
    go_upto_region 1 with fail
    generalize ((w.alloc (.cells #[.int .i64 num, .slice A l.length c] 24)).alloc (.cells #[.int .i64 k, .int .i64 id, .int .i64 inc] 37)).alloc (.cells #[.int .i64 0, .slice none 0 0] 24) = w3 at HI d0 d1 a0 a1 a2 ⊢
    go_wp2_with fail
    refine (CL.out _ HI.out.bl).mono ?_
    rintro e w4 ⟨A1, c1, rfl, ho, hb⟩
    have h4 := (hb.block (w.heap.size + 1 + 1) (by have := HI.out.z; omega)).trans HI.out.h2
    have HO := Lib.hid ho
    have HB := Lib.hid (HI.out.bl.trans (hb.mono HI.out.bl.size))
    clear ho hb d0 d1 a0 a1 a2
    have r0 := c2_0 h4
    have f0 := unfrozen h4 0
    have r1 := c2_1 h4
    have f1 := unfrozen h4 1
    go_wp2_with fail
    refine bodyPost_ret (v := .tuple #[.agg #[.int .i64 v.1, .slice A1 v.2.length c1], .int .i64 E]) (by simp [results, Try.results14, go_sem, r0, r1]) rfl ?_
    exact ep_do HO.out HB.out (by omega) (by have := HI.out.z; omega)
end Go.Proofs.Ytemcmhpfpfmgdaa
