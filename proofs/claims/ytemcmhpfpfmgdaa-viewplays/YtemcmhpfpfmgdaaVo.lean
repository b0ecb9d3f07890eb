import Derived.Test.YtemcmhpfpfmgdaaVn
/-
  The contracts of view.own and view.barred. No condition but that the lists have at most a million members.
-/
namespace Go.Proofs.Ytemcmhpfpfmgdaa
open Go.ChangeShapes Go.WideShapes Go.ChangeAt Go.RowKit Go.Maps
set_option linter.unusedVariables false

section
variable {W : World} {b : Nat} {x y : Value} {t : TypeId}
theorem c2_0 (h : W.heap[b]? = some (.cells #[x, y] t (0, 0))) : W.cell? ⟨b, 0, none⟩ = some x := cell_of_row W b 0 _ t (0, 0) h
theorem c2_1 (h : W.heap[b]? = some (.cells #[x, y] t (0, 0))) : W.cell? ⟨b, 1, none⟩ = some y := cell_of_row W b 1 _ t (0, 0) h
theorem set2_at (h : W.heap[b]? = some (.cells #[x, y] t (0, 0))) (u v : Value) : ((W.setCell ⟨b, 0, none⟩ u).setCell ⟨b, 1, none⟩ v).heap[b]? = some (.cells #[u, v] t (0, 0)) := by
  obtain ⟨hlt, hk⟩ := Array.getElem?_eq_some_iff.1 h
  simp [World.setCell, Array.getElem?_modify, h]
theorem set2_other {j : Nat} {o : Obj} (h : W.heap[j]? = some o) (hne : j ≠ b) (u v : Value) : ((W.setCell ⟨b, 0, none⟩ u).setCell ⟨b, 1, none⟩ v).heap[j]? = some o :=
  (Below.heap_setCell _ _ _ j hne).trans ((Below.heap_setCell _ _ _ j hne).trans h)
end
theorem below_set2 {w W : World} {B b : Nat} (h : Below B w W) (hb : B ≤ b) (u v : Value) : Below B w ((W.setCell ⟨b, 0, none⟩ u).setCell ⟨b, 1, none⟩ v) := (h.setCell (p := ⟨b, 0, none⟩) hb u).setCell (p := ⟨b, 1, none⟩) hb v
theorem own_set2 {W : World} {base : Nat} {e : TypeId} {s : Nat} {v : Value} {k : Nat} {xs : List Value} (h : W.ownsRow base e s v k xs) {b : Nat} (hb : b < base) (u u' : Value) : ((W.setCell ⟨b, 0, none⟩ u).setCell ⟨b, 1, none⟩ u').ownsRow base e s v k xs := own_setLow (own_setLow h hb) hb
/-- A view stands boxed in the first block behind w, the answer's room is the second. -/
structure Vb (w : World) (v0 v1 r0 r1 : Value) (t tr : TypeId) (W : World) : Prop where
  z : w.heap.size + 2 ≤ W.heap.size
  h0 : W.heap[w.heap.size]? = some (.cells #[v0, v1] t (0, 0))
  h1 : W.heap[w.heap.size + 1]? = some (.cells #[r0, r1] tr (0, 0))
  bl : Below w.heap.size w W
section
variable {w W W' : World} {v0 v1 r0 r1 : Value} {t tr : TypeId}
theorem Vb.next (h : Vb w v0 v1 r0 r1 t tr W) (hb : Below W.heap.size W W') : Vb w v0 v1 r0 r1 t tr W' :=
  ⟨Nat.le_trans h.z hb.size, (hb.block _ (by have := h.z; omega)).trans h.h0, (hb.block _ (by have := h.z; omega)).trans h.h1, h.bl.trans (hb.mono h.bl.size)⟩
theorem Vb.init (w : World) (v0 v1 r0 r1 : Value) (t tr : TypeId) : Vb w v0 v1 r0 r1 t tr ((w.alloc (.cells #[v0, v1] t)).alloc (.cells #[r0, r1] tr)) := by
  refine ⟨by simp, ?_, ?_, ((Below.refl _ w).alloc (Nat.le_refl _) _).alloc (by simp) _⟩
  · exact (Below.heap_alloc _ _ _ (by simp)).trans (World.alloc_heap_new w _)
  · have := World.alloc_heap_new (w.alloc (.cells #[v0, v1] t)) (.cells #[r0, r1] tr)
    rwa [World.size_alloc] at this
theorem Vb.setV (h : Vb w v0 v1 r0 r1 t tr W) (u v : Value) : Vb w u v r0 r1 t tr ((W.setCell ⟨w.heap.size, 0, none⟩ u).setCell ⟨w.heap.size, 1, none⟩ v) :=
  ⟨by have := h.z; simpa [World.setCell] using this, set2_at h.h0 u v, set2_other h.h1 (by omega) u v, below_set2 h.bl (Nat.le_refl _) u v⟩
theorem Vb.setR (h : Vb w v0 v1 r0 r1 t tr W) (u v : Value) : Vb w v0 v1 u v t tr ((W.setCell ⟨w.heap.size + 1, 0, none⟩ u).setCell ⟨w.heap.size + 1, 1, none⟩ v) :=
  ⟨by have := h.z; simpa [World.setCell] using this, set2_other h.h0 (by omega) u v, set2_at h.h1 u v, below_set2 h.bl (Nat.le_succ _) u v⟩
end
theorem vp_of {v : V} {t : TypeId} {w w' : World} {num : Int} {A : Option Addr} {n c : Nat} {l : List Mb} (hv : v = (num, l)) (hn : l.length = n) (ho : w'.ownsRow w.heap.size t 2 (.slice A n c) n (mc l)) (hb : Below w.heap.size w w') :
    VPost v t w (.returned (.agg #[.int .i64 num, .slice A n c])) w' := by
  subst hv hn
  exact ⟨A, c, rfl, ho, hb⟩
set_option maxHeartbeats 2000000 in
set_option maxRecDepth 20000 in
theorem own_any (num : Int) (A : Option Addr) (c : Nat) (l : List Mb) (w : World) (hA : Lies w w.heap.size 2 A l.length (mc l)) (hn : l.length ≤ 1000000) :
    Calls Try.prog 30 #[.agg #[.int .i64 num, .slice A l.length c]] w (VPost (good (num, l)) 59 w) := by
  obtain ⟨iv, hiv, hzv, hzsv, hzbv⟩ := info_parts info59
  have IV := Lib.hid hiv
  have ZV := Lib.hid hzv
  have SV := Lib.hid hzsv
  have BV := Lib.hid hzbv
  have HA := Lib.hid hA
  have hI := Vb.init w (.int .i64 num) (.slice A l.length c) (.int .i64 0) (.slice none 0 0) 24 24
  clear hiv hzv hzsv hzbv hA
  have r0 : ((w.alloc (.cells #[.int .i64 num, .slice A l.length c] 24)).alloc (.cells #[.int .i64 0, .slice none 0 0] 24)).cell? ⟨w.heap.size, 0, none⟩ = some (.int .i64 num) := c2_0 hI.h0
  have r1 : ((w.alloc (.cells #[.int .i64 num, .slice A l.length c] 24)).alloc (.cells #[.int .i64 0, .slice none 0 0] 24)).cell? ⟨w.heap.size, 1, none⟩ = some (.slice A l.length c) := c2_1 hI.h0
  go_enter Try.func30, Try.ntmps30
  go_upto_region 1 with fail
  generalize (w.alloc (.cells #[.int .i64 num, .slice A l.length c] 24)).alloc (.cells #[.int .i64 0, .slice none 0 0] 24) = w2 at hI r0 r1 ⊢
  go_wp2_with fail
  refine (right_any num A c l _ (HA.out.next hI.bl) hn).mono ?_
  rintro e w3 ⟨rfl, hb3⟩
  have hI3 := hI.next hb3
  have HI := Lib.hid hI3
  clear r0 r1 hI hb3
  have d0 := c2_0 hI3.h0
  have d1 := c2_1 hI3.h0
  have r0 := c2_0 hI3.h1
  have f0 := unfrozen hI3.h1 0
  have r1 := c2_1 hI3.h1
  have f1 := unfrozen hI3.h1 1
  clear hI3
  cases hq : rightV (num, l) with
  | false =>
    have HG := Lib.hid (good_no hq)
    clear hq
    go_wp2_with fail
    refine bodyPost_ret (v := .agg #[.int .i64 0, .slice none 0 0]) (by simp [results, Try.results30, go_sem, r0, r1]) rfl ?_
    exact vp_of (l := []) HG.out rfl (World.ownsRow_nil _ _ _ _) (HI.out.setR _ _).bl
  | true =>
    have HG := Lib.hid (good_eq hq)
    clear hq
    have HLD := Lib.hid (show Lies w3.drew w3.heap.size 2 A l.length (mc l) from (HA.out.next HI.out.bl).drewN 1)
    have HON := Lib.hid (World.ownsRow_nil w3.drew w3.heap.size 59 2)
    go_upto_region 3 with fail
    go_region_law (refine step_own2 rfl _ _ 22 rfl w3.heap.size 59 iv _ 2 16 Try.underlying22 IV.out ZV.out SV.out BV.out rfl (by decide) none 0 0 [] (by simp [Act.eval]) HON.out w3.heap.size A l.length c (mc l) (by simp [Act.eval]) HLD.out (mc_one _) l.length (by simp) (by unfold maxLen; omega) (by omega) (Nat.le_refl _) ?_; intro A9 c9 w9 ho9 hb9; have hI9 := HI.out.next (below_of_drew (B := w3.heap.size) hb9); have HI9 := Lib.hid hI9; have HO9 := Lib.hid ho9; have r0 := c2_0 hI9.h1; have f0 := unfrozen hI9.h1 0; have r1 := c2_1 hI9.h1; have f1 := unfrozen hI9.h1 1; have d0 := c2_0 hI9.h0; have d1 := c2_1 hI9.h0; clear ho9 hb9 hI9)
    all_goals
      go_wp2_with fail
      refine bodyPost_ret (v := .agg #[.int .i64 num, .slice A9 l.length c9]) (by simp [results, Try.results30, go_sem, r0, r1]) rfl ?_
      have hz := HI.out.z
      exact vp_of HG.out rfl (own_set2 (own_low (base := w3.heap.size) (by have := HO9.out; simpa using this) (Nat.le_refl _)) (by omega) _ _ |> fun h => own_low h (by omega)) (HI9.out.setR _ _).bl
theorem je_1 {g : V} {id inc : Int} (h : mayB id inc = false) : joinE g id inc = 1 := by unfold joinE; rw [if_neg (by rw [h]; decide)]
theorem je_6 {g : V} {id inc : Int} (h : mayB id inc = true) (h1 : g.1 = 1099511627776) : joinE g id inc = 6 := by unfold joinE; rw [if_pos h, if_pos h1]
theorem je_5 {g : V} {id inc : Int} (h : mayB id inc = true) (h1 : ¬ g.1 = 1099511627776) (h2 : incL g.2 id = inc) : joinE g id inc = 5 := by unfold joinE; rw [if_pos h, if_neg h1, if_pos h2]
theorem je_9 {g : V} {id inc : Int} (h : mayB id inc = true) (h1 : ¬ g.1 = 1099511627776) (h2 : ¬ incL g.2 id = inc) (h3 : inc < incL g.2 id) : joinE g id inc = 9 := by unfold joinE; rw [if_pos h, if_neg h1, if_neg h2, if_pos h3]
theorem je_3 {g : V} {id inc : Int} (h : mayB id inc = true) (h1 : ¬ g.1 = 1099511627776) (h2 : ¬ incL g.2 id = inc) (h3 : ¬ inc < incL g.2 id) (h4 : incL g.2 id = 0 ∧ g.2.length = 5) : joinE g id inc = 3 := by unfold joinE; rw [if_pos h, if_neg h1, if_neg h2, if_neg h3, if_pos h4]
theorem je_0 {g : V} {id inc : Int} (h : mayB id inc = true) (h1 : ¬ g.1 = 1099511627776) (h2 : ¬ incL g.2 id = inc) (h3 : ¬ inc < incL g.2 id) (h4 : ¬ (incL g.2 id = 0 ∧ g.2.length = 5)) : joinE g id inc = 0 := by unfold joinE; rw [if_pos h, if_neg h1, if_neg h2, if_neg h3, if_neg h4]
theorem mo_0 {f : Int → Int} {id : Int} (h : f id = 0) : mo f id = (0, 0) := if_pos h
theorem mo_1 {f : Int → Int} {id : Int} (h : ¬ f id = 0) : mo f id = (id, f id) := if_neg h
/-- Three boxes: a view and two members. -/
structure Br (w : World) (num : Int) (A : Option Addr) (n c : Nat) (o1 o2 id inc : Int) (W : World) : Prop where
  d0 : W.cell? ⟨w.heap.size, 0, none⟩ = some (.int .i64 num)
  d1 : W.cell? ⟨w.heap.size, 1, none⟩ = some (.slice A n c)
  e0 : W.cell? ⟨w.heap.size + 1, 0, none⟩ = some (.int .i64 o1)
  e1 : W.cell? ⟨w.heap.size + 1, 1, none⟩ = some (.int .i64 o2)
  m0 : W.cell? ⟨w.heap.size + 1 + 1, 0, none⟩ = some (.int .i64 id)
  m1 : W.cell? ⟨w.heap.size + 1 + 1, 1, none⟩ = some (.int .i64 inc)
  z : w.heap.size + 3 ≤ W.heap.size
  bl : Below w.heap.size w W
theorem Br.init (w : World) (num : Int) (A : Option Addr) (n c : Nat) (o1 o2 id inc : Int) : Br w num A n c o1 o2 id inc (((w.alloc (.cells #[.int .i64 num, .slice A n c] 24)).alloc (.cells #[.int .i64 o1, .int .i64 o2] 59)).alloc (.cells #[.int .i64 id, .int .i64 inc] 59)) :=
  ⟨by simp [go_sem], by simp [go_sem], by simp [go_sem], by simp [go_sem], by simp [go_sem], by simp [go_sem], by simp, (((Below.refl _ w).alloc (Nat.le_refl _) _).alloc (by simp) _).alloc (by simp; omega) _⟩
theorem Br.next {w W W' : World} {num : Int} {A : Option Addr} {n c : Nat} {o1 o2 id inc : Int} (h : Br w num A n c o1 o2 id inc W) (hb : Below W.heap.size W W') : Br w num A n c o1 o2 id inc W' :=
  have k : ∀ d o, d < 3 → W'.cell? ⟨w.heap.size + d, o, none⟩ = W.cell? ⟨w.heap.size + d, o, none⟩ := fun d o hd => hb.cell (p := ⟨w.heap.size + d, o, none⟩) (by have := h.z; show w.heap.size + d < _; omega)
  ⟨(k 0 0 (by omega)).trans h.d0, (k 0 1 (by omega)).trans h.d1, (k 1 0 (by omega)).trans h.e0, (k 1 1 (by omega)).trans h.e1, (k 2 0 (by omega)).trans h.m0, (k 2 1 (by omega)).trans h.m1, Nat.le_trans h.z hb.size, h.bl.trans (hb.mono h.bl.size)⟩
set_option maxHeartbeats 2000000 in
set_option maxRecDepth 20000 in
theorem barred_any (num : Int) (A : Option Addr) (c : Nat) (l : List Mb) (id inc : Int) (w : World) (hn : l.length ≤ 1000000) :
    Calls Try.prog 31 #[.agg #[.int .i64 num, .slice A l.length c], .agg #[.int .i64 (mo (incL l) id).1, .int .i64 (mo (incL l) id).2], .agg #[.int .i64 id, .int .i64 inc]] w fun e w' => e = .returned (.int .i64 (joinE (num, l) id inc)) ∧ Below w.heap.size w w' := by
  have J1 := Lib.hid (je_1 (g := (num, l)) (id := id) (inc := inc))
  have J6 := Lib.hid (je_6 (g := (num, l)) (id := id) (inc := inc))
  have J5 := Lib.hid (je_5 (g := (num, l)) (id := id) (inc := inc))
  have J9 := Lib.hid (je_9 (g := (num, l)) (id := id) (inc := inc))
  have J3 := Lib.hid (je_3 (g := (num, l)) (id := id) (inc := inc))
  have J0 := Lib.hid (je_0 (g := (num, l)) (id := id) (inc := inc))
  have M0 := Lib.hid (mo_0 (f := incL l) (id := id))
  have M1 := Lib.hid (mo_1 (f := incL l) (id := id))
  obtain ⟨o, ho⟩ : ∃ o, o = mo (incL l) id := ⟨_, rfl⟩
  rw [← ho] at M0 M1 ⊢
  clear ho
  obtain ⟨o1, o2⟩ := o
  have hI := Br.init w num A l.length c o1 o2 id inc
  have d0 := hI.d0
  have d1 := hI.d1
  have e0 := hI.e0
  have e1 := hI.e1
  have m0 := hI.m0
  have m1 := hI.m1
  go_enter Try.func31, Try.ntmps31
  go_upto_region 1 with fail
  generalize ((w.alloc (.cells #[.int .i64 num, .slice A l.length c] 24)).alloc (.cells #[.int .i64 o1, .int .i64 o2] 59)).alloc (.cells #[.int .i64 id, .int .i64 inc] 59) = w1 at hI d0 d1 e0 e1 m0 m1 ⊢
  go_wp2_with fail
  refine (maybe_any id inc _).mono ?_
  rintro e w2 ⟨rfl, hb2⟩
  have hI2 := hI.next hb2
  clear d0 d1 e0 e1 m0 m1
  have d0 := hI2.d0
  have d1 := hI2.d1
  have e0 := hI2.e0
  have e1 := hI2.e1
  have m0 := hI2.m0
  have m1 := hI2.m1
  have HB := Lib.hid hI2.bl
  clear hI hI2 hb2
  cases hq : mayB id inc with
  | false =>
    have HT := Lib.hid (J1.out hq)
    clear hq
    go_wp2_with fail
    go_ret
    exact ⟨ret_int HT.out.symm, HB.out⟩
  | true =>
    have HQ := Lib.hid hq
    have HM := Lib.hid (mayB_of hq)
    clear hq
    by_cases g1 : num = 1099511627776
    · have HT := Lib.hid (J6.out HQ.out g1)
      have g1' : (num == 1099511627776) = true := by simpa using g1
      clear g1
      go_wp2_with fail
      go_ret
      exact ⟨ret_int HT.out.symm, HB.out⟩
    · have HG1 := Lib.hid g1
      have g1' : (num == 1099511627776) = false := by simpa using g1
      clear g1
      by_cases h0 : incL l id = 0
      · have hm := M0.out h0
        injection hm with hm1 hm2
        subst hm1 hm2
        have HH := Lib.hid h0
        have hi0 : ¬ (0 : Int) = id := by have := HM.out; omega
        have hi1 : ¬ inc < 0 := by have := HM.out; omega
        clear h0
        by_cases g4 : l.length = 5
        · have HT := Lib.hid (J3.out HQ.out HG1.out (by show ¬ incL l id = inc; rw [HH.out]; have := HM.out; omega) (by have := HH.out; have := HM.out; omega) ⟨HH.out, g4⟩)
          have g4' : ((l.length : Int) == 5) = true := by simp; omega
          clear g4
          go_wp2_with fail
          go_ret
          exact ⟨ret_int HT.out.symm, HB.out⟩
        · have HT := Lib.hid (J0.out HQ.out HG1.out (by show ¬ incL l id = inc; rw [HH.out]; have := HM.out; omega) (by have := HH.out; have := HM.out; omega) (fun h => g4 h.2))
          have g4' : ((l.length : Int) == 5) = false := by simp; omega
          clear g4
          go_wp2_with fail
          go_ret
          exact ⟨ret_int HT.out.symm, HB.out⟩
      · have hm := M1.out h0
        injection hm with hm1 hm2
        subst hm1
        have HH := Lib.hid h0
        have hi0 : ¬ o1 = 0 := by have := HM.out; omega
        have HN4 := Lib.hid (show ¬ (incL l o1 = 0 ∧ l.length = 5) from fun h => h0 h.1)
        clear h0
        by_cases g2 : incL l o1 = inc
        · have HT := Lib.hid (J5.out HQ.out HG1.out (by show incL l o1 = inc; exact g2))
          have g2' : o2 = inc := hm2.trans g2
          clear g2 hm2
          go_wp2_with fail
          go_ret
          exact ⟨ret_int HT.out.symm, HB.out⟩
        · have g2' : ¬ o2 = inc := by rw [hm2]; exact g2
          by_cases g3 : inc < incL l o1
          · have HT := Lib.hid (J9.out HQ.out HG1.out g2 g3)
            have g3' : inc < o2 := by rw [hm2]; exact g3
            clear g2 g3 hm2
            go_wp2_with fail
            go_ret
            exact ⟨ret_int HT.out.symm, HB.out⟩
          · have HT := Lib.hid (J0.out HQ.out HG1.out g2 (by omega) HN4.out)
            have g3' : ¬ inc < o2 := by rw [hm2]; exact g3
            clear g2 g3 hm2
            go_wp2_with fail
            go_ret
            exact ⟨ret_int HT.out.symm, HB.out⟩
end Go.Proofs.Ytemcmhpfpfmgdaa
