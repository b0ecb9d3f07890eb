import Derived.Test.YtemcmhpfpfmgdaaVp
/-
  The contracts of view.Inc, view.Ids and view.Fenced. No condition but that the lists have at most a million members and the numbers are of 64 bits.
-/
namespace Go.Proofs.Ytemcmhpfpfmgdaa
open Go.ChangeShapes Go.WideShapes Go.ChangeAt Go.RowKit Go.Maps
set_option linter.unusedVariables false

theorem field59 (a b : Int) (w : World) : (Instr.field 59 (.agg #[.int .i64 a, .int .i64 b]) 1).run Try.prog w = .ok (.int .i64 b) w := by kernel_rfl
theorem field24 (a : Int) (A : Option Addr) (n c : Nat) (w : World) : (Instr.field 24 (.agg #[.int .i64 a, .slice A n c]) 1).run Try.prog w = .ok (.slice A n c) w := by kernel_rfl
theorem mo_snd (f : Int → Int) (id : Int) : (mo f id).2 = f id := by
  unfold mo
  split
  · rename_i h; exact h.symm
  · rfl
/-- The Ids of members. -/
def idsL (l : List Mb) : List Int := l.map (·.1)
theorem ids_len (l : List Mb) : (idsL l).length = l.length := List.length_map _
theorem ids_snoc (l : List Mb) (m : Mb) : idsL (l ++ [m]) = idsL l ++ [m.1] := by unfold idsL; rw [List.map_append]; rfl
set_option maxHeartbeats 2000000 in
set_option maxRecDepth 20000 in
theorem inc_any (num : Int) (A : Option Addr) (c : Nat) (l : List Mb) (id : Int) (w : World) (hA : Lies w w.heap.size 2 A l.length (mc l)) (hn : l.length ≤ 1000000) (hw : (Lit.int .i64 id).wf = true) :
    Calls Try.prog 18 #[.agg #[.int .i64 num, .slice A l.length c], .int .i64 id] w fun e w' => e = .returned (.int .i64 (incL (good (num, l)).2 id)) ∧ Below w.heap.size w w' := by
  have HB := Lib.hid (below_alloc w (.cells #[.int .i64 num, .slice A l.length c] 24))
  have h0 := World.alloc_heap_new w (.cells #[.int .i64 num, .slice A l.length c] 24)
  have COWN := Lib.hid (fun (W : World) (hb : Below w.heap.size w W) => own_any num A c l W (hA.next hb) hn)
  obtain ⟨g, hg⟩ : ∃ g, g = good (num, l) := ⟨_, rfl⟩
  have HR := Lib.hid (show rightV g = true by rw [hg]; exact good_right _)
  rw [← hg] at COWN ⊢
  clear hA hg
  obtain ⟨gn, gl⟩ := g
  have HN := Lib.hid (right_num HR.out)
  have HL := Lib.hid (right_rise HR.out)
  have HF := Lib.hid (mo_snd (incL gl) id)
  have d0 := c2_0 h0
  have d1 := c2_1 h0
  go_enter Try.func18, Try.ntmps18
  go_upto_region 1 with fail
  generalize w.alloc (.cells #[.int .i64 num, .slice A l.length c] 24) = w1 at HB h0 d0 d1 ⊢
  go_wp2_with fail
  refine (COWN.out _ HB.out).mono ?_
  rintro e w3 ⟨A1, c1, rfl, ho3, hb3⟩
  simp only at ho3
  have HO3 := Lib.hid ho3
  have HB3 := Lib.hid (HB.out.trans (hb3.mono HB.out.size))
  clear ho3 hb3
  go_wp2_with fail
  refine (byid_any gn A1 c1 gl _ (Lies.of_own HO3.out) HL.out (by have := HN.out; omega)).mono ?_
  rintro e w6 ⟨b, nn, D, rfl, hnn, hD, ho6, hbb, hb6⟩
  have HMP := Lib.hid ho6
  have HD := Lib.hid hD
  have HB6 := Lib.hid (HB3.out.trans (hb6.mono HB3.out.size))
  clear ho6 hD hb6
  have fld := fun a b => field59 a b w6
  go_wp2_with (first | (at_lookup; refine wpList_look _ rfl _ _ rfl b nn D (incL gl) rfl HMP.out HD.out id rfl hw ?_) | fail)
  go_ret
  exact ⟨ret_int HF.out, HB6.out⟩
def IdRel (l : List Mb) (w1 : World) (B : Nat) (o i : Value) (W : World) : Prop := ∃ (k : Nat) (D : Option Addr) (d : Nat), i = .int .i64 k ∧ o = .slice D k d ∧ k ≤ l.length ∧ Hid (Below w1.heap.size w1 W) ∧ Hid (W.ownsRow B 3 1 (.slice D k d) k (vc (idsL (l.take k))))
/-- Numbers of the call's own are answered. -/
def NPost (l : List Int) (w : World) (r : Ending) (w' : World) : Prop := ∃ D d, r = .returned (.slice D l.length d) ∧ w'.ownsRow w.heap.size 3 1 (.slice D l.length d) l.length (vc l) ∧ Below w.heap.size w w'
theorem np_of {l : List Int} {w w' : World} {D : Option Addr} {n d : Nat} (hn : l.length = n) (ho : w'.ownsRow w.heap.size 3 1 (.slice D n d) n (vc l)) (hb : Below w.heap.size w w') : NPost l w (.returned (.slice D n d)) w' := by
  subst hn
  exact ⟨D, d, rfl, ho, hb⟩
set_option maxHeartbeats 2000000 in
set_option maxRecDepth 20000 in
theorem ids_any (num : Int) (A : Option Addr) (c : Nat) (l : List Mb) (w : World) (hA : Lies w w.heap.size 2 A l.length (mc l)) (hn : l.length ≤ 1000000) :
    Calls Try.prog 21 #[.agg #[.int .i64 num, .slice A l.length c]] w (NPost (idsL (good (num, l)).2) w) := by
  obtain ⟨iv, hiv, hzv, hzsv, hzbv⟩ := info_parts (show (Try.prog.info? 3).map (fun i => (i.zero, i.size, i.bytes)) = some (some (.int .i64 0), 1, 8) by kernel_rfl)
  have IV := Lib.hid hiv
  have ZV := Lib.hid hzv
  have SV := Lib.hid hzsv
  have BV := Lib.hid hzbv
  have HB := Lib.hid (below_alloc w (.cells #[.int .i64 num, .slice A l.length c] 24))
  have h0 := World.alloc_heap_new w (.cells #[.int .i64 num, .slice A l.length c] 24)
  have COWN := Lib.hid (fun (W : World) (hb : Below w.heap.size w W) => own_any num A c l W (hA.next hb) hn)
  obtain ⟨g, hg⟩ : ∃ g, g = good (num, l) := ⟨_, rfl⟩
  have HR := Lib.hid (show rightV g = true by rw [hg]; exact good_right _)
  rw [← hg] at COWN ⊢
  clear hA hg hiv hzv hzsv hzbv
  obtain ⟨gn, gl⟩ := g
  have HN := Lib.hid (right_num HR.out)
  have d0 := c2_0 h0
  have d1 := c2_1 h0
  have HZ1 := Lib.hid (show w.heap.size ≤ (w.alloc (.cells #[.int .i64 num, .slice A l.length c] 24)).heap.size by simp)
  go_enter Try.func21, Try.ntmps21
  go_upto_region 1 with fail
  generalize w.alloc (.cells #[.int .i64 num, .slice A l.length c] 24) = w1 at HB h0 d0 d1 HZ1 ⊢
  go_wp2_with fail
  refine (COWN.out _ HB.out).mono ?_
  rintro e w3 ⟨A1, c1, rfl, ho3, hb3⟩
  simp only at ho3
  have HO3 := Lib.hid ho3
  have HB3 := Lib.hid (HB.out.trans (hb3.mono HB.out.size))
  clear ho3 hb3
  have fld := fun a A n c => field24 a A n c w3
  go_wp2_with fail
  clear fld
  go_loopw [3, 5, 10] (fun o _ i W => IdRel gl w3 w3.heap.size o i W) (fun _ _ i W => gl.length - (intOf i).toNat)
  case atStart => exact ⟨0, none, 0, rfl, rfl, Nat.zero_le _, Lib.hid (Below.refl _ _), Lib.hid (World.ownsRow_nil _ _ _ _)⟩
  case round =>
    obtain ⟨k, D, d, rfl, rfl, hk, HW, HO⟩ := hrel
    by_cases hlt : k < gl.length
    · obtain ⟨ad, rfl, hadb, e0, e1⟩ := ((Lies.of_own HO3.out).below HW.out).mb k hlt
      have hkl : (k : Int) < (gl.length : Int) := by omega
      have HT := Lib.hid (show idsL (gl.take (k + 1)) = idsL (gl.take k) ++ [(mAt gl k).1] by rw [mtake_at gl k hlt, ids_snoc])
      have hk5 : k ≤ 5 := by have := HN.out; omega
      obtain ⟨m, hm⟩ : ∃ m, m = mAt gl k := ⟨_, rfl⟩
      rw [← hm] at HT e0 e1
      clear hm
      obtain ⟨id, inc⟩ := m
      simp only at e0 e1
      have HBA := Lib.hid (below_alloc wr (.cells #[.int .i64 id, .int .i64 inc] 59))
      have hm4 := World.alloc_heap_new wr (.cells #[.int .i64 id, .int .i64 inc] 59)
      have f0 := c2_0 hm4
      have HO4 := Lib.hid (own_next HO.out HBA.out)
      have HW4 := Lib.hid (HW.out.trans (HBA.out.mono HW.out.size))
      clear hm4
      go_upto_region 5 with fail
      clear e0 e1
      generalize wr.alloc (.cells #[.int .i64 id, .int .i64 inc] 59) = w4 at HBA f0 HO4 HW4 ⊢
      have HO5 := Lib.hid (own_next HO4.out (below_alloc w4 (.cells #[.int .i64 id] 3)))
      have HL5 := Lib.hid (lies_cells w4 (vc [id]) 3 1 1 rfl)
      have HB5 := Lib.hid (HW4.out.trans ((below_alloc w4 (.cells #[.int .i64 id] 3)).mono HW4.out.size))
      go_wp2_with (at_builtin; go_must (refine wpList_app2 _ rfl (.tmp 14) (.tmp 17) 46 rfl w3.heap.size 3 iv _ 1 8 Try.underlying46 IV.out ZV.out SV.out BV.out rfl (by decide) D k d (vc (idsL (gl.take k))) rfl HO5.out (w4.heap.size + 1) (some ⟨w4.heap.size, 0, none⟩) 1 1 (vc [id]) rfl HL5.out (vc_one _) (k + 1) (vc (idsL (gl.take k)) ++ vc [id]) rfl rfl (by unfold maxLen; omega) (by omega) HB5.out.size ?_))
      intro A9 c9 w9 ho9 hb9 hg9
      have HO9 := Lib.hid ho9
      have HB9 := Lib.hid (HB5.out.trans hb9)
      clear ho9 hb9 hg9
      go_wp2_with fail
      go_roundw
      case rel => exact ⟨k + 1, A9, c9, by go_num, rfl, by omega, HB9, by rw [HT.out, vc_app]; exact HO9⟩
      case measure => simp [intOf]; omega
    · have hk' : k = gl.length := by omega
      subst hk'
      have HT := Lib.hid (show gl.take gl.length = gl from List.take_length)
      rw [HT.out] at HO
      go_wp2_with fail
      go_ret
      exact np_of (ids_len gl) (own_low HO.out (by have := HB3.out.size; omega)) (HB3.out.trans (HW.out.mono HB3.out.size))
theorem fe_9 {g : V} {n id inc : Int} (h : ¬ n = g.1) : fenE g n id inc = 9 := if_neg h
theorem fe_4 {g : V} {n id inc : Int} (h : n = g.1) (h1 : incL g.2 id = 0) : fenE g n id inc = 4 := by unfold fenE; rw [if_pos h, if_pos h1]
theorem fe_0 {g : V} {n id inc : Int} (h : n = g.1) (h1 : ¬ incL g.2 id = 0) (h2 : incL g.2 id = inc) : fenE g n id inc = 0 := by unfold fenE; rw [if_pos h, if_neg h1, if_pos h2]
theorem fe_9' {g : V} {n id inc : Int} (h : n = g.1) (h1 : ¬ incL g.2 id = 0) (h2 : ¬ incL g.2 id = inc) : fenE g n id inc = 9 := by unfold fenE; rw [if_pos h, if_neg h1, if_neg h2]
set_option maxHeartbeats 4000000 in
set_option maxRecDepth 20000 in
theorem fenced_any (num : Int) (A : Option Addr) (c : Nat) (l : List Mb) (n id inc : Int) (w : World) (hA : Lies w w.heap.size 2 A l.length (mc l)) (hn : l.length ≤ 1000000) (hw : (Lit.int .i64 id).wf = true) :
    Calls Try.prog 23 #[.agg #[.int .i64 num, .slice A l.length c], .int .i64 n, .int .i64 id, .int .i64 inc] w fun e w' => e = .returned (.int .i64 (fenE (good (num, l)) n id inc)) ∧ Below w.heap.size w w' := by
  have HB := Lib.hid (below_alloc w (.cells #[.int .i64 num, .slice A l.length c] 24))
  have h0 := World.alloc_heap_new w (.cells #[.int .i64 num, .slice A l.length c] 24)
  have COWN := Lib.hid (fun (W : World) (hb : Below w.heap.size w W) => own_any num A c l W (hA.next hb) hn)
  obtain ⟨g, hg⟩ : ∃ g, g = good (num, l) := ⟨_, rfl⟩
  have HR := Lib.hid (show rightV g = true by rw [hg]; exact good_right _)
  rw [← hg] at COWN ⊢
  clear hA hg
  obtain ⟨gn, gl⟩ := g
  have HN := Lib.hid (right_num HR.out)
  have HL := Lib.hid (right_rise HR.out)
  have F9 := Lib.hid (fe_9 (g := (gn, gl)) (n := n) (id := id) (inc := inc))
  have F4 := Lib.hid (fe_4 (g := (gn, gl)) (n := n) (id := id) (inc := inc))
  have F0 := Lib.hid (fe_0 (g := (gn, gl)) (n := n) (id := id) (inc := inc))
  have F9' := Lib.hid (fe_9' (g := (gn, gl)) (n := n) (id := id) (inc := inc))
  have M0 := Lib.hid (mo_0 (f := incL gl) (id := id))
  have M1 := Lib.hid (mo_1 (f := incL gl) (id := id))
  have HI := Lib.hid (show ¬ incL gl id = 0 → ¬ id = 0 from fun h => by have := (incL_bd HL.out id).2.2 h; omega)
  have d0 := c2_0 h0
  have d1 := c2_1 h0
  have HZ1 := Lib.hid (show (w.alloc (.cells #[.int .i64 num, .slice A l.length c] 24)).heap.size = w.heap.size + 1 by simp)
  go_enter Try.func23, Try.ntmps23
  go_upto_region 1 with fail
  generalize w.alloc (.cells #[.int .i64 num, .slice A l.length c] 24) = w1 at HB h0 d0 d1 HZ1 ⊢
  go_wp2_with fail
  refine (COWN.out _ HB.out).mono ?_
  rintro e w3 ⟨A1, c1, rfl, ho3, hb3⟩
  simp only at ho3
  have h3 := (hb3.block w.heap.size (by rw [HZ1.out]; omega)).trans h0
  have HS3 := Lib.hid hb3.size
  clear d0 d1 h0
  have d0 := c2_0 h3
  have d1 := c2_1 h3
  have f0 := unfrozen h3 0
  have f1 := unfrozen h3 1
  have H4 := Lib.hid (set2_at h3 (.int .i64 gn) (.slice A1 gl.length c1))
  have HB4 := Lib.hid (below_set2 (HB.out.trans (hb3.mono HB.out.size)) (Nat.le_refl w.heap.size) (.int .i64 gn) (.slice A1 gl.length c1))
  have HO4 := Lib.hid (own_set2 ho3 (b := w.heap.size) (by rw [HZ1.out]; omega) (.int .i64 gn) (.slice A1 gl.length c1))
  have HZ4 := Lib.hid (show w.heap.size < ((w3.setCell ⟨w.heap.size, 0, none⟩ (.int .i64 gn)).setCell ⟨w.heap.size, 1, none⟩ (.slice A1 gl.length c1)).heap.size from (Array.getElem?_eq_some_iff.1 H4.out).1)
  clear hb3 ho3 h3
  go_upto_region 2 with fail
  generalize (w3.setCell ⟨w.heap.size, 0, none⟩ (.int .i64 gn)).setCell ⟨w.heap.size, 1, none⟩ (.slice A1 gl.length c1) = w4 at H4 HB4 HO4 HZ4 ⊢
  clear d0 d1 f0 f1
  have d0 := c2_0 H4.out
  have d1 := c2_1 H4.out
  go_wp2_with fail
  refine (byid_any gn A1 c1 gl _ (Lies.of_own HO4.out) HL.out (by have := HN.out; omega)).mono ?_
  rintro e w6 ⟨b, nn, D, rfl, hnn, hD, ho6, hbb, hb6⟩
  have H6 := Lib.hid ((hb6.block w.heap.size HZ4.out).trans H4.out)
  have HMP := Lib.hid ho6
  have HD := Lib.hid hD
  have HB6 := Lib.hid (HB4.out.trans (hb6.mono HB4.out.size))
  clear d0 d1 hb6 ho6 hD
  obtain ⟨o, ho⟩ : ∃ o, o = mo (incL gl) id := ⟨_, rfl⟩
  have HOE := Lib.hid ho
  rw [← ho] at M0 M1
  clear ho
  obtain ⟨o1, o2⟩ := o
  have HB7 := Lib.hid (HB6.out.trans ((below_alloc w6 (.cells #[.int .i64 o1, .int .i64 o2] 59)).mono HB6.out.size))
  have H7 := Lib.hid ((Below.heap_alloc w6 (.cells #[.int .i64 o1, .int .i64 o2] 59) w.heap.size (Array.getElem?_eq_some_iff.1 H6.out).1).trans H6.out)
  have HM7 := Lib.hid (World.alloc_heap_new w6 (.cells #[.int .i64 o1, .int .i64 o2] 59))
  go_upto_region 3 with (first | (at_lookup; refine wpList_look _ rfl _ _ rfl b nn D (incL gl) rfl HMP.out HD.out id rfl hw ?_; rw [← HOE.out]) | fail)
  generalize w6.alloc (.cells #[.int .i64 o1, .int .i64 o2] 59) = w7 at HB7 H7 HM7 ⊢
  have d0 := c2_0 H7.out
  have d1 := c2_1 H7.out
  have m0 := c2_0 HM7.out
  have m1 := c2_1 HM7.out
  by_cases g1 : n = gn
  · have HG1 := Lib.hid g1
    have g1' : (n != gn) = false := by simpa using g1
    clear g1
    by_cases h0 : incL gl id = 0
    · have hm := M0.out h0
      injection hm with hm1 hm2
      subst hm1 hm2
      have HT := Lib.hid (F4.out HG1.out h0)
      clear h0
      go_wp2_with fail
      go_ret
      exact ⟨ret_int HT.out.symm, HB7.out⟩
    · have hm := M1.out h0
      injection hm with hm1 hm2
      have hi := HI.out h0
      have HH := Lib.hid h0
      have HM2 := Lib.hid hm2
      have hi1 : ¬ o1 = 0 := by rw [hm1]; exact hi
      clear h0 hm2
      by_cases g2 : o2 = inc
      · have HT := Lib.hid (F0.out HG1.out HH.out (HM2.out.symm.trans g2))
        subst hm1
        go_wp2_with fail
        go_ret
        exact ⟨ret_int HT.out.symm, HB7.out⟩
      · have HT := Lib.hid (F9'.out HG1.out HH.out (fun h => g2 (HM2.out.trans h)))
        subst hm1
        go_wp2_with fail
        go_ret
        exact ⟨ret_int HT.out.symm, HB7.out⟩
  · have HT := Lib.hid (F9.out g1)
    have g1' : (n != gn) = true := by simpa using g1
    clear g1
    go_wp2_with fail
    go_ret
    exact ⟨ret_int HT.out.symm, HB7.out⟩
end Go.Proofs.Ytemcmhpfpfmgdaa
