import Derived.Test.YtemcmhpfpfmgdaaVo
/-
  The contracts of view.Join and view.Leave. No condition but that the lists have at most a million members and the numbers are of 64 bits.
-/
namespace Go.Proofs.Ytemcmhpfpfmgdaa
open Go.ChangeShapes Go.WideShapes Go.ChangeAt Go.RowKit Go.Maps
set_option linter.unusedVariables false

/-- A view of the call's own and an error are answered. -/
def EPost (v : V) (E : Int) (t : TypeId) (w : World) (r : Ending) (w' : World) : Prop :=
  ∃ A c, r = .returned (.tuple #[.agg #[.int .i64 v.1, .slice A v.2.length c], .int .i64 E]) ∧ w'.ownsRow w.heap.size t 2 (.slice A v.2.length c) v.2.length (mc v.2) ∧ Below w.heap.size w w'
theorem ep_of {v : V} {E E' : Int} {t : TypeId} {w w' : World} {num : Int} {A : Option Addr} {n c : Nat} {l : List Mb} (hv : v = (num, l)) (hE : E = E') (hn : l.length = n) (ho : w'.ownsRow w.heap.size t 2 (.slice A n c) n (mc l)) (hb : Below w.heap.size w w') :
    EPost v E t w (.returned (.tuple #[.agg #[.int .i64 num, .slice A n c], .int .i64 E'])) w' := by
  subst hv hE hn
  exact ⟨A, c, rfl, ho, hb⟩
theorem joinG_no {g : V} {id inc : Int} (h : ¬ joinE g id inc = 0) : joinG g id inc = g := if_neg h
theorem joinG_yes {g : V} {id inc : Int} (h : joinE g id inc = 0) : joinG g id inc = (g.1 + 1, putL g.2 id inc) := if_pos h
theorem leaveG_no {g : V} {id : Int} (h : ¬ leaveE g id = 0) : leaveG g id = g := if_neg h
theorem leaveG_yes {g : V} {id : Int} (h : leaveE g id = 0) : leaveG g id = (g.1 + 1, delL g.2 id) := if_pos h
theorem lies_low {w : World} {base B s n c : Nat} {e : TypeId} {A : Option Addr} {xs : List Value} (h : w.ownsRow base e s (.slice A n c) n xs) : Lies w w.heap.size s A n xs := Lies.of_own h
theorem map_next {w w' : World} {b n : Nat} {D : DataW Unit} (h : w.ownsMap Try.prog 3 rdM b n D) (hb : Below w.heap.size w w') : w'.ownsMap Try.prog 3 rdM b n D :=
  h.kept (row := none) ⟨hb.os, hb.tape, hb.output, hb.size, fun k hk _ => hb.block k hk⟩ (by simp)
theorem Vb.grown {w W W' : World} {v0 v1 r0 r1 : Value} {t tr : TypeId} {B b : Nat} (h : Vb w v0 v1 r0 r1 t tr W) (hB : w.heap.size + 2 ≤ B) (hb : B ≤ b) (hg : W.grownBy W' (some b)) : Vb w v0 v1 r0 r1 t tr W' :=
  ⟨Nat.le_trans h.z hg.size, (hg.block _ (by have := h.z; omega) (fun e => by injection e with e; omega)).trans h.h0, (hg.block _ (by have := h.z; omega) (fun e => by injection e with e; omega)).trans h.h1, h.bl.grown hg h.bl.size (fun k e => by cases e; omega)⟩
set_option maxHeartbeats 4000000 in
set_option maxRecDepth 20000 in
theorem join_any (num : Int) (A : Option Addr) (c : Nat) (l : List Mb) (id inc : Int) (w : World) (hA : Lies w w.heap.size 2 A l.length (mc l)) (hn : l.length ≤ 1000000) (hw : (Lit.int .i64 id).wf = true) :
    Calls Try.prog 25 #[.agg #[.int .i64 num, .slice A l.length c], .int .i64 id, .int .i64 inc] w (EPost (joinG (good (num, l)) id inc) (joinE (good (num, l)) id inc) 59 w) := by
  have HA := Lib.hid hA
  have hI := Vb.init w (.int .i64 num) (.slice A l.length c) (.int .i64 0) (.slice none 0 0) 24 24
  have COWN := Lib.hid (fun (W : World) (hb : Below w.heap.size w W) => own_any num A c l W (hA.next hb) hn)
  obtain ⟨g, hg⟩ : ∃ g, g = good (num, l) := ⟨_, rfl⟩
  have HR := Lib.hid (show rightV g = true by rw [hg]; exact good_right _)
  rw [← hg] at COWN ⊢
  clear hA hg
  obtain ⟨gn, gl⟩ := g
  have HN := Lib.hid (right_num HR.out)
  have HL := Lib.hid (right_rise HR.out)
  have r0 : ((w.alloc (.cells #[.int .i64 num, .slice A l.length c] 24)).alloc (.cells #[.int .i64 0, .slice none 0 0] 24)).cell? ⟨w.heap.size, 0, none⟩ = some (.int .i64 num) := c2_0 hI.h0
  have r1 : ((w.alloc (.cells #[.int .i64 num, .slice A l.length c] 24)).alloc (.cells #[.int .i64 0, .slice none 0 0] 24)).cell? ⟨w.heap.size, 1, none⟩ = some (.slice A l.length c) := c2_1 hI.h0
  go_enter Try.func25, Try.ntmps25
  go_upto_region 1 with fail
  generalize (w.alloc (.cells #[.int .i64 num, .slice A l.length c] 24)).alloc (.cells #[.int .i64 0, .slice none 0 0] 24) = w2 at hI r0 r1 ⊢
  go_wp2_with fail
  refine (COWN.out _ hI.bl).mono ?_
  rintro e w3 ⟨A1, c1, rfl, ho3, hb3⟩
  simp only at ho3
  have hI3 := hI.next hb3
  have hz2 := hI.z
  have HI4 := Lib.hid (hI3.setV (.int .i64 gn) (.slice A1 gl.length c1))
  have HO4 := Lib.hid (own_set2 ho3 (b := w.heap.size) (by omega) (.int .i64 gn) (.slice A1 gl.length c1))
  have HZ2 := Lib.hid hz2
  clear r0 r1
  have d0 := c2_0 hI3.h0
  have d1 := c2_1 hI3.h0
  have f0 := unfrozen hI3.h0 0
  have f1 := unfrozen hI3.h0 1
  clear hI hI3 hb3 ho3 hz2
  go_upto_region 2 with fail
  generalize (w3.setCell ⟨w.heap.size, 0, none⟩ (.int .i64 gn)).setCell ⟨w.heap.size, 1, none⟩ (.slice A1 gl.length c1) = w4 at HI4 HO4 ⊢
  clear d0 d1 f0 f1
  have HB5 := Lib.hid (below_alloc w4 (.cells #[.int .i64 id, .int .i64 inc] 59))
  have HM5 := Lib.hid (World.alloc_heap_new w4 (.cells #[.int .i64 id, .int .i64 inc] 59))
  have HI5 := Lib.hid (HI4.out.next HB5.out)
  have HO5 := Lib.hid (own_next HO4.out HB5.out)
  have HSZ5 := Lib.hid (show w4.heap.size < (w4.alloc (.cells #[.int .i64 id, .int .i64 inc] 59)).heap.size by simp)
  go_upto_region 3 with fail
  generalize w4.alloc (.cells #[.int .i64 id, .int .i64 inc] 59) = w5 at HB5 HM5 HI5 HO5 HSZ5 ⊢
  have d0 := c2_0 HI5.out.h0
  have d1 := c2_1 HI5.out.h0
  go_wp2_with fail
  refine (byid_any gn A1 c1 gl _ (Lies.of_own HO5.out) HL.out (by have := HN.out; omega)).mono ?_
  rintro e w6 ⟨b, nn, D, rfl, hnn, hD, ho6, hbb, hb6⟩
  have HI6 := Lib.hid (HI5.out.next hb6)
  have HO6 := Lib.hid (own_next HO5.out hb6)
  have HM6 := Lib.hid ((hb6.block _ HSZ5.out).trans HM5.out)
  have HMP := Lib.hid ho6
  have HD := Lib.hid hD
  have HNN := Lib.hid hnn
  have HBB := Lib.hid hbb
  have HZ5 := Lib.hid HI5.out.z
  clear d0 d1 hb6 ho6 hD hnn hbb
  have d0 := c2_0 HI6.out.h0
  have d1 := c2_1 HI6.out.h0
  have m0 := c2_0 HM6.out
  have m1 := c2_1 HM6.out
  go_wp2_with (first | (at_lookup; refine wpList_look _ rfl _ _ rfl b nn D (incL gl) rfl HMP.out HD.out id rfl hw ?_) | fail)
  refine (barred_any gn A1 c1 gl id inc _ (by have := HN.out; omega)).mono ?_
  rintro e w7 ⟨rfl, hb7⟩
  have HI7 := Lib.hid (HI6.out.next hb7)
  have HO7 := Lib.hid (own_next HO6.out hb7)
  have HM7 := Lib.hid ((hb7.block _ (Array.getElem?_eq_some_iff.1 HM6.out).1).trans HM6.out)
  have HMP7 := Lib.hid (map_next HMP.out hb7)
  clear d0 d1 m0 m1 hb7
  have d0 := c2_0 HI7.out.h0
  have d1 := c2_1 HI7.out.h0
  have m0 := c2_0 HM7.out
  have m1 := c2_1 HM7.out
  have r0 := c2_0 HI7.out.h1
  have f0 := unfrozen HI7.out.h1 0
  have r1 := c2_1 HI7.out.h1
  have f1 := unfrozen HI7.out.h1 1
  by_cases hE : joinE (gn, gl) id inc = 0
  · have HE := Lib.hid hE
    have HG := Lib.hid (joinG_yes hE)
    rw [hE]
    have HJ := Lib.hid (joinE_0 hE)
    have HMB := Lib.hid (mayB_of HJ.out.1)
    have HS67 := Lib.hid HI7.out.z
    clear hE
    go_wp2_with (first | (at_mapUpdate; refine wpList_mapUpdate_own _ rfl _ _ _ 62 rfl 3 59 law3 Try.underlying62 rdM b nn D rfl HMP7.out (by have := HNN.out; have := HN.out; unfold maxLen; omega) _ _ _ rfl rfl (key_of hw) _ [] (rdM_mk (id, inc)) ?_; intro w8 hown8 hgrow8; have HMP8 := Lib.hid hown8; have HI8 := Lib.hid (HI7.out.grown HZ5.out HBB.out hgrow8); clear d0 d1 m0 m1 r0 r1 f0 f1 hown8 hgrow8; have d0 := c2_0 HI8.out.h0; have d1 := c2_1 HI8.out.h0) | fail)
    refine (next_any gn A1 gl.length c1 b (nn + 1) _ (putL gl id inc) _ ⟨HN.out.1, HN.out.2.1⟩ HMP8.out (by have := HNN.out; have := HN.out; omega) ((HD.out.put id inc (by have := HMB.out; omega)).to (fun x => incL_put gl 0 HL.out id inc x)) (put_rise gl 0 HL.out id inc HJ.out.1 (by have := HMB.out; omega)) (by rw [put_len gl 0 HL.out]; have := HN.out; split <;> omega)).mono ?_
    rintro e w9 ⟨A9, c9, rfl, ho9, hb9⟩
    simp only at ho9
    have HI9 := Lib.hid (HI8.out.next hb9)
    have HO9 := Lib.hid ho9
    have HZ8 := Lib.hid HI8.out.z
    clear d0 d1 ho9 hb9
    have r0 := c2_0 HI9.out.h1
    have f0 := unfrozen HI9.out.h1 0
    have r1 := c2_1 HI9.out.h1
    have f1 := unfrozen HI9.out.h1 1
    go_wp2_with fail
    refine bodyPost_ret (v := .tuple #[.agg #[.int .i64 (gn + 1), .slice A9 (putL gl id inc).length c9], .int .i64 0]) (by simp [results, Try.results25, go_sem, r0, r1]) rfl ?_
    exact ep_of HG.out HE.out rfl (own_low (own_set2 HO9.out (by have := HZ8.out; omega) _ _) (by have := HZ8.out; omega)) (HI9.out.setR _ _).bl
  · have HG := Lib.hid (joinG_no hE)
    have hE' : (joinE (gn, gl) id inc != 0) = true := by simpa using hE
    generalize joinE (gn, gl) id inc = E at *
    clear hE
    go_wp2_with fail
    refine bodyPost_ret (v := .tuple #[.agg #[.int .i64 gn, .slice A1 gl.length c1], .int .i64 E]) (by simp [results, Try.results25, go_sem, r0, r1]) rfl ?_
    exact ep_of HG.out rfl rfl (own_low (own_set2 HO7.out (by have := HZ2.out; omega) _ _) (by have := HZ2.out; omega)) (HI7.out.setR _ _).bl
theorem le_4 {g : V} {id : Int} (h : incL g.2 id = 0) : leaveE g id = 4 := if_pos h
theorem le_6 {g : V} {id : Int} (h : ¬ incL g.2 id = 0) (h1 : g.1 = 1099511627776) : leaveE g id = 6 := by unfold leaveE; rw [if_neg h, if_pos h1]
theorem le_0 {g : V} {id : Int} (h : ¬ incL g.2 id = 0) (h1 : ¬ g.1 = 1099511627776) : leaveE g id = 0 := by unfold leaveE; rw [if_neg h, if_neg h1]
set_option maxHeartbeats 4000000 in
set_option maxRecDepth 20000 in
theorem leave_any (num : Int) (A : Option Addr) (c : Nat) (l : List Mb) (id : Int) (w : World) (hA : Lies w w.heap.size 2 A l.length (mc l)) (hn : l.length ≤ 1000000) (hw : (Lit.int .i64 id).wf = true) :
    Calls Try.prog 26 #[.agg #[.int .i64 num, .slice A l.length c], .int .i64 id] w (EPost (leaveG (good (num, l)) id) (leaveE (good (num, l)) id) 59 w) := by
  have HA := Lib.hid hA
  have hI := Vb.init w (.int .i64 num) (.slice A l.length c) (.int .i64 0) (.slice none 0 0) 24 24
  have COWN := Lib.hid (fun (W : World) (hb : Below w.heap.size w W) => own_any num A c l W (hA.next hb) hn)
  obtain ⟨g, hg⟩ : ∃ g, g = good (num, l) := ⟨_, rfl⟩
  have HR := Lib.hid (show rightV g = true by rw [hg]; exact good_right _)
  rw [← hg] at COWN ⊢
  clear hA hg
  obtain ⟨gn, gl⟩ := g
  have HN := Lib.hid (right_num HR.out)
  have HL := Lib.hid (right_rise HR.out)
  have r0 : ((w.alloc (.cells #[.int .i64 num, .slice A l.length c] 24)).alloc (.cells #[.int .i64 0, .slice none 0 0] 24)).cell? ⟨w.heap.size, 0, none⟩ = some (.int .i64 num) := c2_0 hI.h0
  have r1 : ((w.alloc (.cells #[.int .i64 num, .slice A l.length c] 24)).alloc (.cells #[.int .i64 0, .slice none 0 0] 24)).cell? ⟨w.heap.size, 1, none⟩ = some (.slice A l.length c) := c2_1 hI.h0
  go_enter Try.func26, Try.ntmps26
  go_upto_region 1 with fail
  generalize (w.alloc (.cells #[.int .i64 num, .slice A l.length c] 24)).alloc (.cells #[.int .i64 0, .slice none 0 0] 24) = w2 at hI r0 r1 ⊢
  go_wp2_with fail
  refine (COWN.out _ hI.bl).mono ?_
  rintro e w3 ⟨A1, c1, rfl, ho3, hb3⟩
  simp only at ho3
  have hI3 := hI.next hb3
  have hz2 := hI.z
  have HI4 := Lib.hid (hI3.setV (.int .i64 gn) (.slice A1 gl.length c1))
  have HO4 := Lib.hid (own_set2 ho3 (b := w.heap.size) (by omega) (.int .i64 gn) (.slice A1 gl.length c1))
  have HZ2 := Lib.hid hz2
  clear r0 r1
  have d0 := c2_0 hI3.h0
  have d1 := c2_1 hI3.h0
  have f0 := unfrozen hI3.h0 0
  have f1 := unfrozen hI3.h0 1
  clear hI hI3 hb3 ho3 hz2
  go_upto_region 2 with fail
  generalize (w3.setCell ⟨w.heap.size, 0, none⟩ (.int .i64 gn)).setCell ⟨w.heap.size, 1, none⟩ (.slice A1 gl.length c1) = w5 at HI4 HO4 ⊢
  clear d0 d1 f0 f1
  have HI5 := HI4
  have HO5 := HO4
  have d0 := c2_0 HI5.out.h0
  have d1 := c2_1 HI5.out.h0
  go_wp2_with fail
  refine (byid_any gn A1 c1 gl _ (Lies.of_own HO5.out) HL.out (by have := HN.out; omega)).mono ?_
  rintro e w6 ⟨b, nn, D, rfl, hnn, hD, ho6, hbb, hb6⟩
  have HI6 := Lib.hid (HI5.out.next hb6)
  have HO6 := Lib.hid (own_next HO5.out hb6)
  have HMP := Lib.hid ho6
  have HD := Lib.hid hD
  have HNN := Lib.hid hnn
  have HBB := Lib.hid hbb
  have HZ5 := Lib.hid HI5.out.z
  clear d0 d1 hb6 ho6 hD hnn hbb
  have d0 := c2_0 HI6.out.h0
  have d1 := c2_1 HI6.out.h0
  have r0 := c2_0 HI6.out.h1
  have f0 := unfrozen HI6.out.h1 0
  have r1 := c2_1 HI6.out.h1
  have f1 := unfrozen HI6.out.h1 1
  by_cases h0 : incL gl id = 0
  · have HMO := Lib.hid (mo_0 h0)
    have HE := Lib.hid (le_4 (g := (gn, gl)) h0)
    have HG := Lib.hid (leaveG_no (g := (gn, gl)) (id := id) (by rw [HE.out]; decide))
    clear h0
    go_wp2_with (first | (at_lookup; refine wpList_look _ rfl _ _ rfl b nn D (incL gl) rfl HMP.out HD.out id rfl hw ?_; rw [HMO.out]) | fail)
    refine bodyPost_ret (v := .tuple #[.agg #[.int .i64 gn, .slice A1 gl.length c1], .int .i64 4]) (by simp [results, Try.results26, go_sem, r0, r1]) rfl ?_
    exact ep_of HG.out HE.out rfl (own_low (own_set2 HO6.out (by have := HZ2.out; omega) _ _) (by have := HZ2.out; omega)) (HI6.out.setR _ _).bl
  · have HMO := Lib.hid (mo_1 h0)
    have hid0 : ¬ id = 0 := by have := (incL_bd HL.out id).2.2 h0; omega
    have HH := Lib.hid h0
    clear h0
    by_cases h1 : gn = 1099511627776
    · have HE := Lib.hid (le_6 (g := (gn, gl)) HH.out h1)
      have HG := Lib.hid (leaveG_no (g := (gn, gl)) (id := id) (by rw [HE.out]; decide))
      have h1' : (gn == 1099511627776) = true := by simpa using h1
      clear h1
      go_wp2_with (first | (at_lookup; refine wpList_look _ rfl _ _ rfl b nn D (incL gl) rfl HMP.out HD.out id rfl hw ?_; rw [HMO.out]) | fail)
      refine bodyPost_ret (v := .tuple #[.agg #[.int .i64 gn, .slice A1 gl.length c1], .int .i64 6]) (by simp [results, Try.results26, go_sem, r0, r1]) rfl ?_
      exact ep_of HG.out HE.out rfl (own_low (own_set2 HO6.out (by have := HZ2.out; omega) _ _) (by have := HZ2.out; omega)) (HI6.out.setR _ _).bl
    · have HE := Lib.hid (le_0 (g := (gn, gl)) HH.out h1)
      have HG := Lib.hid (leaveG_yes (g := (gn, gl)) HE.out)
      have h1' : (gn == 1099511627776) = false := by simpa using h1
      clear h1
      go_wp2_with (first | (at_lookup; refine wpList_look _ rfl _ _ rfl b nn D (incL gl) rfl HMP.out HD.out id rfl hw ?_; rw [HMO.out]) | (at_delete; refine wpList_delete_own _ rfl _ _ 62 3 rfl 59 law3 Try.underlying62 rdM b nn D rfl HMP.out _ _ rfl (key_of hw) ?_; intro w8 hown8 hturn8; have HMP8 := Lib.hid hown8; have HI8 := Lib.hid (HI6.out.grown HZ5.out HBB.out hturn8.grown); clear d0 d1 r0 r1 f0 f1 hown8 hturn8; have d0 := c2_0 HI8.out.h0; have d1 := c2_1 HI8.out.h0) | fail)
      refine (next_any gn A1 gl.length c1 b nn _ (delL gl id) _ ⟨HN.out.1, HN.out.2.1⟩ HMP8.out (by have := HNN.out; have := HN.out; omega) ((HD.out.del id).to (fun x => incL_del gl id x)) (del_rise HL.out id) (by have := del_len gl id; have := HN.out; omega)).mono ?_
      rintro e w9 ⟨A9, c9, rfl, ho9, hb9⟩
      simp only at ho9
      have HI9 := Lib.hid (HI8.out.next hb9)
      have HO9 := Lib.hid ho9
      have HZ8 := Lib.hid HI8.out.z
      clear d0 d1 ho9 hb9
      have r0 := c2_0 HI9.out.h1
      have f0 := unfrozen HI9.out.h1 0
      have r1 := c2_1 HI9.out.h1
      have f1 := unfrozen HI9.out.h1 1
      go_wp2_with fail
      refine bodyPost_ret (v := .tuple #[.agg #[.int .i64 (gn + 1), .slice A9 (delL gl id).length c9], .int .i64 0]) (by simp [results, Try.results26, go_sem, r0, r1]) rfl ?_
      exact ep_of HG.out HE.out rfl (own_low (own_set2 HO9.out (by have := HZ8.out; omega) _ _) (by have := HZ8.out; omega)) (HI9.out.setR _ _).bl
end Go.Proofs.Ytemcmhpfpfmgdaa
