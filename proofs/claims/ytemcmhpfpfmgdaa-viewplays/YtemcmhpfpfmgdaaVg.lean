import Derived.Test.YtemcmhpfpfmgdaaVf
/-
  The contracts of the document's own Leave and Fenced. No condition but that the lists have at most a million members.
-/
namespace Go.Proofs.Ytemcmhpfpfmgdaa
open Go.ChangeShapes Go.WideShapes Go.ChangeAt Go.RowKit Go.Maps
set_option linter.unusedVariables false

def LvRel (gn : Int) (gl : List Mb) (id : Int) (w5 : World) (B : Nat) (i : Value) (W : World) : Prop := ∃ (k : Nat) (D : Option Addr) (d : Nat), i = .int .i64 (k : Int) ∧ k ≤ gl.length ∧ Hid (W.heap[w5.heap.size]? = some (.cells #[.int .i64 (gn + 1), .slice D (delL (gl.take k) id).length d] 30 (0, 0))) ∧ Hid (W.ownsRow B 60 2 (.slice D (delL (gl.take k) id).length d) (delL (gl.take k) id).length (mc (delL (gl.take k) id))) ∧ Hid (Below w5.heap.size w5 W)
theorem del_yes {l : List Mb} {k : Nat} {id : Int} (h : k < l.length) (h2 : ¬ (mAt l k).1 = id) : delL (l.take (k + 1)) id = delL (l.take k) id ++ [mAt l k] := by
  rw [mtake_at l k h]; unfold delL; rw [List.filter_append]; congr 1; simp [h2]
theorem del_no {l : List Mb} {k : Nat} {id : Int} (h : k < l.length) (h2 : (mAt l k).1 = id) : delL (l.take (k + 1)) id = delL (l.take k) id := by
  rw [mtake_at l k h]; unfold delL; rw [List.filter_append]; simp [h2]
set_option maxHeartbeats 4000000 in
set_option maxRecDepth 20000 in
theorem rleave_any (num : Int) (A : Option Addr) (c : Nat) (l : List Mb) (id : Int) (w : World) (hA : Lies w w.heap.size 2 A l.length (mc l)) (hn : l.length ≤ 1000000) :
    Calls Try.prog 16 #[.agg #[.int .i64 num, .slice A l.length c], .int .i64 id] w (RPost (leaveG (good (num, l)) id) (leaveE (good (num, l)) id) w) := by
  obtain ⟨iv, hiv, hzv, hzsv, hzbv⟩ := info_parts info60
  have IV := Lib.hid hiv
  have ZV := Lib.hid hzv
  have SV := Lib.hid hzsv
  have BV := Lib.hid hzbv
  clear hiv hzv hzsv hzbv
  have hI := Vb.init w (.int .i64 num) (.slice A l.length c) (.int .i64 0) (.slice none 0 0) 30 30
  have CG := Lib.hid (fun (W : World) (hb : Below w.heap.size w W) => good_any num A c l w.heap.size W hb.size (hA.below hb) hn)
  obtain ⟨g, hg⟩ : ∃ g, g = good (num, l) := ⟨_, rfl⟩
  have HR := Lib.hid (show rightV g = true by rw [hg]; exact good_right _)
  rw [← hg] at CG ⊢
  clear hA hg
  obtain ⟨gn, gl⟩ := g
  have HN := Lib.hid (right_num HR.out)
  have HL := Lib.hid (right_rise HR.out)
  have r0 : ((w.alloc (.cells #[.int .i64 num, .slice A l.length c] 30)).alloc (.cells #[.int .i64 0, .slice none 0 0] 30)).cell? ⟨w.heap.size, 0, none⟩ = some (.int .i64 num) := c2_0 hI.h0
  have r1 : ((w.alloc (.cells #[.int .i64 num, .slice A l.length c] 30)).alloc (.cells #[.int .i64 0, .slice none 0 0] 30)).cell? ⟨w.heap.size, 1, none⟩ = some (.slice A l.length c) := c2_1 hI.h0
  go_enter Try.func16, Try.ntmps16
  go_upto_region 1 with fail
  generalize (w.alloc (.cells #[.int .i64 num, .slice A l.length c] 30)).alloc (.cells #[.int .i64 0, .slice none 0 0] 30) = w2 at hI r0 r1 ⊢
  go_wp2_with fail
  refine (CG.out _ hI.bl).mono ?_
  rintro e w3 ⟨A1, c1, rfl, ho3, hb3⟩
  simp only at ho3
  have hI3 := hI.next hb3
  have HZ2 := Lib.hid hI.z
  have HI4 := Lib.hid (hI3.setV (.int .i64 gn) (.slice A1 gl.length c1))
  have HL4 := Lib.hid (lies_set2 (ho3.keep (fun p hp => hb3.cell (by have := HZ2.out; omega))) (Nat.le_refl _) (.int .i64 gn) (.slice A1 gl.length c1))
  clear r0 r1
  have d0 := c2_0 hI3.h0
  have d1 := c2_1 hI3.h0
  have f0 := unfrozen hI3.h0 0
  have f1 := unfrozen hI3.h0 1
  clear hI hI3 hb3 ho3
  go_upto_region 2 with fail
  generalize (w3.setCell ⟨w.heap.size, 0, none⟩ (.int .i64 gn)).setCell ⟨w.heap.size, 1, none⟩ (.slice A1 gl.length c1) = w4 at HI4 HL4 ⊢
  clear d0 d1 f0 f1
  have d0 := c2_0 HI4.out.h0
  have d1 := c2_1 HI4.out.h0
  have r0 := c2_0 HI4.out.h1
  have f0 := unfrozen HI4.out.h1 0
  have r1 := c2_1 HI4.out.h1
  have f1 := unfrozen HI4.out.h1 1
  go_wp2_with fail
  refine (rinc_g HR.out A1 c1 id _ (HL4.out.more HI4.out.bl.size)).mono ?_
  rintro e w5 ⟨rfl, hb5⟩
  have HI5 := Lib.hid (HI4.out.next hb5)
  have HL5 := Lib.hid (HL4.out.below (hb5.mono HI4.out.bl.size))
  clear d0 d1 r0 r1 f0 f1 hb5
  have d0 := c2_0 HI5.out.h0
  have d1 := c2_1 HI5.out.h0
  have r0 := c2_0 HI5.out.h1
  have f0 := unfrozen HI5.out.h1 0
  have r1 := c2_1 HI5.out.h1
  have f1 := unfrozen HI5.out.h1 1
  obtain ⟨z, hz⟩ : ∃ z, z = incL gl id := ⟨_, rfl⟩
  have HZ := Lib.hid hz
  rw [← hz]
  clear hz
  by_cases h2 : z = 0
  · have HE := Lib.hid (le_4 (g := (gn, gl)) (id := id) (HZ.out.symm.trans h2))
    have HG := Lib.hid (leaveG_no (g := (gn, gl)) (id := id) (by rw [HE.out]; decide))
    have h2' : (z == 0) = true := by simpa using h2
    clear h2
    go_wp2_with fail
    refine bodyPost_ret (v := .tuple #[.agg #[.int .i64 gn, .slice A1 gl.length c1], .int .i64 4]) (by simp [results, Try.results16, go_sem, r0, r1]) rfl ?_
    exact rp_of HG.out HE.out rfl (lies_out HL5.out HI5.out _ _) (HI5.out.setR _ _).bl
  · have H2 := Lib.hid (show ¬ incL gl id = 0 by rw [← HZ.out]; exact h2)
    have h2' : (z == 0) = false := by simpa using h2
    clear h2
    by_cases h1 : gn = 1099511627776
    · have HE := Lib.hid (le_6 (g := (gn, gl)) (id := id) H2.out h1)
      have HG := Lib.hid (leaveG_no (g := (gn, gl)) (id := id) (by rw [HE.out]; decide))
      have h1' : (gn == 1099511627776) = true := by simpa using h1
      clear h1
      go_wp2_with fail
      refine bodyPost_ret (v := .tuple #[.agg #[.int .i64 gn, .slice A1 gl.length c1], .int .i64 6]) (by simp [results, Try.results16, go_sem, r0, r1]) rfl ?_
      exact rp_of HG.out HE.out rfl (lies_out HL5.out HI5.out _ _) (HI5.out.setR _ _).bl
    · have HE := Lib.hid (le_0 (g := (gn, gl)) (id := id) H2.out h1)
      have HG := Lib.hid (leaveG_yes (g := (gn, gl)) (id := id) HE.out)
      have h1' : (gn == 1099511627776) = false := by simpa using h1
      clear h1
      have HWR : IntKind.i64.wrap (gn + 1) = gn + 1 := by have := HN.out; simp [IntKind.wrap, IntKind.bits, IntKind.signed]; omega
      have HB6 := Lib.hid (below_alloc w5 (.cells #[.int .i64 (gn + 1), .slice none 0 0] 30))
      have H6 := Lib.hid (World.alloc_heap_new w5 (.cells #[.int .i64 (gn + 1), .slice none 0 0] 30))
      have HS6 := Lib.hid (show (w5.alloc (.cells #[.int .i64 (gn + 1), .slice none 0 0] 30)).heap.size = w5.heap.size + 1 by simp)
      go_upto_region 7 with fail
      generalize w5.alloc (.cells #[.int .i64 (gn + 1), .slice none 0 0] 30) = w6 at HB6 H6 HS6 ⊢
      clear d0 d1 r0 r1 f0 f1 HWR
      go_wp2_with fail
      go_loopw [7] (fun i W => LvRel gn gl id w5 w6.heap.size i W) (fun i W => gl.length - (intOf i).toNat)
      case atStart => exact ⟨0, none, 0, rfl, Nat.zero_le _, H6, Lib.hid (World.ownsRow_nil _ _ _ _), HB6⟩
      case round =>
        obtain ⟨k, D, d, rfl, hk, H9, HO, HW⟩ := hrel
        have HIw := Lib.hid (HI5.out.next HW.out)
        have d0 := c2_0 HIw.out.h0
        have d1 := c2_1 HIw.out.h0
        have HZW := Lib.hid (show w6.heap.size ≤ wr.heap.size by rw [HS6.out]; have := (Array.getElem?_eq_some_iff.1 H9.out).1; omega)
        by_cases hlt : k < gl.length
        · obtain ⟨ad, rfl, hadb, e0, e1⟩ := (HL5.out.below (HW.out.mono HI5.out.bl.size)).mb k hlt
          have hkl : (k : Int) < (gl.length : Int) := by omega
          have hk5 : k < 5 := by have := HN.out; omega
          have HXY := Lib.hid (fun h2 => del_yes (id := id) hlt h2)
          have HXN := Lib.hid (fun h2 => del_no (id := id) hlt h2)
          have HLX := Lib.hid (show (delL (gl.take k) id).length ≤ 5 by have := del_len (gl.take k) id; rw [List.length_take] at this; omega)
          obtain ⟨m, hm⟩ : ∃ m, m = mAt gl k := ⟨_, rfl⟩
          rw [← hm] at HXY HXN e0 e1
          clear hm
          obtain ⟨mi, mn⟩ := m
          simp only at e0 e1
          by_cases g1 : mi = id
          · have HX := Lib.hid (HXN.out g1)
            have g1' : (mi != id) = false := by simpa using g1
            clear g1
            go_wp2_with fail
            go_roundw
            case rel => exact ⟨k + 1, D, d, by go_num, by omega, by rw [HX.out]; exact H9, by rw [HX.out]; exact HO, HW⟩
            case measure => simp [intOf]; omega
          · have HX := Lib.hid (HXY.out g1)
            have g1' : (mi != id) = true := by simpa using g1
            clear g1
            generalize delL (gl.take k) id = X at *
            have HO8 := Lib.hid (own_next (own_next HO.out (below_alloc wr (.cells #[.int .i64 mi, .int .i64 mn] 60))) (Below.refl _ (wr.alloc (.cells #[.int .i64 mi, .int .i64 mn] 60))).drew)
            have HL8 := Lib.hid (show Lies (wr.alloc (.cells #[.int .i64 mi, .int .i64 mn] 60)).drew (wr.heap.size + 1) 2 (some ⟨wr.heap.size, 0, none⟩) 1 (mc [(mi, mn)]) from lies_cells wr (mc [(mi, mn)]) 60 1 2 rfl)
            have HW8 := Lib.hid (show Below w5.heap.size w5 (wr.alloc (.cells #[.int .i64 mi, .int .i64 mn] 60)).drew from (HW.out.trans ((below_alloc wr (.cells #[.int .i64 mi, .int .i64 mn] 60)).mono HW.out.size)).drew)
            have H98 := Lib.hid (show (wr.alloc (.cells #[.int .i64 mi, .int .i64 mn] 60)).drew.heap[w5.heap.size]? = some (.cells #[.int .i64 (gn + 1), .slice D X.length d] 30 (0, 0)) from (Below.heap_alloc wr (.cells #[.int .i64 mi, .int .i64 mn] 60) w5.heap.size (Array.getElem?_eq_some_iff.1 H9.out).1).trans H9.out)
            have HZ8 := Lib.hid (show w6.heap.size ≤ (wr.alloc (.cells #[.int .i64 mi, .int .i64 mn] 60)).drew.heap.size by have h1 := HZW.out; show _ ≤ (wr.alloc (.cells #[.int .i64 mi, .int .i64 mn] 60)).heap.size; simp; omega)
            have o0 := c2_1 H9.out
            have o9 : (wr.alloc (.cells #[.int .i64 mi, .int .i64 mn] 60)).cell? ⟨w5.heap.size, 1, none⟩ = some (.slice D X.length d) := c2_1 H98.out
            go_upto_region 11 with fail
            go_region_law (refine step_own2 rfl _ _ 28 rfl w6.heap.size 60 iv _ 2 16 Try.underlying28 IV.out ZV.out SV.out BV.out rfl (by decide) D X.length d (mc X) (by simp [Act.eval]) HO8.out (wr.heap.size + 1) (some ⟨wr.heap.size, 0, none⟩) 1 1 (mc [(mi, mn)]) (by simp [Act.eval]) HL8.out (mc_one _) (X.length + 1) rfl (by have := HLX.out; unfold maxLen; omega) (by have := HLX.out; omega) HZ8.out ?_; intro A9 c9 w9 ho9 hb9; have H99 := Lib.hid ((hb9.block w5.heap.size (by rw [HS6.out]; omega)).trans H98.out); have HW9 := Lib.hid (show Below w5.heap.size w5 w9 from HW8.out.trans (hb9.mono (by rw [HS6.out]; omega))); have HO9 := Lib.hid ho9; have o1 := c2_1 H99.out; have o2 := unfrozen H99.out 1; clear ho9 hb9)
            all_goals
              have HS9 := Lib.hid (set1_at H99.out (.slice A9 (X.length + 1) c9))
              have HOS := Lib.hid (own_setLow HO9.out (b := w5.heap.size) (o := 1) (by rw [HS6.out]; omega) (u := .slice A9 (X.length + 1) c9))
              have HWS := Lib.hid (HW9.out.setCell (p := ⟨w5.heap.size, 1, none⟩) (Nat.le_refl _) (.slice A9 (X.length + 1) c9))
              clear o0 o9 o1 o2 d0 d1 e0 e1
              go_wp2_with fail
              go_roundw
              case rel => exact ⟨k + 1, A9, c9, by go_num, by omega, by rw [HX.out, List.length_append]; exact HS9, by rw [HX.out, List.length_append, mc_append]; exact HOS, HWS⟩
              case measure => simp [intOf]; omega
        · have hk' : k = gl.length := by omega
          subst hk'
          have HT := Lib.hid (show gl.take gl.length = gl from List.take_length)
          rw [HT.out] at H9 HO
          have o0 := c2_0 H9.out
          have o1 := c2_1 H9.out
          have r0 := c2_0 HIw.out.h1
          have f0 := unfrozen HIw.out.h1 0
          have r1 := c2_1 HIw.out.h1
          have f1 := unfrozen HIw.out.h1 1
          go_wp2_with fail
          refine bodyPost_ret (v := .tuple #[.agg #[.int .i64 (gn + 1), .slice D (delL gl id).length d], .int .i64 0]) (by simp [results, Try.results16, go_sem, r0, r1]) rfl ?_
          exact rp_of HG.out HE.out rfl (Lies.of_own (own_set2 HO.out (by rw [HS6.out]; have := HI5.out.z; omega) _ _)) (HIw.out.setR _ _).bl
end Go.Proofs.Ytemcmhpfpfmgdaa
