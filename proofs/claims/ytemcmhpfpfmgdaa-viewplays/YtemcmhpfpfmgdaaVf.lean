import Derived.Test.YtemcmhpfpfmgdaaVd
/-
  The contracts of the document's own Join, Leave and Fenced. No condition but that the lists have at most a million members.
-/
namespace Go.Proofs.Ytemcmhpfpfmgdaa
open Go.ChangeShapes Go.WideShapes Go.ChangeAt Go.RowKit Go.Maps
set_option linter.unusedVariables false

/-- A view, of whatever memory, and an error are answered. -/
def RPost (v : V) (E : Int) (w : World) (r : Ending) (w' : World) : Prop :=
  ∃ A c, r = .returned (.tuple #[.agg #[.int .i64 v.1, .slice A v.2.length c], .int .i64 E]) ∧ Lies w' w'.heap.size 2 A v.2.length (mc v.2) ∧ Below w.heap.size w w'
theorem rp_of {v : V} {E E' : Int} {w w' : World} {num : Int} {A : Option Addr} {n c : Nat} {l : List Mb} (hv : v = (num, l)) (hE : E = E') (hn : l.length = n) (ho : Lies w' w'.heap.size 2 A n (mc l)) (hb : Below w.heap.size w w') :
    RPost v E w (.returned (.tuple #[.agg #[.int .i64 num, .slice A n c], .int .i64 E'])) w' := by
  subst hv hE hn
  exact ⟨A, c, rfl, ho, hb⟩
theorem lies_out {w W : World} {s n : Nat} {A : Option Addr} {xs : List Value} {v0 v1 r0 r1 : Value} {t tr : TypeId} (h : Lies W w.heap.size s A n xs) (hv : Vb w v0 v1 r0 r1 t tr W) (u v : Value) :
    Lies ((W.setCell ⟨w.heap.size + 1, 0, none⟩ u).setCell ⟨w.heap.size + 1, 1, none⟩ v) ((W.setCell ⟨w.heap.size + 1, 0, none⟩ u).setCell ⟨w.heap.size + 1, 1, none⟩ v).heap.size s A n xs :=
  (lies_set2 h (Nat.le_succ _) u v).more (by have := hv.z; simp [World.setCell]; omega)
theorem Vb.keep {w W W' : World} {v0 v1 r0 r1 : Value} {t tr : TypeId} {B : Nat} (h : Vb w v0 v1 r0 r1 t tr W) (hB : w.heap.size + 2 ≤ B) (hs : W.heap.size ≤ W'.heap.size) (hb : Below B W W') : Vb w v0 v1 r0 r1 t tr W' :=
  ⟨Nat.le_trans h.z hs, (hb.block _ (by omega)).trans h.h0, (hb.block _ (by omega)).trans h.h1, h.bl.trans (hb.mono (by omega))⟩
theorem set1_at {W : World} {b : Nat} {x y : Value} {t : TypeId} (h : W.heap[b]? = some (.cells #[x, y] t (0, 0))) (v : Value) : (W.setCell ⟨b, 1, none⟩ v).heap[b]? = some (.cells #[x, v] t (0, 0)) := by
  obtain ⟨hlt, hk⟩ := Array.getElem?_eq_some_iff.1 h
  simp [World.setCell, Array.getElem?_modify, h]
theorem info60 : (Try.prog.info? 60).map (fun i => (i.zero, i.size, i.bytes)) = some (some (.agg #[.int .i64 0, .int .i64 0]), 2, 16) := by kernel_rfl
theorem rinc_g {gn : Int} {gl : List Mb} (hr : rightV (gn, gl) = true) (A : Option Addr) (c : Nat) (id : Int) (W : World) (hA : Lies W W.heap.size 2 A gl.length (mc gl)) :
    Calls Try.prog 19 #[.agg #[.int .i64 gn, .slice A gl.length c], .int .i64 id] W fun e w' => e = .returned (.int .i64 (incL gl id)) ∧ Below W.heap.size W w' := by
  have h := rinc_any gn A c gl id W hA (by have := right_num hr; simp only at this; omega)
  rw [good_eq hr] at h
  exact h
def JoRel (gn : Int) (f : Int → Int) (w5 : World) (B : Nat) (i : Value) (W : World) : Prop := ∃ (k : Nat) (D : Option Addr) (d : Nat), i = .int .i64 ((k : Int) + 1) ∧ k ≤ 99 ∧ Hid (W.heap[w5.heap.size]? = some (.cells #[.int .i64 (gn + 1), .slice D (allF f k).length d] 30 (0, 0))) ∧ Hid (W.ownsRow B 60 2 (.slice D (allF f k).length d) (allF f k).length (mc (allF f k))) ∧ Hid (Below w5.heap.size w5 W)
theorem allF_yes {f : Int → Int} {k : Nat} {x : Int} (h : f ((k : Int) + 1) = x) (h0 : 0 < x) : allF f (k + 1) = allF f k ++ [((k : Int) + 1, x)] := by rw [allF_succ, h, if_pos h0]
theorem allF_no {f : Int → Int} {k : Nat} (h : ¬ 0 < f ((k : Int) + 1)) : allF f (k + 1) = allF f k := by rw [allF_succ, if_neg h, List.append_nil]
set_option maxHeartbeats 4000000 in
set_option maxRecDepth 20000 in
theorem rjoin_any (num : Int) (A : Option Addr) (c : Nat) (l : List Mb) (id inc : Int) (w : World) (hA : Lies w w.heap.size 2 A l.length (mc l)) (hn : l.length ≤ 1000000) :
    Calls Try.prog 15 #[.agg #[.int .i64 num, .slice A l.length c], .int .i64 id, .int .i64 inc] w (RPost (joinG (good (num, l)) id inc) (joinE (good (num, l)) id inc) w) := by
  obtain ⟨iv, hiv, hzv, hzsv, hzbv⟩ := info_parts info60
  have IV := Lib.hid hiv
  have ZV := Lib.hid hzv
  have SV := Lib.hid hzsv
  have BV := Lib.hid hzbv
  clear hiv hzv hzsv hzbv
  have hI := Vb.init w (.int .i64 num) (.slice A l.length c) (.int .i64 0) (.slice none 0 0) 30 30
  have CG := Lib.hid (fun (W : World) (hb : Below w.heap.size w W) => good_any num A c l w.heap.size W hb.size (hA.below hb) hn)
  obtain ⟨g, hg⟩ : ∃ g, g = good (num, l) := ⟨_, rfl⟩
  have HR := Lib.hid (show rightV g = true by rw [hg]; exact good_right _)
  rw [← hg] at CG ⊢
  clear hA hg
  obtain ⟨gn, gl⟩ := g
  have HN := Lib.hid (right_num HR.out)
  have HL := Lib.hid (right_rise HR.out)
  have r0 : ((w.alloc (.cells #[.int .i64 num, .slice A l.length c] 30)).alloc (.cells #[.int .i64 0, .slice none 0 0] 30)).cell? ⟨w.heap.size, 0, none⟩ = some (.int .i64 num) := c2_0 hI.h0
  have r1 : ((w.alloc (.cells #[.int .i64 num, .slice A l.length c] 30)).alloc (.cells #[.int .i64 0, .slice none 0 0] 30)).cell? ⟨w.heap.size, 1, none⟩ = some (.slice A l.length c) := c2_1 hI.h0
  go_enter Try.func15, Try.ntmps15
  go_upto_region 1 with fail
  generalize (w.alloc (.cells #[.int .i64 num, .slice A l.length c] 30)).alloc (.cells #[.int .i64 0, .slice none 0 0] 30) = w2 at hI r0 r1 ⊢
  go_wp2_with fail
  refine (CG.out _ hI.bl).mono ?_
  rintro e w3 ⟨A1, c1, rfl, ho3, hb3⟩
  simp only at ho3
  have hI3 := hI.next hb3
  have HZ2 := Lib.hid hI.z
  have HI4 := Lib.hid (hI3.setV (.int .i64 gn) (.slice A1 gl.length c1))
  have HL4 := Lib.hid (lies_set2 (ho3.keep (fun p hp => hb3.cell (by have := HZ2.out; omega))) (Nat.le_refl _) (.int .i64 gn) (.slice A1 gl.length c1))
  clear r0 r1
  have d0 := c2_0 hI3.h0
  have d1 := c2_1 hI3.h0
  have f0 := unfrozen hI3.h0 0
  have f1 := unfrozen hI3.h0 1
  clear hI hI3 hb3 ho3
  go_upto_region 2 with fail
  generalize (w3.setCell ⟨w.heap.size, 0, none⟩ (.int .i64 gn)).setCell ⟨w.heap.size, 1, none⟩ (.slice A1 gl.length c1) = w4 at HI4 HL4 ⊢
  clear d0 d1 f0 f1
  have d0 := c2_0 HI4.out.h0
  have d1 := c2_1 HI4.out.h0
  have r0 := c2_0 HI4.out.h1
  have f0 := unfrozen HI4.out.h1 0
  have r1 := c2_1 HI4.out.h1
  have f1 := unfrozen HI4.out.h1 1
  by_cases a1 : 1 ≤ id
  · by_cases a2 : id ≤ 99
    · by_cases a3 : 1 ≤ inc
      · by_cases a4 : inc ≤ 1099511627776
        · have HMB := Lib.hid (mayB_yes ⟨a1, a2, a3, a4⟩)
          have b1 : ¬ id < 1 := by omega
          have b2 : ¬ 99 < id := by omega
          have b3 : ¬ inc < 1 := by omega
          have b4 : ¬ 1099511627776 < inc := by omega
          by_cases h1 : gn = 1099511627776
          · have HE := Lib.hid (je_6 (g := (gn, gl)) HMB.out h1)
            have HG := Lib.hid (joinG_no (g := (gn, gl)) (id := id) (inc := inc) (by rw [HE.out]; decide))
            have h1' : (gn == 1099511627776) = true := by simpa using h1
            clear h1
            go_wp2_with fail
            refine bodyPost_ret (v := .tuple #[.agg #[.int .i64 gn, .slice A1 gl.length c1], .int .i64 6]) (by simp [results, Try.results15, go_sem, r0, r1]) rfl ?_
            exact rp_of HG.out HE.out rfl (lies_out HL4.out HI4.out _ _) (HI4.out.setR _ _).bl
          · have H1 := Lib.hid h1
            have h1' : (gn == 1099511627776) = false := by simpa using h1
            clear h1
            go_wp2_with fail
            refine (rinc_g HR.out A1 c1 id _ (HL4.out.more HI4.out.bl.size)).mono ?_
            rintro e w5 ⟨rfl, hb5⟩
            have HI5 := Lib.hid (HI4.out.next hb5)
            have HL5 := Lib.hid (HL4.out.below (hb5.mono HI4.out.bl.size))
            clear d0 d1 r0 r1 f0 f1 hb5
            have d0 := c2_0 HI5.out.h0
            have d1 := c2_1 HI5.out.h0
            have r0 := c2_0 HI5.out.h1
            have f0 := unfrozen HI5.out.h1 0
            have r1 := c2_1 HI5.out.h1
            have f1 := unfrozen HI5.out.h1 1
            obtain ⟨z, hz⟩ : ∃ z, z = incL gl id := ⟨_, rfl⟩
            have HZ := Lib.hid hz
            rw [← hz]
            clear hz
            by_cases h2 : z = inc
            · have HE := Lib.hid (je_5 (g := (gn, gl)) HMB.out H1.out (HZ.out.symm.trans h2))
              have HG := Lib.hid (joinG_no (g := (gn, gl)) (id := id) (inc := inc) (by rw [HE.out]; decide))
              have h2' : (z == inc) = true := by simpa using h2
              clear h2
              go_wp2_with fail
              refine bodyPost_ret (v := .tuple #[.agg #[.int .i64 gn, .slice A1 gl.length c1], .int .i64 5]) (by simp [results, Try.results15, go_sem, r0, r1]) rfl ?_
              exact rp_of HG.out HE.out rfl (lies_out HL5.out HI5.out _ _) (HI5.out.setR _ _).bl
            · have H2 := Lib.hid (show ¬ incL gl id = inc by rw [← HZ.out]; exact h2)
              have h2' : (z == inc) = false := by simpa using h2
              clear h2
              by_cases h3 : inc < z
              · have HE := Lib.hid (je_9 (g := (gn, gl)) HMB.out H1.out H2.out (by rw [← HZ.out]; exact h3))
                have HG := Lib.hid (joinG_no (g := (gn, gl)) (id := id) (inc := inc) (by rw [HE.out]; decide))
                go_wp2_with fail
                refine bodyPost_ret (v := .tuple #[.agg #[.int .i64 gn, .slice A1 gl.length c1], .int .i64 9]) (by simp [results, Try.results15, go_sem, r0, r1]) rfl ?_
                exact rp_of HG.out HE.out rfl (lies_out HL5.out HI5.out _ _) (HI5.out.setR _ _).bl
              · have H3 := Lib.hid (show ¬ inc < incL gl id by rw [← HZ.out]; exact h3)
                by_cases h4 : z = 0 ∧ gl.length = 5
                · have HE := Lib.hid (je_3 (g := (gn, gl)) HMB.out H1.out H2.out H3.out (by rw [← HZ.out]; exact h4))
                  have HG := Lib.hid (joinG_no (g := (gn, gl)) (id := id) (inc := inc) (by rw [HE.out]; decide))
                  have h4' : (z == 0) = true := by simpa using h4.1
                  have h5' : (5 : Int) ≤ (gl.length : Int) := by omega
                  clear h4
                  go_wp2_with fail
                  refine bodyPost_ret (v := .tuple #[.agg #[.int .i64 gn, .slice A1 gl.length c1], .int .i64 3]) (by simp [results, Try.results15, go_sem, r0, r1]) rfl ?_
                  exact rp_of HG.out HE.out rfl (lies_out HL5.out HI5.out _ _) (HI5.out.setR _ _).bl
                · have HE := Lib.hid (je_0 (g := (gn, gl)) HMB.out H1.out H2.out H3.out (by rw [← HZ.out]; exact h4))
                  have HG := Lib.hid (joinG_yes (g := (gn, gl)) (id := id) (inc := inc) HE.out)
                  have h6 : (z == 0) = false ∨ ((z == 0) = true ∧ ¬ (5 : Int) ≤ (gl.length : Int)) := by
                    have := HN.out
                    by_cases hz0 : z = 0
                    · exact .inr ⟨by simpa using hz0, by omega⟩
                    · exact .inl (by simpa using hz0)
                  clear h4
                  have HFP := Lib.hid (allF_put HL.out HMB.out)
                  have HWR : IntKind.i64.wrap (gn + 1) = gn + 1 := by have := HN.out; simp [IntKind.wrap, IntKind.bits, IntKind.signed]; omega
                  have HIP := Lib.hid a3
                  obtain ⟨f, hf⟩ : ∃ f : Int → Int, f = fun x => if x = id then inc else incL gl x := ⟨_, rfl⟩
                  have HFF := Lib.hid (show ∀ x, f x = if x = id then inc else incL gl x from fun x => by rw [hf])
                  rw [← hf] at HFP
                  clear hf a1 a2 a3 a4
                  rcases h6 with h6 | ⟨h6, h7⟩
                  all_goals
                    have HB6 := Lib.hid (below_alloc w5 (.cells #[.int .i64 (gn + 1), .slice none 0 0] 30))
                    have H6 := Lib.hid (World.alloc_heap_new w5 (.cells #[.int .i64 (gn + 1), .slice none 0 0] 30))
                    have HS6 := Lib.hid (show (w5.alloc (.cells #[.int .i64 (gn + 1), .slice none 0 0] 30)).heap.size = w5.heap.size + 1 by simp)
                    go_upto_region 14 with fail
                    generalize w5.alloc (.cells #[.int .i64 (gn + 1), .slice none 0 0] 30) = w6 at HB6 H6 HS6 ⊢
                    clear d0 d1 r0 r1 f0 f1
                    go_wp2_with fail
                    go_loopw [10, 11] (fun i _ W => JoRel gn f w5 w6.heap.size i W) (fun i _ W => 100 - (intOf i).toNat)
                    case atStart => exact ⟨0, none, 0, rfl, Nat.zero_le _, H6, Lib.hid (World.ownsRow_nil _ _ _ _), HB6⟩
                    case round =>
                      obtain ⟨k, D, d, rfl, hk, H9, HO, HW⟩ := hrel
                      have HIw := Lib.hid (HI5.out.next HW.out)
                      have d0 := c2_0 HIw.out.h0
                      have d1 := c2_1 HIw.out.h0
                      have HZW := Lib.hid (show w6.heap.size ≤ wr.heap.size by rw [HS6.out]; have := (Array.getElem?_eq_some_iff.1 H9.out).1; omega)
                      by_cases hlt : k < 99
                      · have hkl : (k : Int) + 1 ≤ 99 := by omega
                        have hk0 : (0 : Int) ≤ k := by omega
                        go_wp2_with fail
                        refine (rinc_g HR.out A1 c1 ((k : Int) + 1) _ ((HL5.out.below (HW.out.mono HI5.out.bl.size)).more (by have := HIw.out.z; omega))).mono ?_
                        rintro e w7 ⟨rfl, hb7⟩
                        have H97 := Lib.hid ((hb7.block w5.heap.size (Array.getElem?_eq_some_iff.1 H9.out).1).trans H9.out)
                        have HO7 := Lib.hid (own_next HO.out hb7)
                        have HW7 := Lib.hid (HW.out.trans (hb7.mono HW.out.size))
                        have HZ7 := Lib.hid (Nat.le_trans HZW.out hb7.size)
                        have HFK := Lib.hid (HFF.out ((k : Int) + 1))
                        clear d0 d1 hb7
                        by_cases e1 : (k : Int) + 1 = id
                        · have HX := Lib.hid (allF_yes (f := f) (k := k) (x := inc) (by rw [HFK.out, if_pos e1]) (by have := HIP.out; omega))
                          have e1' : ((k : Int) + 1 == id) = true := by simpa using e1
                          have e2 : 0 < inc := by have := HIP.out; omega
                          clear e1
                          have HLX := Lib.hid (allF_len f k)
                          generalize allF f k = X at *
                          have HO8 := Lib.hid (own_next HO7.out (below_alloc w7 (.cells #[.int .i64 ((k : Int) + 1), .int .i64 inc] 60)))
                          have HL8 := Lib.hid (lies_cells w7 (mc [((k : Int) + 1, inc)]) 60 1 2 rfl)
                          have HW8 := Lib.hid (HW7.out.trans ((below_alloc w7 (.cells #[.int .i64 ((k : Int) + 1), .int .i64 inc] 60)).mono HW7.out.size))
                          have H98 := Lib.hid ((Below.heap_alloc w7 (.cells #[.int .i64 ((k : Int) + 1), .int .i64 inc] 60) w5.heap.size (Array.getElem?_eq_some_iff.1 H97.out).1).trans H97.out)
                          have HZ8 := Lib.hid (show w6.heap.size ≤ (w7.alloc (.cells #[.int .i64 ((k : Int) + 1), .int .i64 inc] 60)).heap.size by have h1 := HZ7.out; simp; omega)
                          have o1 := c2_1 H97.out
                          have o2 := c2_1 H98.out
                          go_wp2_with (at_builtin; go_must (refine wpList_app2 _ rfl (.tmp 71) (.tmp 75) 28 rfl w6.heap.size 60 iv _ 2 16 Try.underlying28 IV.out ZV.out SV.out BV.out rfl (by decide) D X.length d (mc X) rfl HO8.out (w7.heap.size + 1) (some ⟨w7.heap.size, 0, none⟩) 1 1 (mc [((k : Int) + 1, inc)]) rfl HL8.out (mc_one _) (X.length + 1) (mc X ++ mc [((k : Int) + 1, inc)]) rfl rfl (by have := HLX.out; unfold maxLen; omega) (by have := HLX.out; omega) HZ8.out ?_))
                          intro A9 c9 w9 ho9 hb9 hg9
                          have H99 := Lib.hid ((hb9.block w5.heap.size (by rw [HS6.out]; omega)).trans H98.out)
                          have HW9 := Lib.hid (HW8.out.trans (hb9.mono (by rw [HS6.out]; omega) |> fun h => (h : Below w5.heap.size _ _)))
                          have HO9 := Lib.hid ho9
                          clear ho9 hb9 hg9 o1 o2
                          have o1 := c2_1 H99.out
                          have o2 := unfrozen H99.out 1
                          have HS9 := Lib.hid (set1_at H99.out (.slice A9 (X.length + 1) c9))
                          have HOS := Lib.hid (own_setLow HO9.out (b := w5.heap.size) (o := 1) (by rw [HS6.out]; omega) (u := .slice A9 (X.length + 1) c9))
                          have HWS := Lib.hid (HW9.out.setCell (p := ⟨w5.heap.size, 1, none⟩) (Nat.le_refl _) (.slice A9 (X.length + 1) c9))
                          go_wp2_with fail
                          go_roundw
                          case rel => exact ⟨k + 1, A9, c9, by push_cast; rfl, by omega, by rw [HX.out, List.length_append]; exact HS9, by rw [HX.out, List.length_append, mc_append]; exact HOS, HWS⟩
                          case measure => simp [intOf]; omega
                        · have e1' : ((k : Int) + 1 == id) = false := by simpa using e1
                          have HFZ := Lib.hid (show f ((k : Int) + 1) = incL gl ((k : Int) + 1) by rw [HFK.out, if_neg e1])
                          obtain ⟨zz, hzz⟩ : ∃ zz, zz = incL gl ((k : Int) + 1) := ⟨_, rfl⟩
                          have HZZ := Lib.hid hzz
                          rw [← hzz]
                          clear hzz e1
                          by_cases e2 : 0 < zz
                          · have HX := Lib.hid (allF_yes (f := f) (k := k) (x := zz) (by rw [HFZ.out, ← HZZ.out]) e2)
                            have HLX := Lib.hid (allF_len f k)
                            generalize allF f k = X at *
                            have HO8 := Lib.hid (own_next HO7.out (below_alloc w7 (.cells #[.int .i64 ((k : Int) + 1), .int .i64 zz] 60)))
                            have HL8 := Lib.hid (lies_cells w7 (mc [((k : Int) + 1, zz)]) 60 1 2 rfl)
                            have HW8 := Lib.hid (HW7.out.trans ((below_alloc w7 (.cells #[.int .i64 ((k : Int) + 1), .int .i64 zz] 60)).mono HW7.out.size))
                            have H98 := Lib.hid ((Below.heap_alloc w7 (.cells #[.int .i64 ((k : Int) + 1), .int .i64 zz] 60) w5.heap.size (Array.getElem?_eq_some_iff.1 H97.out).1).trans H97.out)
                            have HZ8 := Lib.hid (show w6.heap.size ≤ (w7.alloc (.cells #[.int .i64 ((k : Int) + 1), .int .i64 zz] 60)).heap.size by have h1 := HZ7.out; simp; omega)
                            have o1 := c2_1 H97.out
                            have o2 := c2_1 H98.out
                            go_wp2_with (at_builtin; go_must (refine wpList_app2 _ rfl (.tmp 71) (.tmp 75) 28 rfl w6.heap.size 60 iv _ 2 16 Try.underlying28 IV.out ZV.out SV.out BV.out rfl (by decide) D X.length d (mc X) rfl HO8.out (w7.heap.size + 1) (some ⟨w7.heap.size, 0, none⟩) 1 1 (mc [((k : Int) + 1, zz)]) rfl HL8.out (mc_one _) (X.length + 1) (mc X ++ mc [((k : Int) + 1, zz)]) rfl rfl (by have := HLX.out; unfold maxLen; omega) (by have := HLX.out; omega) HZ8.out ?_))
                            intro A9 c9 w9 ho9 hb9 hg9
                            have H99 := Lib.hid ((hb9.block w5.heap.size (by rw [HS6.out]; omega)).trans H98.out)
                            have HW9 := Lib.hid (HW8.out.trans (hb9.mono (by rw [HS6.out]; omega) |> fun h => (h : Below w5.heap.size _ _)))
                            have HO9 := Lib.hid ho9
                            clear ho9 hb9 hg9 o1 o2
                            have o1 := c2_1 H99.out
                            have o2 := unfrozen H99.out 1
                            have HS9 := Lib.hid (set1_at H99.out (.slice A9 (X.length + 1) c9))
                            have HOS := Lib.hid (own_setLow HO9.out (b := w5.heap.size) (o := 1) (by rw [HS6.out]; omega) (u := .slice A9 (X.length + 1) c9))
                            have HWS := Lib.hid (HW9.out.setCell (p := ⟨w5.heap.size, 1, none⟩) (Nat.le_refl _) (.slice A9 (X.length + 1) c9))
                            go_wp2_with fail
                            go_roundw
                            case rel => exact ⟨k + 1, A9, c9, by push_cast; rfl, by omega, by rw [HX.out, List.length_append]; exact HS9, by rw [HX.out, List.length_append, mc_append]; exact HOS, HWS⟩
                            case measure => simp [intOf]; omega
                          · have HX := Lib.hid (allF_no (f := f) (k := k) (by rw [HFZ.out, ← HZZ.out]; exact e2))
                            go_wp2_with fail
                            go_roundw
                            case rel => exact ⟨k + 1, D, d, by push_cast; rfl, by omega, by rw [HX.out]; exact H97, by rw [HX.out]; exact HO7, HW7⟩
                            case measure => simp [intOf]; omega
                      · have hk' : k = 99 := by omega
                        subst hk'
                        rw [HFP.out] at H9 HO
                        have o0 := c2_0 H9.out
                        have o1 := c2_1 H9.out
                        have r0 := c2_0 HIw.out.h1
                        have f0 := unfrozen HIw.out.h1 0
                        have r1 := c2_1 HIw.out.h1
                        have f1 := unfrozen HIw.out.h1 1
                        go_wp2_with fail
                        refine bodyPost_ret (v := .tuple #[.agg #[.int .i64 (gn + 1), .slice D (putL gl id inc).length d], .int .i64 0]) (by simp [results, Try.results15, go_sem, r0, r1]) rfl ?_
                        exact rp_of HG.out HE.out rfl (Lies.of_own (own_set2 HO.out (by rw [HS6.out]; have := HI5.out.z; omega) _ _)) (HIw.out.setR _ _).bl
        · have HE := Lib.hid (je_1 (g := (gn, gl)) (mayB_no (id := id) (inc := inc) (by omega)))
          have HG := Lib.hid (joinG_no (g := (gn, gl)) (id := id) (inc := inc) (by rw [HE.out]; decide))
          go_wp2_with fail
          refine bodyPost_ret (v := .tuple #[.agg #[.int .i64 gn, .slice A1 gl.length c1], .int .i64 1]) (by simp [results, Try.results15, go_sem, r0, r1]) rfl ?_
          exact rp_of HG.out HE.out rfl (lies_out HL4.out HI4.out _ _) (HI4.out.setR _ _).bl
      · have HE := Lib.hid (je_1 (g := (gn, gl)) (mayB_no (id := id) (inc := inc) (by omega)))
        have HG := Lib.hid (joinG_no (g := (gn, gl)) (id := id) (inc := inc) (by rw [HE.out]; decide))
        go_wp2_with fail
        refine bodyPost_ret (v := .tuple #[.agg #[.int .i64 gn, .slice A1 gl.length c1], .int .i64 1]) (by simp [results, Try.results15, go_sem, r0, r1]) rfl ?_
        exact rp_of HG.out HE.out rfl (lies_out HL4.out HI4.out _ _) (HI4.out.setR _ _).bl
    · have HE := Lib.hid (je_1 (g := (gn, gl)) (mayB_no (id := id) (inc := inc) (by omega)))
      have HG := Lib.hid (joinG_no (g := (gn, gl)) (id := id) (inc := inc) (by rw [HE.out]; decide))
      go_wp2_with fail
      refine bodyPost_ret (v := .tuple #[.agg #[.int .i64 gn, .slice A1 gl.length c1], .int .i64 1]) (by simp [results, Try.results15, go_sem, r0, r1]) rfl ?_
      exact rp_of HG.out HE.out rfl (lies_out HL4.out HI4.out _ _) (HI4.out.setR _ _).bl
  · have HE := Lib.hid (je_1 (g := (gn, gl)) (mayB_no (id := id) (inc := inc) (by omega)))
    have HG := Lib.hid (joinG_no (g := (gn, gl)) (id := id) (inc := inc) (by rw [HE.out]; decide))
    go_wp2_with fail
    refine bodyPost_ret (v := .tuple #[.agg #[.int .i64 gn, .slice A1 gl.length c1], .int .i64 1]) (by simp [results, Try.results15, go_sem, r0, r1]) rfl ?_
    exact rp_of HG.out HE.out rfl (lies_out HL4.out HI4.out _ _) (HI4.out.setR _ _).bl
end Go.Proofs.Ytemcmhpfpfmgdaa
