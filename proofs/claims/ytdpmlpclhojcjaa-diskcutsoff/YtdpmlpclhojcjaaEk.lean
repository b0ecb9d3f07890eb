import Derived.Test.YtdpmlpclhojcjaaEj
/-
  The contract of the program's Put. No condition but that there are not too many files and bytes.
-/
namespace Go.Proofs.Ytdpmlpclhojcjaa
open Go.ChangeShapes Go.WideShapes Go.ChangeAt Go.RowKit
set_option linter.unusedVariables false

theorem isname_not {s : ByteArray} (h : nmB s = false) : s.toList.length < 1 ∨ 16 < s.toList.length := by
  have h' := of_decide_eq_false h
  have := str_len s
  omega
theorem isname_yes {s : ByteArray} (h : nmB s = true) : 1 ≤ s.toList.length ∧ s.toList.length ≤ 16 := by
  have h' := of_decide_eq_true h
  have := str_len s
  omega
theorem putE_3 {d : List Fl} {n b : By} (h1 : 1 ≤ n.length ∧ n.length ≤ 16) (h : hasF d n = false ∧ d.length = 40 ∨ 20000 < b.length ∨ 20000 < (getF d n).length + b.length) : putE d n b = 3 := by unfold putE; rw [if_neg (by omega), if_pos h]
theorem xs_put (X : List Fe) (p : Nat) (e : Fe) : xs (putAt X p e) = (xs X).take p ++ e.x :: (xs X).drop p := by unfold putAt xs; simp
theorem put_at (X : List Fe) (p : Nat) (e : Fe) (hp : p ≤ X.length) : fAt (putAt X p e) p = e := by
  have hl : (X.take p).length = p := by rw [List.length_take]; omega
  unfold fAt putAt
  rw [List.getD_eq_getElem?_getD, List.getElem?_append_right (by omega), hl, Nat.sub_self]
  rfl
theorem put_mem {X : List Fe} {p : Nat} {e y : Fe} (h : y ∈ putAt X p e) : y ∈ X ∨ y = e := by
  unfold putAt at h
  rcases List.mem_append.1 h with h | h
  · exact .inl (List.mem_of_mem_take h)
  · rcases List.mem_cons.1 h with rfl | h
    · exact .inr rfl
    · exact .inl (List.mem_of_mem_drop h)
theorem put_ap {X : List Fe} {p : Nat} {e : Fe} (h : X.Pairwise Ap) (he : e.A = none) : (putAt X p e).Pairwise Ap := by
  have h' := h
  rw [← List.take_append_drop p X] at h'
  obtain ⟨h1, h2, h3⟩ := List.pairwise_append.1 h'
  unfold putAt
  refine List.pairwise_append.2 ⟨h1, List.pairwise_cons.2 ⟨fun y hy a b ha hb => (by rw [he] at ha; cases ha), h2⟩, fun x hx y hy => ?_⟩
  rcases List.mem_cons.1 hy with rfl | hy
  · intro a b ha hb; rw [he] at hb; cases hb
  · exact h3 x hx y hy
theorem Bb.setG {w W : World} {v r : Value} (h : Bb w v r W) {g : Nat} (hg : w.heap.size + 2 ≤ g) (i : Nat) (x : Value) : Bb w v r (W.setCell ⟨g, i, none⟩ x) :=
  ⟨by rw [size_set]; exact h.z, set1_other' h.h0 (by omega) _, set1_other' h.h1 (by omega) _, h.bl.setCell (p := ⟨g, i, none⟩) (by show w.heap.size ≤ g; omega) x⟩
set_option maxHeartbeats 8000000 in
set_option maxRecDepth 20000 in
theorem pput_any (A : Option Addr) (c : Nat) (ls : List Fe) (w : World) (hA : Fls w w.heap.size A c ls) (hm : Mod ls) (s : ByteArray) (hs : s.size ≤ 100000) (BA : Option Addr) (bcap : Nat) (b : List UInt8) (hB : Lies w w.heap.size 1 BA b.length (bc b)) (hb : b.length ≤ 100000) :
    Calls Try.prog 24 #[.agg #[.slice A ls.length c], .string s, .slice BA b.length bcap] w (DePost (putD (goodOf (xs ls)) s.toList b) (putE (goodOf (xs ls)) s.toList b) w) := by
  obtain ⟨iv, hiv, hzv, hzsv, hzbv⟩ := info_parts (show (Try.prog.info? 5).map (fun i => (i.zero, i.size, i.bytes)) = some (some (.int .u8 0), 1, 1) by kernel_rfl)
  have IV := Lib.hid hiv
  have ZV := Lib.hid hzv
  have SV := Lib.hid hzsv
  have BV := Lib.hid hzbv
  clear hiv hzv hzsv hzbv
  have HBL := Lib.hid hB
  clear hB
  have HI := Lib.hid (Bb.init w (.slice A ls.length c) (.slice none 0 0))
  have CG := Lib.hid (own_any A c ls _ (hA.next HI.out.bl) hm)
  have HG := Lib.hid (goodOf_good (xs ls))
  have d0 := HI.out.c0
  generalize goodOf (xs ls) = t at *
  clear hA hm
  go_enter Try.func24, Try.ntmps24
  go_upto_region 1 with fail
  generalize (w.alloc (.cells #[.slice A ls.length c] 24)).alloc (.cells #[.slice none 0 0] 24) = w2 at HI CG d0 ⊢
  go_wp2_with fail
  refine CG.out.mono ?_
  rintro e w3 ⟨hb3, D, d, X, rfl, hZ, hx3⟩
  have HX := Lib.hid hx3
  have HI3 := Lib.hid (HI.out.next hb3)
  have HZ2 := Lib.hid HI.out.z
  have HN := Lib.hid (show X.length ≤ 40 by have := HG.out.len; rw [← hx3, xs_len] at this; exact this)
  have HTL := Lib.hid (show t.length = X.length by rw [← hx3, xs_len])
  have z1 := HI3.out.c0
  have zf := HI3.out.f0
  have HI4 := Lib.hid (HI3.out.setV (.slice D X.length d))
  have HO4 := Lib.hid (show Oz w2.heap.size D d X (w3.setCell ⟨w.heap.size, 0, none⟩ (.slice D X.length d)) from hZ.setLow (by have := HZ2.out; omega) _)
  have HS4 := Lib.hid (show w2.heap.size ≤ (w3.setCell ⟨w.heap.size, 0, none⟩ (.slice D X.length d)).heap.size by rw [size_set]; exact hb3.size)
  have hn40 : X.length ≤ 40 := HN.out
  clear hb3 hZ hx3 d0 CG HI
  go_upto_region 2 with fail
  generalize w3.setCell ⟨w.heap.size, 0, none⟩ (.slice D X.length d) = w4 at HI4 HO4 HS4 ⊢
  clear z1 zf HI3
  have d0 := HI4.out.c0
  have r1 := HI4.out.c1
  have f1 := HI4.out.f1
  cases hnm : nmB s with
  | false =>
    have H1 := Lib.hid hnm
    have HT := Lib.hid (show putD t s.toList b = t ∧ (1 : Int) = putE t s.toList b by
      have e : putE t s.toList b = 1 := by (unfold putE; rw [if_pos (isname_not hnm)])
      unfold putD; rw [e]; exact ⟨rfl, rfl⟩)
    clear hnm
    go_wp2_with fail
    refine (isname_any s _ hs).mono ?_
    rintro e w5 ⟨rfl, rfl⟩
    rw [H1.out]
    go_wp2_with fail
    refine bodyPost_ret (v := .tuple #[.agg #[.slice D X.length d], .int .i64 1]) (by simp [results, Try.results24, go_sem, r1]) rfl ?_
    exact de_post HT.out.2 (HI4.out.setR _).bl rfl ((HO4.out.of).box HI4.out.h1 _).ls (HX.out.trans HT.out.1.symm)
  | true =>
  have H1 := Lib.hid hnm
  have HNL := Lib.hid (isname_yes hnm)
  clear hnm
  go_wp2_with fail
  refine (isname_any s _ hs).mono ?_
  rintro e w5 ⟨rfl, rfl⟩
  rw [H1.out]
  clear r1 f1
  go_wp2_with fail
  refine (find_any D d X s _ HO4.out.ls.L (by rw [HX.out]; exact HG.out.ris) (by omega)).mono ?_
  rintro e w5 ⟨rfl, hb5⟩
  have HI5 := Lib.hid (HI4.out.next hb5)
  have HO5 := Lib.hid (HO4.out.next hb5)
  have HAP := Lib.hid (fun h => @at_place X s.toList (by rw [HX.out]; exact HG.out.ris) h)
  have HWI := Lib.hid (fun (g : Fl) (hg : g.name = s.toList) (hh : hasF t s.toList = false) => by have := @with_ins t g (by rw [hg]; exact hh); rw [hg] at this; exact this)
  have HPL := Lib.hid (show place (xs X) s.toList ≤ X.length by have := place_le (xs X) s.toList; rwa [xs_len] at this)
  have HWS := Lib.hid (fun (g : Fl) (hg : g.name = s.toList) (hh : hasF t s.toList = true) => by have := @with_set t HG.out.ris g (by rw [hg]; exact hh); rw [hg] at this; exact this)
  have HSB := Lib.hid (show w4.heap.size ≤ w5.heap.size from hb5.size)
  clear d0 hb5 HI4 HO4
  have d0 := HI5.out.c0
  have r1 := HI5.out.c1
  have f1 := HI5.out.f1
  rw [HX.out] at HAP HPL ⊢
  generalize place t s.toList = p at *
  have HB5 := Lib.hid (HBL.out.below HI5.out.bl)
  cases hh : hasF t s.toList with
  | true =>
    obtain ⟨hpl, hnm, hgf, hsf⟩ := HAP.out hh
    have HQ := Lib.hid hgf
    have HNM := Lib.hid hnm
    have HSF := Lib.hid hsf
    obtain ⟨ad, rfl, hadb, hadl, hadd, e0, e1, e2, ef⟩ := HO5.out.of.at hpl
    have hpi : (p : Int) < (X.length : Int) := by omega
    have HOK := Lib.hid (show okF (fAt X p).x from HG.out.ok (fAt X p).x (by rw [← HX.out]; exact List.mem_map_of_mem (fAt_mem X p hpl)))
    have HFD := Lib.hid (HO5.out.of.el _ (fAt_mem X p hpl))
    have hadk := hadd (p * 3)
    have HWT := Lib.hid (HWS.out ⟨s.toList, getF t s.toList ++ b, safeF t s.toList⟩ rfl hh)
    have HHA := Lib.hid hh
    have hd20 : (fAt X p).dat.length ≤ 20000 := HOK.out.2.2.1
    clear hh hgf hnm hsf
    by_cases g1 : 20000 < b.length + (fAt X p).dat.length
    · have HT := Lib.hid (show putD t s.toList b = t ∧ (3 : Int) = putE t s.toList b by
        have e : putE t s.toList b = 3 := putE_3 HNL.out (.inr (.inr (by rw [HQ.out]; omega)))
        unfold putD; rw [e]; exact ⟨rfl, rfl⟩)
      have g1i : (20000 : Int) < (b.length : Int) + ((fAt X p).dat.length : Int) := by omega
      have hn40i : ¬ (40 : Int) < (X.length : Int) := by omega
      generalize fAt X p = m at *
      obtain ⟨nm, dat, sf, DA, dc⟩ := m
      simp only at e0 e1 e2 g1 g1i hd20
      go_upto_region 7 with fail
      go_quiet (fail)
      have HI6 := Lib.hid (HI5.out.next (below_to_drewN (Below.refl _ _) nq))
      have HO6 := Lib.hid (HO5.out.next (below_to_drewN (Below.refl _ _) nq))
      generalize w5.drewN nq = w6 at HI6 HO6 ⊢
      clear d0 r1 f1 e0 e1 e2 ef
      have d0 := HI6.out.c0
      have r1 := HI6.out.c1
      have f1 := HI6.out.f1
      go_wp2_with fail
      refine bodyPost_ret (v := .tuple #[.agg #[.slice (some ad) X.length d], .int .i64 3]) (by simp [results, Try.results24, go_sem, r1]) rfl ?_
      exact de_post HT.out.2 (HI6.out.setR _).bl rfl ((HO6.out.of).box HI6.out.h1 _).ls (HX.out.trans HT.out.1.symm)
    have HT := Lib.hid (show putD t s.toList b = withF t ⟨s.toList, getF t s.toList ++ b, safeF t s.toList⟩ ∧ (0 : Int) = putE t s.toList b by
      have e : putE t s.toList b = 0 := putE_of HNL.out.1 HNL.out.2 (.inl HHA.out) (by rw [HQ.out]; omega)
      unfold putD; rw [if_pos e, e]; exact ⟨rfl, rfl⟩)
    have g1i : ¬ (20000 : Int) < (b.length : Int) + ((fAt X p).dat.length : Int) := by omega
    have hn40i : ¬ (40 : Int) < (X.length : Int) := by omega
    have HXS := Lib.hid (show ∀ G gc, xs (X.set p ⟨(fAt X p).nm, (fAt X p).dat ++ b, (fAt X p).safe, G, gc⟩) = putD t s.toList b from fun G gc => by
      rw [HT.out.1, HWT.out, xs_set, HX.out, HQ.out, HSF.out, ← HNM.out]; rfl)
    have HAPP := Lib.hid (fun W W' A9 c9 n9 h0 h1 h2 h3 => @Oz.app w2.heap.size W W' ad d p n9 X b A9 c9 h0 hpl h1 h2 h3)
    have HXL := Lib.hid (show ∀ e : Fe, (X.set p e).length = X.length from fun e => by rw [List.length_set])
    have HZE := Lib.hid (show ∀ W, Oz w2.heap.size (some ad) d X W → W.cell? ⟨ad.block, p * 3 + 1, none⟩ = some (.slice (fAt X p).A (fAt X p).dat.length (fAt X p).c) from fun W h => by
      obtain ⟨ad', e, _, _, _, _, c1, _⟩ := h.of.at hpl
      injection e with e
      subst e
      exact c1)
    have HEL := Lib.hid (show ∀ W, Oz w2.heap.size (some ad) d X W → OwnB w2.heap.size (fAt X p).A (fAt X p).c (fAt X p).dat W from fun W h => h.el _ (fAt_mem X p hpl))
    generalize fAt X p = m at *
    obtain ⟨nm, dat, sf, DA, dc⟩ := m
    simp only at hd20 HXS HAPP HZE HEL
    simp only at e0 e1 e2 g1 g1i
    go_upto_region 7 with fail
    go_quiet (fail)
    have HI6 := Lib.hid (HI5.out.next (below_to_drewN (Below.refl _ _) nq))
    have HO6 := Lib.hid (HO5.out.next (below_to_drewN (Below.refl _ _) nq))
    have HSB := Lib.hid (show w4.heap.size ≤ (w5.drewN nq).heap.size from HSB.out)
    generalize w5.drewN nq = w6 at HI6 HO6 HSB ⊢
    clear d0 r1 f1 e0 e1 e2 ef
    have d0 := HI6.out.c0
    have e1 := HZE.out _ HO6.out
    go_upto_region 12 with fail
    have HS6 := Lib.hid (show w2.heap.size ≤ w6.heap.size by have := HS4.out; have := HSB.out; omega)
    have HID := Lib.hid (show Bb w (.slice (some ad) X.length d) (.slice none 0 0) w6.drew from HI6.out.next (Below.refl _ _).drew)
    have HOD := Lib.hid (show Oz w2.heap.size (some ad) d X w6.drew from HO6.out.next (Below.refl _ _).drew)
    have HBD := Lib.hid (show Lies w6.drew w.heap.size 1 BA b.length (bc b) from HBL.out.below HID.out.bl)
    have HOED := Lib.hid (show w6.drew.ownsRow w2.heap.size 5 1 (.slice DA dat.length dc) dat.length (bc dat) from HEL.out _ HOD.out)
    have HSD := Lib.hid (show w2.heap.size ≤ w6.drew.heap.size from HS6.out)
    go_region_law (refine step_own1 rfl _ _ 31 rfl w2.heap.size 5 iv _ 1 1 Try.underlying31 IV.out ZV.out SV.out BV.out rfl (by decide) DA dat.length dc (bc dat) (by simp [Act.eval]) HOED.out w.heap.size BA b.length bcap (bc b) (by simp [Act.eval]) HBD.out (bc_one _) (by unfold maxLen; omega) (by omega) HSD.out ?_; intro A9 c9 w9 ho9 hb9 hg9; have HI9 := Lib.hid (HID.out.grown (fun k e => by have := (World.ownsRow.lt HOED.out k e).1; have := HZ2.out; omega) hg9); obtain ⟨hp9, t9, f9⟩ := HAPP.out _ _ A9 c9 _ HOD.out hg9 (by rw [List.length_append]) (by rw [bc_append]; exact ho9); have HP9 := Lib.hid hp9; have d9 := HI9.out.c0; clear ho9 hb9 hg9 hp9)
    all_goals
      have HI10 := Lib.hid (HI9.out.setG (g := ad.block) (by have := HZ2.out; omega) (p * 3 + 1) (.slice A9 (dat.length + b.length) c9))
      generalize w9.setCell ⟨ad.block, p * 3 + 1, none⟩ (.slice A9 (dat.length + b.length) c9) = w10 at HI10 HP9 ⊢
      clear d0 e1 t9 f9 d9
      have d0 := HI10.out.c0
      have r1 := HI10.out.c1
      have f1 := HI10.out.f1
      go_wp2_with fail
      refine bodyPost_ret (v := .tuple #[.agg #[.slice (some ad) X.length d], .int .i64 0]) (by simp [results, Try.results24, go_sem, r1]) rfl ?_
      exact de_post HT.out.2 (HI10.out.setR _).bl (HXL.out _) ((HP9.out).box HI10.out.h1 _).ls (HXS.out _ _)
  | false =>
    have HGF := Lib.hid (getF_none hh)
    have HWT := Lib.hid (HWI.out ⟨s.toList, getF t s.toList ++ b, safeF t s.toList⟩ rfl hh)
    have HHA := Lib.hid hh
    clear hh
    by_cases g0 : X.length = 40
    · have HT := Lib.hid (show putD t s.toList b = t ∧ (3 : Int) = putE t s.toList b by
        have e : putE t s.toList b = 3 := putE_3 HNL.out (.inl ⟨HHA.out, by rw [HTL.out]; exact g0⟩)
        unfold putD; rw [e]; exact ⟨rfl, rfl⟩)
      have g0i : (40 : Int) < (X.length : Int) + 1 := by omega
      clear g0
      go_wp2_with fail
      refine bodyPost_ret (v := .tuple #[.agg #[.slice D X.length d], .int .i64 3]) (by simp [results, Try.results24, go_sem, r1]) rfl ?_
      exact de_post HT.out.2 (HI5.out.setR _).bl rfl ((HO5.out.of).box HI5.out.h1 _).ls (HX.out.trans HT.out.1.symm)
    have g0i : ¬ (40 : Int) < (X.length : Int) + 1 := by omega
    have g0d : decide ((40 : Int) < (X.length : Int) + 1) = false := decide_eq_false g0i
    by_cases g1 : 20000 < b.length
    · have HT := Lib.hid (show putD t s.toList b = t ∧ (3 : Int) = putE t s.toList b by
        have e : putE t s.toList b = 3 := putE_3 HNL.out (.inr (.inl g1))
        unfold putD; rw [e]; exact ⟨rfl, rfl⟩)
      have g1i : (20000 : Int) < (b.length : Int) := by omega
      go_wp2_with fail
      refine bodyPost_ret (v := .tuple #[.agg #[.slice D X.length d], .int .i64 3]) (by simp [results, Try.results24, go_sem, r1]) rfl ?_
      exact de_post HT.out.2 (HI5.out.setR _).bl rfl ((HO5.out.of).box HI5.out.h1 _).ls (HX.out.trans HT.out.1.symm)
    have g1i : ¬ (20000 : Int) < (b.length : Int) := by omega
    have HT := Lib.hid (show putD t s.toList b = withF t ⟨s.toList, getF t s.toList ++ b, safeF t s.toList⟩ ∧ (0 : Int) = putE t s.toList b by
      have e : putE t s.toList b = 0 := putE_of HNL.out.1 HNL.out.2 (.inr (by rw [HTL.out]; exact g0)) (by rw [HGF.out.1]; simp; omega)
      unfold putD; rw [if_pos e, e]; exact ⟨rfl, rfl⟩)
    have HBA := Lib.hid (below_alloc w5 (.cells #[.string s, .slice none 0 0, .int .i64 0] 53))
    have HNW := Lib.hid (heap_alloc_new w5 (.cells #[.string s, .slice none 0 0, .int .i64 0] 53))
    have HI6 := Lib.hid (HI5.out.next HBA.out)
    have HO6 := Lib.hid (HO5.out.next HBA.out)
    have HSBA := Lib.hid (show w4.heap.size ≤ (w5.alloc (.cells #[.string s, .slice none 0 0, .int .i64 0] 53)).heap.size by have := HSB.out; have := HBA.out.size; omega)
    have CI := Lib.hid (insert_any w2.heap.size D X.length d p w5.heap.size X ⟨s, [], 0, none, 0⟩ _ HO6.out.ow (by have := HS4.out; have := HSBA.out; omega) HNW.out (fun ad ha e => by subst ha; have := (World.ownsRow.lt HO5.out.ow _ rfl).2; omega) HPL.out (by omega))
    go_upto_region 11 with fail
    go_wp2_with fail
    refine CI.out.mono ?_
    rintro e w7 ⟨hg7, D2, d2, rfl, ho7⟩
    have HI7 := Lib.hid (HI6.out.grown (fun k e => by have := (World.ownsRow.lt HO6.out.ow k e).1; have := HZ2.out; omega) hg7)
    have HO7 := Lib.hid (show Oz w2.heap.size D2 d2 (putAt X p ⟨s, [], 0, none, 0⟩) w7 from ⟨ho7, fun y hy => by
      rcases put_mem hy with hy | rfl
      · exact own_apart (HO6.out.el y hy) HO6.out.ow hg7 (by decide)
      · exact World.ownsRow_nil _ _ _ _, put_ap HO6.out.ap rfl⟩)
    have HX2 := Lib.hid (xs_put X p ⟨s, [], 0, none, 0⟩)
    have HL2 := Lib.hid (put_len X p ⟨s, [], 0, none, 0⟩ HPL.out)
    have HA2 := Lib.hid (put_at X p ⟨s, [], 0, none, 0⟩ HPL.out)
    have HS7 := Lib.hid (show w4.heap.size ≤ w7.heap.size by have := HSBA.out; have := hg7.size; omega)
    clear hg7 ho7 CI HNW HBA d0 r1 f1
    generalize putAt X p ⟨s, [], 0, none, 0⟩ = X2 at *
    have hpl : p < X2.length := by rw [HL2.out]; have := HPL.out; omega
    have hX2 : X2.length ≤ 40 := by rw [HL2.out]; omega
    have HI8 := Lib.hid (HI7.out.setV (.slice D2 X2.length d2))
    have HO8 := Lib.hid (HO7.out.setLow (b := w.heap.size) (o := 0) (by have := HZ2.out; omega) (.slice D2 X2.length d2))
    have HS8 := Lib.hid (show w4.heap.size ≤ (w7.setCell ⟨w.heap.size, 0, none⟩ (.slice D2 X2.length d2)).heap.size by rw [size_set]; exact HS7.out)
    have d0 := HI7.out.c0
    have f0 := HI7.out.f0
    go_upto_region 12 with fail
    have HI6 := HI8
    have HO6 := HO8
    have HSB := HS8
    clear HI8 HO8 HI7 HO7 d0 f0 HS8
    generalize w7.setCell ⟨w.heap.size, 0, none⟩ (.slice D2 X2.length d2) = w6 at HI6 HO6 HSB ⊢
    obtain ⟨ad, rfl, hadb, hadl, hadd, e0, e1, e2, ef⟩ := HO6.out.of.at hpl
    have hpi : (p : Int) < (X2.length : Int) := by omega
    have hadk := hadd (p * 3)
    have hd20 : (fAt X2 p).dat.length ≤ 20000 := by rw [HA2.out]; exact Nat.zero_le _
    have HXS := Lib.hid (show ∀ G gc, xs (X2.set p ⟨(fAt X2 p).nm, (fAt X2 p).dat ++ b, (fAt X2 p).safe, G, gc⟩) = putD t s.toList b from fun G gc => by
      rw [HT.out.1, HWT.out, xs_set, HX2.out, HX.out, HA2.out, HGF.out.1, HGF.out.2, List.set_append, if_neg (by rw [List.length_take]; omega), List.length_take, HTL.out, Nat.min_eq_left HPL.out, Nat.sub_self, List.set_cons_zero]; rfl)
    clear HA2 e0 e1 e2 ef
    have HAPP := Lib.hid (fun W W' A9 c9 n9 h0 h1 h2 h3 => @Oz.app w2.heap.size W W' ad d2 p n9 X2 b A9 c9 h0 hpl h1 h2 h3)
    have HXL := Lib.hid (show ∀ e : Fe, (X2.set p e).length = X2.length from fun e => by rw [List.length_set])
    have HZE := Lib.hid (show ∀ W, Oz w2.heap.size (some ad) d2 X2 W → W.cell? ⟨ad.block, p * 3 + 1, none⟩ = some (.slice (fAt X2 p).A (fAt X2 p).dat.length (fAt X2 p).c) from fun W h => by
      obtain ⟨ad', e, _, _, _, _, c1, _⟩ := h.of.at hpl
      injection e with e
      subst e
      exact c1)
    have HEL := Lib.hid (show ∀ W, Oz w2.heap.size (some ad) d2 X2 W → OwnB w2.heap.size (fAt X2 p).A (fAt X2 p).c (fAt X2 p).dat W from fun W h => h.el _ (fAt_mem X2 p hpl))
    generalize fAt X2 p = m at *
    obtain ⟨nm, dat, sf, DA, dc⟩ := m
    simp only at hd20 HXS HAPP HZE HEL
    have d0 := HI6.out.c0
    have e1 := HZE.out _ HO6.out
    go_upto_region 12 with fail
    have HS6 := Lib.hid (show w2.heap.size ≤ w6.heap.size by have := HS4.out; have := HSB.out; omega)
    have HID := Lib.hid (show Bb w (.slice (some ad) X2.length d2) (.slice none 0 0) w6.drew from HI6.out.next (Below.refl _ _).drew)
    have HOD := Lib.hid (show Oz w2.heap.size (some ad) d2 X2 w6.drew from HO6.out.next (Below.refl _ _).drew)
    have HBD := Lib.hid (show Lies w6.drew w.heap.size 1 BA b.length (bc b) from HBL.out.below HID.out.bl)
    have HOED := Lib.hid (show w6.drew.ownsRow w2.heap.size 5 1 (.slice DA dat.length dc) dat.length (bc dat) from HEL.out _ HOD.out)
    have HSD := Lib.hid (show w2.heap.size ≤ w6.drew.heap.size from HS6.out)
    go_region_law (refine step_own1 rfl _ _ 31 rfl w2.heap.size 5 iv _ 1 1 Try.underlying31 IV.out ZV.out SV.out BV.out rfl (by decide) DA dat.length dc (bc dat) (by simp [Act.eval]) HOED.out w.heap.size BA b.length bcap (bc b) (by simp [Act.eval]) HBD.out (bc_one _) (by unfold maxLen; omega) (by omega) HSD.out ?_; intro A9 c9 w9 ho9 hb9 hg9; have HI9 := Lib.hid (HID.out.grown (fun k e => by have := (World.ownsRow.lt HOED.out k e).1; have := HZ2.out; omega) hg9); obtain ⟨hp9, t9, f9⟩ := HAPP.out _ _ A9 c9 _ HOD.out hg9 (by rw [List.length_append]) (by rw [bc_append]; exact ho9); have HP9 := Lib.hid hp9; have d9 := HI9.out.c0; clear ho9 hb9 hg9 hp9)
    all_goals
      have HI10 := Lib.hid (HI9.out.setG (g := ad.block) (by have := HZ2.out; omega) (p * 3 + 1) (.slice A9 (dat.length + b.length) c9))
      generalize w9.setCell ⟨ad.block, p * 3 + 1, none⟩ (.slice A9 (dat.length + b.length) c9) = w10 at HI10 HP9 ⊢
      clear d0 e1 t9 f9 d9
      have d0 := HI10.out.c0
      have r1 := HI10.out.c1
      have f1 := HI10.out.f1
      go_wp2_with fail
      refine bodyPost_ret (v := .tuple #[.agg #[.slice (some ad) X2.length d2], .int .i64 0]) (by simp [results, Try.results24, go_sem, r1]) rfl ?_
      exact de_post HT.out.2 (HI10.out.setR _).bl (HXL.out _) ((HP9.out).box HI10.out.h1 _).ls (HXS.out _ _)
end Go.Proofs.Ytdpmlpclhojcjaa
