import Derived.Test.YtdpmlpclhojcjaaEi
/-
  The contracts of the program's Sync, Cut and Drop. No condition but that there are not too many files and bytes, and the number is of 64 bits.
-/
namespace Go.Proofs.Ytdpmlpclhojcjaa
open Go.ChangeShapes Go.WideShapes Go.ChangeAt Go.RowKit
set_option linter.unusedVariables false

theorem set1_other' {W : World} {b i j : Nat} {o : Obj} (h : W.heap[j]? = some o) (hne : j ≠ b) (u : Value) : (W.setCell ⟨b, i, none⟩ u).heap[j]? = some o := (Below.heap_setCell _ _ _ j hne).trans h
theorem Bb.set3 {w W : World} {v r : Value} (h : Bb w v r W) {g : Nat} (hg : w.heap.size + 2 ≤ g) (i j k : Nat) (x y z : Value) : Bb w v r (((W.setCell ⟨g, i, none⟩ x).setCell ⟨g, j, none⟩ y).setCell ⟨g, k, none⟩ z) :=
  ⟨by rw [size_set, size_set, size_set]; exact h.z, set1_other' (set1_other' (set1_other' h.h0 (by omega) _) (by omega) _) (by omega) _, set1_other' (set1_other' (set1_other' h.h1 (by omega) _) (by omega) _) (by omega) _,
    ((h.bl.setCell (p := ⟨g, i, none⟩) (by show w.heap.size ≤ g; omega) x).setCell (p := ⟨g, j, none⟩) (by show w.heap.size ≤ g; omega) y).setCell (p := ⟨g, k, none⟩) (by show w.heap.size ≤ g; omega) z⟩
theorem cut_next {b0 : Nat} {ad : Addr} {v x y z : Value} {i j k : Nat} {w w' : World} (hb : Below w.heap.size w w') (h0 : b0 < w.heap.size) (h2 : ad.block < w.heap.size)
    (h : w.cell? ⟨b0, 0, none⟩ = some v ∧ w.cell? ⟨ad.block, i, none⟩ = some x ∧ w.cell? ⟨ad.block, j, none⟩ = some y ∧ w.cell? ⟨ad.block, k, none⟩ = some z ∧ w.frozen? ⟨ad.block, i, none⟩ = false ∧ w.frozen? ⟨ad.block, j, none⟩ = false ∧ w.frozen? ⟨ad.block, k, none⟩ = false) :
    w'.cell? ⟨b0, 0, none⟩ = some v ∧ w'.cell? ⟨ad.block, i, none⟩ = some x ∧ w'.cell? ⟨ad.block, j, none⟩ = some y ∧ w'.cell? ⟨ad.block, k, none⟩ = some z ∧ w'.frozen? ⟨ad.block, i, none⟩ = false ∧ w'.frozen? ⟨ad.block, j, none⟩ = false ∧ w'.frozen? ⟨ad.block, k, none⟩ = false := by
  obtain ⟨a1, a2, a3, a4, a5, a6, a7⟩ := h
  exact ⟨(hb.cell (p := ⟨b0, 0, none⟩) h0).trans a1, (hb.cell (p := ⟨ad.block, i, none⟩) h2).trans a2, (hb.cell (p := ⟨ad.block, j, none⟩) h2).trans a3, (hb.cell (p := ⟨ad.block, k, none⟩) h2).trans a4, fz_next a5 hb h2, fz_next a6 hb h2, fz_next a7 hb h2⟩
set_option maxHeartbeats 4000000 in
set_option maxRecDepth 20000 in
theorem psync_any (A : Option Addr) (c : Nat) (ls : List Fe) (w : World) (hA : Fls w w.heap.size A c ls) (hm : Mod ls) (s : ByteArray) : Calls Try.prog 27 #[.agg #[.slice A ls.length c], .string s] w (DePost (syncD (goodOf (xs ls)) s.toList) (syncE (goodOf (xs ls)) s.toList) w) := by
  have HI := Lib.hid (Bb.init w (.slice A ls.length c) (.slice none 0 0))
  have CG := Lib.hid (own_any A c ls _ (hA.next HI.out.bl) hm)
  have HG := Lib.hid (goodOf_good (xs ls))
  have d0 := HI.out.c0
  generalize goodOf (xs ls) = t at *
  clear hA hm
  go_enter Try.func27, Try.ntmps27
  go_upto_region 1 with fail
  generalize (w.alloc (.cells #[.slice A ls.length c] 24)).alloc (.cells #[.slice none 0 0] 24) = w2 at HI CG d0 ⊢
  go_wp2_with fail
  refine CG.out.mono ?_
  rintro e w3 ⟨hb3, D, d, X, rfl, hZ, hx3⟩
  have HX := Lib.hid hx3
  have HI3 := Lib.hid (HI.out.next hb3)
  have HZ2 := Lib.hid HI.out.z
  have HN := Lib.hid (show X.length ≤ 40 by have := HG.out.len; rw [← hx3, xs_len] at this; exact this)
  have HTL := Lib.hid (show t.length = X.length by rw [← hx3, xs_len])
  have z1 := HI3.out.c0
  have zf := HI3.out.f0
  have HI4 := Lib.hid (HI3.out.setV (.slice D X.length d))
  have HO4 := Lib.hid (show Oz w2.heap.size D d X (w3.setCell ⟨w.heap.size, 0, none⟩ (.slice D X.length d)) from hZ.setLow (by have := HZ2.out; omega) _)
  have HS4 := Lib.hid (show w2.heap.size ≤ (w3.setCell ⟨w.heap.size, 0, none⟩ (.slice D X.length d)).heap.size by rw [size_set]; exact hb3.size)
  have hn40 : X.length ≤ 40 := HN.out
  clear hb3 hZ hx3 d0 CG HI
  go_upto_region 2 with fail
  generalize w3.setCell ⟨w.heap.size, 0, none⟩ (.slice D X.length d) = w4 at HI4 HO4 HS4 ⊢
  clear z1 zf HI3
  have d0 := HI4.out.c0
  go_wp2_with fail
  refine (find_any D d X s _ HO4.out.ls.L (by rw [HX.out]; exact HG.out.ris) (by omega)).mono ?_
  rintro e w5 ⟨rfl, hb5⟩
  have HI5 := Lib.hid (HI4.out.next hb5)
  have HO5 := Lib.hid (HO4.out.next hb5)
  have HAP := Lib.hid (fun h => @at_place X s.toList (by rw [HX.out]; exact HG.out.ris) h)
  have HWS := Lib.hid (fun (g : Fl) (hg : g.name = s.toList) (hh : hasF t s.toList = true) => by have := @with_set t HG.out.ris g (by rw [hg]; exact hh); rw [hg] at this; exact this)
  clear d0 hb5 HI4 HO4
  have d0 := HI5.out.c0
  have r1 := HI5.out.c1
  have f1 := HI5.out.f1
  rw [HX.out] at HAP ⊢
  generalize place t s.toList = p at *
  cases hh : hasF t s.toList with
  | false =>
    have HT := Lib.hid (show syncD t s.toList = t ∧ (4 : Int) = syncE t s.toList by unfold syncD syncE; rw [hh]; exact ⟨rfl, rfl⟩)
    clear hh
    go_wp2_with fail
    refine bodyPost_ret (v := .tuple #[.agg #[.slice D X.length d], .int .i64 4]) (by simp [results, Try.results27, go_sem, r1]) rfl ?_
    exact de_post HT.out.2 (HI5.out.setR _).bl rfl ((HO5.out.of).box HI5.out.h1 _).ls (HX.out.trans HT.out.1.symm)
  | true =>
    have HWT := Lib.hid (HWS.out ⟨s.toList, getF t s.toList, (getF t s.toList).length⟩ rfl hh)
    have HT := Lib.hid (show syncD t s.toList = withF t ⟨s.toList, getF t s.toList, (getF t s.toList).length⟩ ∧ (0 : Int) = syncE t s.toList by unfold syncD syncE; rw [hh]; exact ⟨rfl, rfl⟩)
    obtain ⟨hpl, hnm, hgf, hsf⟩ := HAP.out hh
    have HQ := Lib.hid hgf
    have HNM := Lib.hid hnm
    have HSF := Lib.hid hsf
    obtain ⟨ad, rfl, hadb, hadl, hadd, e0, e1, e2, ef⟩ := HO5.out.of.at hpl
    have hpi : (p : Int) < (X.length : Int) := by omega
    have HOK := Lib.hid (show okF (fAt X p).x from HG.out.ok (fAt X p).x (by rw [← HX.out]; exact List.mem_map_of_mem (fAt_mem X p hpl)))
    have HFD := Lib.hid (HO5.out.of.el _ (fAt_mem X p hpl))
    have hadk := hadd (p * 3)
    have HPL := Lib.hid hpl
    have HO6 := Lib.hid (HO5.out.of.put1 hpl ((fAt X p).dat.length : Int))
    have HXS := Lib.hid (show xs (X.set p ⟨(fAt X p).nm, (fAt X p).dat, ((fAt X p).dat.length : Int), (fAt X p).A, (fAt X p).c⟩) = syncD t s.toList by
      rw [HT.out.1, HWT.out, xs_set, HX.out, HQ.out, ← HNM.out]; rfl)
    have HI6 := Lib.hid (show Bb w (.slice (some ad) X.length d) (.slice none 0 0) (w5.setCell ⟨ad.block, p * 3 + 2, none⟩ (.int .i64 ((fAt X p).dat.length : Int))) from
      ⟨by rw [size_set]; exact HI5.out.z, set1_other' HI5.out.h0 (by have := HZ2.out; omega) _, set1_other' HI5.out.h1 (by have := HZ2.out; omega) _, HI5.out.bl.setCell (p := ⟨ad.block, p * 3 + 2, none⟩) (by have := HZ2.out; show w.heap.size ≤ ad.block; omega) _⟩)
    have hf2 := ef (p * 3 + 2)
    have HXL := Lib.hid (show (X.set p (⟨(fAt X p).nm, (fAt X p).dat, ((fAt X p).dat.length : Int), (fAt X p).A, (fAt X p).c⟩ : Fe)).length = X.length by rw [List.length_set])
    clear hh hgf hnm hsf
    generalize fAt X p = m at *
    obtain ⟨nm, dat, sf, DA, dc⟩ := m
    simp only at e0 e1 e2 HO6 HI6 HXS HXL
    go_upto_region 5 with fail
    go_region
    all_goals
      have HI7 := Lib.hid (HI6.out.next (Below.refl _ _).drew)
      have HO7 := Lib.hid (HO6.out.next (Below.refl _ _).drew)
      generalize (w5.setCell ⟨ad.block, p * 3 + 2, none⟩ (.int .i64 (dat.length : Int))).drew = w7 at HI7 HO7 ⊢
      clear r1 f1 d0 e0 e1 e2 hf2
      have r1 := HI7.out.c1
      have f1 := HI7.out.f1
      have d0 := HI7.out.c0
      go_wp2_with fail
      refine bodyPost_ret (v := .tuple #[.agg #[.slice (some ad) X.length d], .int .i64 0]) (by simp [results, Try.results27, go_sem, r1]) rfl ?_
      exact de_post HT.out.2 (HI7.out.setR _).bl HXL.out ((HO7.out).box HI7.out.h1 _).ls (HXS.out)
set_option maxHeartbeats 4000000 in
set_option maxRecDepth 20000 in
theorem pcut_any (A : Option Addr) (c : Nat) (ls : List Fe) (w : World) (hA : Fls w w.heap.size A c ls) (hm : Mod ls) (s : ByteArray) (k : Int) (n1 : -9223372036854775808 ≤ k) (n2 : k ≤ 9223372036854775807) : Calls Try.prog 25 #[.agg #[.slice A ls.length c], .string s, .int .i64 k] w (DePost (cutD (goodOf (xs ls)) s.toList k) (cutE (goodOf (xs ls)) s.toList k) w) := by
  have HI := Lib.hid (Bb.init w (.slice A ls.length c) (.slice none 0 0))
  have CG := Lib.hid (own_any A c ls _ (hA.next HI.out.bl) hm)
  have HG := Lib.hid (goodOf_good (xs ls))
  have d0 := HI.out.c0
  generalize goodOf (xs ls) = t at *
  clear hA hm
  go_enter Try.func25, Try.ntmps25
  go_upto_region 1 with fail
  generalize (w.alloc (.cells #[.slice A ls.length c] 24)).alloc (.cells #[.slice none 0 0] 24) = w2 at HI CG d0 ⊢
  go_wp2_with fail
  refine CG.out.mono ?_
  rintro e w3 ⟨hb3, D, d, X, rfl, hZ, hx3⟩
  have HX := Lib.hid hx3
  have HI3 := Lib.hid (HI.out.next hb3)
  have HZ2 := Lib.hid HI.out.z
  have HN := Lib.hid (show X.length ≤ 40 by have := HG.out.len; rw [← hx3, xs_len] at this; exact this)
  have HTL := Lib.hid (show t.length = X.length by rw [← hx3, xs_len])
  have z1 := HI3.out.c0
  have zf := HI3.out.f0
  have HI4 := Lib.hid (HI3.out.setV (.slice D X.length d))
  have HO4 := Lib.hid (show Oz w2.heap.size D d X (w3.setCell ⟨w.heap.size, 0, none⟩ (.slice D X.length d)) from hZ.setLow (by have := HZ2.out; omega) _)
  have HS4 := Lib.hid (show w2.heap.size ≤ (w3.setCell ⟨w.heap.size, 0, none⟩ (.slice D X.length d)).heap.size by rw [size_set]; exact hb3.size)
  have hn40 : X.length ≤ 40 := HN.out
  clear hb3 hZ hx3 d0 CG HI
  go_upto_region 2 with fail
  generalize w3.setCell ⟨w.heap.size, 0, none⟩ (.slice D X.length d) = w4 at HI4 HO4 HS4 ⊢
  clear z1 zf HI3
  have d0 := HI4.out.c0
  go_wp2_with fail
  refine (find_any D d X s _ HO4.out.ls.L (by rw [HX.out]; exact HG.out.ris) (by omega)).mono ?_
  rintro e w5 ⟨rfl, hb5⟩
  have HI5 := Lib.hid (HI4.out.next hb5)
  have HO5 := Lib.hid (HO4.out.next hb5)
  have HAP := Lib.hid (fun h => @at_place X s.toList (by rw [HX.out]; exact HG.out.ris) h)
  have HWS := Lib.hid (fun (g : Fl) (hg : g.name = s.toList) (hh : hasF t s.toList = true) => by have := @with_set t HG.out.ris g (by rw [hg]; exact hh); rw [hg] at this; exact this)
  clear d0 hb5 HI4 HO4
  have d0 := HI5.out.c0
  have r1 := HI5.out.c1
  have f1 := HI5.out.f1
  rw [HX.out] at HAP ⊢
  generalize place t s.toList = p at *
  cases hh : hasF t s.toList with
  | false =>
    have HT := Lib.hid (show cutD t s.toList k = t ∧ (4 : Int) = cutE t s.toList k by
      have e : cutE t s.toList k = 4 := by (unfold cutE; rw [hh]; rfl)
      unfold cutD; rw [e]; exact ⟨rfl, rfl⟩)
    clear hh
    go_wp2_with fail
    refine bodyPost_ret (v := .tuple #[.agg #[.slice D X.length d], .int .i64 4]) (by simp [results, Try.results25, go_sem, r1]) rfl ?_
    exact de_post HT.out.2 (HI5.out.setR _).bl rfl ((HO5.out.of).box HI5.out.h1 _).ls (HX.out.trans HT.out.1.symm)
  | true =>
    obtain ⟨hpl, hnm, hgf, hsf⟩ := HAP.out hh
    have HQ := Lib.hid hgf
    have HNM := Lib.hid hnm
    have HSF := Lib.hid hsf
    obtain ⟨ad, rfl, hadb, hadl, hadd, e0, e1, e2, ef⟩ := HO5.out.of.at hpl
    have hpi : (p : Int) < (X.length : Int) := by omega
    have HOK := Lib.hid (show okF (fAt X p).x from HG.out.ok (fAt X p).x (by rw [← HX.out]; exact List.mem_map_of_mem (fAt_mem X p hpl)))
    have HFD := Lib.hid (HO5.out.of.el _ (fAt_mem X p hpl))
    have hadk := hadd (p * 3)
    have HPL := Lib.hid hpl
    have HWT := Lib.hid (fun kk : Nat => HWS.out ⟨s.toList, (getF t s.toList).take kk, (kk : Int)⟩ rfl hh)
    have HCE := Lib.hid (show cutE t s.toList k = if k < 0 ∨ ((getF t s.toList).length : Int) < k then 1 else 0 by unfold cutE; rw [hh]; rfl)
    have HXL := Lib.hid (show ∀ e : Fe, (X.set p e).length = X.length from fun e => by rw [List.length_set])
    clear hh hgf hnm hsf
    generalize fAt X p = m at *
    obtain ⟨nm, dat, sf, DA, dc⟩ := m
    simp only at e0 e1 e2 HQ HNM
    rw [HQ.out] at HCE
    by_cases g1 : k < 0
    · have HT := Lib.hid (show cutD t s.toList k = t ∧ (1 : Int) = cutE t s.toList k by
        have e : cutE t s.toList k = 1 := by rw [HCE.out, if_pos (.inl g1)]
        unfold cutD; rw [e]; exact ⟨rfl, rfl⟩)
      go_wp2_with fail
      refine bodyPost_ret (v := .tuple #[.agg #[.slice (some ad) X.length d], .int .i64 1]) (by simp [results, Try.results25, go_sem, r1]) rfl ?_
      exact de_post HT.out.2 (HI5.out.setR _).bl rfl ((HO5.out.of).box HI5.out.h1 _).ls (HX.out.trans HT.out.1.symm)
    by_cases g2 : (dat.length : Int) < k
    · have HT := Lib.hid (show cutD t s.toList k = t ∧ (1 : Int) = cutE t s.toList k by
        have e : cutE t s.toList k = 1 := by rw [HCE.out, if_pos (.inr g2)]
        unfold cutD; rw [e]; exact ⟨rfl, rfl⟩)
      go_wp2_with fail
      refine bodyPost_ret (v := .tuple #[.agg #[.slice (some ad) X.length d], .int .i64 1]) (by simp [results, Try.results25, go_sem, r1]) rfl ?_
      exact de_post HT.out.2 (HI5.out.setR _).bl rfl ((HO5.out.of).box HI5.out.h1 _).ls (HX.out.trans HT.out.1.symm)
    obtain ⟨kk, rfl⟩ : ∃ kk : Nat, k = kk := ⟨k.toNat, by omega⟩
    have hkk : kk ≤ dat.length := by omega
    have HT := Lib.hid (show cutD t s.toList kk = withF t ⟨s.toList, (getF t s.toList).take kk, (kk : Int)⟩ ∧ (0 : Int) = cutE t s.toList kk by
      have e : cutE t s.toList kk = 0 := by rw [HCE.out, if_neg (by omega)]
      unfold cutD; rw [e, if_pos rfl, Int.toNat_natCast]; exact ⟨rfl, rfl⟩)
    have BG := Lib.hid (fun W => beg_any nm dat sf DA dc kk W hkk HFD.out.c (by have := HOK.out.2.2.1; simp only [Fe.x] at this; omega))
    have HXS := Lib.hid (show xs (X.set p ⟨nm, dat.take kk, (kk : Int), DA, kk⟩) = cutD t s.toList kk by
      rw [HT.out.1, HWT.out kk, xs_set, HX.out, HQ.out, ← HNM.out]; rfl)
    have HKD := Lib.hid (show Kc w.heap.size ad.block ad (some ad) X.length d p nm DA dat.length dc sf w5 ∨ True from .inr trivial)
    have hf0 := ef (p * 3)
    have hf1 := ef (p * 3 + 1)
    have hf2 := ef (p * 3 + 2)
    have HLTS := Lib.hid (show w.heap.size < w5.heap.size ∧ ad.block < w5.heap.size from ⟨by have := HI5.out.z; omega, hadl⟩)
    have HF3 := Lib.hid (show w5.cell? ⟨w.heap.size, 0, none⟩ = some (.slice (some ad) X.length d) ∧ w5.cell? ⟨ad.block, p * 3, none⟩ = some (.string nm) ∧ w5.cell? ⟨ad.block, p * 3 + 1, none⟩ = some (.slice DA dat.length dc) ∧ w5.cell? ⟨ad.block, p * 3 + 2, none⟩ = some (.int .i64 sf) ∧ w5.frozen? ⟨ad.block, p * 3, none⟩ = false ∧ w5.frozen? ⟨ad.block, p * 3 + 1, none⟩ = false ∧ w5.frozen? ⟨ad.block, p * 3 + 2, none⟩ = false from ⟨d0, e0, e1, e2, hf0, hf1, hf2⟩)
    clear r1 f1 ef HCE HWT HAP HWS
    go_upto_region 7 with fail
    go_region_law (first | (go_simp; go_at_call 38; (with_reducible refine (BG.out _).mono ?_); rintro e w7 ⟨rfl, hb7⟩; have HB7 := Lib.hid (below_of_drew hb7); obtain ⟨a1, a2, a3, a4, a5, a6, a7⟩ := cut_next HB7.out HLTS.out.1 HLTS.out.2 HF3.out; clear hb7) | fail)
    all_goals
      have HO7 := Lib.hid ((HO5.out.of.next HB7.out).put3 (k := p) HPL.out (e := ⟨nm, dat.take kk, (kk : Int), DA, kk⟩) ((HFD.out.next HB7.out).cut kk hkk kk) (n := kk) (by show (dat.take kk).length = kk; rw [List.length_take]; omega))
      have HI7 := Lib.hid ((HI5.out.next HB7.out).set3 (g := ad.block) (by have := HZ2.out; omega) (p * 3) (p * 3 + 1) (p * 3 + 2) (.string nm) (.slice DA kk kk) (.int .i64 (kk : Int)))
      generalize ((w7.setCell ⟨ad.block, p * 3, none⟩ (.string nm)).setCell ⟨ad.block, p * 3 + 1, none⟩ (.slice DA kk kk)).setCell ⟨ad.block, p * 3 + 2, none⟩ (.int .i64 (kk : Int)) = w8 at HI7 HO7 ⊢
      clear a1 a2 a3 a4 a5 a6 a7 d0 e0 e1 e2 hf0 hf1 hf2
      have r1 := HI7.out.c1
      have f1 := HI7.out.f1
      have d0 := HI7.out.c0
      go_wp2_with fail
      refine bodyPost_ret (v := .tuple #[.agg #[.slice (some ad) X.length d], .int .i64 0]) (by simp [results, Try.results25, go_sem, r1]) rfl ?_
      exact de_post HT.out.2 (HI7.out.setR _).bl (HXL.out _) ((HO7.out).box HI7.out.h1 _).ls (HXS.out)
set_option maxHeartbeats 4000000 in
set_option maxRecDepth 20000 in
theorem pdrop_any (A : Option Addr) (c : Nat) (ls : List Fe) (w : World) (hA : Fls w w.heap.size A c ls) (hm : Mod ls) (s : ByteArray) : Calls Try.prog 26 #[.agg #[.slice A ls.length c], .string s] w (DePost (dropF (goodOf (xs ls)) s.toList) (dropE (goodOf (xs ls)) s.toList) w) := by
  have HI := Lib.hid (Bb.init w (.slice A ls.length c) (.slice none 0 0))
  have CG := Lib.hid (own_any A c ls _ (hA.next HI.out.bl) hm)
  have HG := Lib.hid (goodOf_good (xs ls))
  have d0 := HI.out.c0
  generalize goodOf (xs ls) = t at *
  clear hA hm
  go_enter Try.func26, Try.ntmps26
  go_upto_region 1 with fail
  generalize (w.alloc (.cells #[.slice A ls.length c] 24)).alloc (.cells #[.slice none 0 0] 24) = w2 at HI CG d0 ⊢
  go_wp2_with fail
  refine CG.out.mono ?_
  rintro e w3 ⟨hb3, D, d, X, rfl, hZ, hx3⟩
  have HX := Lib.hid hx3
  have HI3 := Lib.hid (HI.out.next hb3)
  have HZ2 := Lib.hid HI.out.z
  have HN := Lib.hid (show X.length ≤ 40 by have := HG.out.len; rw [← hx3, xs_len] at this; exact this)
  have HTL := Lib.hid (show t.length = X.length by rw [← hx3, xs_len])
  have z1 := HI3.out.c0
  have zf := HI3.out.f0
  have HI4 := Lib.hid (HI3.out.setV (.slice D X.length d))
  have HO4 := Lib.hid (show Oz w2.heap.size D d X (w3.setCell ⟨w.heap.size, 0, none⟩ (.slice D X.length d)) from hZ.setLow (by have := HZ2.out; omega) _)
  have HS4 := Lib.hid (show w2.heap.size ≤ (w3.setCell ⟨w.heap.size, 0, none⟩ (.slice D X.length d)).heap.size by rw [size_set]; exact hb3.size)
  have hn40 : X.length ≤ 40 := HN.out
  clear hb3 hZ hx3 d0 CG HI
  go_upto_region 2 with fail
  generalize w3.setCell ⟨w.heap.size, 0, none⟩ (.slice D X.length d) = w4 at HI4 HO4 HS4 ⊢
  clear z1 zf HI3
  have d0 := HI4.out.c0
  go_wp2_with fail
  refine (find_any D d X s _ HO4.out.ls.L (by rw [HX.out]; exact HG.out.ris) (by omega)).mono ?_
  rintro e w5 ⟨rfl, hb5⟩
  have HI5 := Lib.hid (HI4.out.next hb5)
  have HO5 := Lib.hid (HO4.out.next hb5)
  have HAP := Lib.hid (fun h => @at_place X s.toList (by rw [HX.out]; exact HG.out.ris) h)
  have HWS := Lib.hid (fun (g : Fl) (hg : g.name = s.toList) (hh : hasF t s.toList = true) => by have := @with_set t HG.out.ris g (by rw [hg]; exact hh); rw [hg] at this; exact this)
  clear d0 hb5 HI4 HO4
  have d0 := HI5.out.c0
  have r1 := HI5.out.c1
  have f1 := HI5.out.f1
  rw [HX.out] at HAP ⊢
  have HDD := Lib.hid (fun h => @drop_del t HG.out.ris s.toList h)
  generalize place t s.toList = p at *
  cases hh : hasF t s.toList with
  | false =>
    have HT := Lib.hid (show dropF t s.toList = t ∧ (4 : Int) = dropE t s.toList by unfold dropE; rw [hh]; exact ⟨dropF_none hh, rfl⟩)
    clear hh
    go_wp2_with fail
    refine bodyPost_ret (v := .tuple #[.agg #[.slice D X.length d], .int .i64 4]) (by simp [results, Try.results26, go_sem, r1]) rfl ?_
    exact de_post HT.out.2 (HI5.out.setR _).bl rfl ((HO5.out.of).box HI5.out.h1 _).ls (HX.out.trans HT.out.1.symm)
  | true =>
    have HT := Lib.hid (show xs (X.take p ++ X.drop (p + 1)) = dropF t s.toList ∧ (0 : Int) = dropE t s.toList by unfold dropE; rw [hh, HDD.out hh, xs_app, xs_take, xs_drop, HX.out]; exact ⟨rfl, rfl⟩)
    obtain ⟨hpl, _, _, _⟩ := HAP.out hh
    obtain ⟨ad, cur, rfl, hae, hadb, hgc⟩ := own_at HO5.out.ow (by omega)
    obtain ⟨g, hg0⟩ : ∃ g, g = ad.block := ⟨_, rfl⟩
    rw [← hg0] at hae hadb hgc
    subst hae
    have CD := Lib.hid (delete_any w2.heap.size g X.length d p X w5 HO5.out.ow hpl (by omega))
    have HLL := Lib.hid (show (X.take p ++ X.drop (p + 1)).length = X.length - 1 by rw [List.length_append, List.length_take, List.length_drop]; omega)
    have HGC := Lib.hid hgc
    have hp40 : p < 40 := by omega
    clear hh hpl hgc hg0
    go_wp2_with fail
    refine CD.out.mono ?_
    rintro e w6 ⟨rfl, ho6, hg6⟩
    have HI6 := Lib.hid (HI5.out.grown (fun k e => by injection e with e; have := HZ2.out; omega) hg6)
    have HO6 := Lib.hid (show Of w2.heap.size (some ⟨g, 0, none⟩) d (X.take p ++ X.drop (p + 1)) w6 from ⟨by rw [HLL.out]; exact ho6, fun e he => Dt.grown (HO5.out.of.el e (by rcases List.mem_append.1 he with h | h; exact List.mem_of_mem_take h; exact List.mem_of_mem_drop h)) hg6 HGC.out⟩)
    have HI7 := Lib.hid (HI6.out.setV (.slice (some ⟨g, 0, none⟩) (X.length - 1) d))
    have HO7 := Lib.hid (HO6.out.box HI6.out.h0 (i := 0) (.slice (some ⟨g, 0, none⟩) (X.length - 1) d))
    clear d0 r1 f1 ho6 hg6
    have d0 := HI6.out.c0
    have f0 := HI6.out.f0
    go_upto_region 6 with fail
    generalize w6.setCell ⟨w.heap.size, 0, none⟩ (.slice (some ⟨g, 0, none⟩) (X.length - 1) d) = w7 at HI7 HO7 ⊢
    clear d0 f0
    have d0 := HI7.out.c0
    have r1 := HI7.out.c1
    have f1 := HI7.out.f1
    go_wp2_with fail
    refine bodyPost_ret (v := .tuple #[.agg #[.slice (some ⟨g, 0, none⟩) (X.length - 1) d], .int .i64 0]) (by simp [results, Try.results26, go_sem, r1]) rfl ?_
    exact de_post HT.out.2 (HI7.out.setR _).bl HLL.out ((HO7.out).box HI7.out.h1 _).ls (HT.out.1)
end Go.Proofs.Ytdpmlpclhojcjaa
