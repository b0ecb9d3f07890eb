import Derived.Test.YtdpmlpclhojcjaaDd
import Derived.Laws.Cover1
/-
  The contract of the document's own with: a file in its place. No condition but that there are at most a hundred thousand files.
-/
namespace Go.Proofs.Ytdpmlpclhojcjaa
open Go.ChangeShapes Go.WideShapes Go.ChangeAt Go.RowKit
set_option linter.unusedVariables false

def contF (p : Bool) (d : List Fl) (f : Fl) : List Fl := if p then dropF d f.name else withF d f
theorem cont_put_eq {e f : Fl} {r : List Fl} (h : e.name = f.name) : contF true (e :: r) f = contF true r f := by simp [contF, dropF, h]
theorem cont_put_ne {e f : Fl} {r : List Fl} (h : ¬ e.name = f.name) : contF true (e :: r) f = e :: contF true r f := by simp [contF, dropF, h]
theorem cont_less {e f : Fl} {r : List Fl} (h : e.name < f.name) : contF false (e :: r) f = e :: contF false r f := by
  show withF _ _ = _ :: withF _ _
  rw [withF, if_pos h]
theorem cont_hit {e f : Fl} {r : List Fl} (h : ¬ e.name < f.name) : contF false (e :: r) f = f :: contF true (e :: r) f := by
  show withF _ _ = _ :: dropF _ _
  rw [withF, if_neg h]
/-- A list of files of the call's own, under way. -/
structure Fo (w1 : World) (D : Option Addr) (d : Nat) (X : List Fe) (W : World) : Prop where
  bl : Below w1.heap.size w1 W
  ow : W.ownsRow w1.heap.size 50 3 (.slice D X.length d) X.length (fc X)
  el : ∀ e ∈ X, Fd w1 w1.heap.size e
theorem Fo.next {w1 W W' : World} {D : Option Addr} {d : Nat} {X : List Fe} (h : Fo w1 D d X W) (hb : Below W.heap.size W W') : Fo w1 D d X W' :=
  ⟨h.bl.trans (hb.mono h.bl.size), own_next h.ow hb, h.el⟩
theorem Fo.no (w1 : World) : Fo w1 none 0 [] w1 := ⟨Below.refl _ _, World.ownsRow_nil _ _ _ _, fun e he => by cases he⟩
theorem Fo.snoc {w1 W : World} {D : Option Addr} {d n : Nat} {X : List Fe} {e : Fe} (hn : n = X.length + 1) (h1 : Below w1.heap.size w1 W) (h2 : W.ownsRow w1.heap.size 50 3 (.slice D n d) n (fc X ++ fc [e])) (h3 : ∀ e ∈ X, Fd w1 w1.heap.size e) (h4 : Fd w1 w1.heap.size e) : Fo w1 D d (X ++ [e]) W := by
  have hl : (X ++ [e]).length = n := by rw [List.length_append]; exact hn.symm
  refine ⟨h1, by rw [hl, fc_app]; exact h2, fun x hx => ?_⟩
  rcases List.mem_append.1 hx with hx | hx
  · exact h3 x hx
  · rw [List.mem_singleton.1 hx]; exact h4
theorem Fo.ls {w1 W : World} {D : Option Addr} {d : Nat} {X : List Fe} (h : Fo w1 D d X W) : Fls W W.heap.size D d X :=
  ⟨Lies.of_own h.ow, own_cap h.ow, fun e he => ⟨((h.el e he).1.below h.bl).more h.bl.size, (h.el e he).2⟩⟩
theorem snoc_len (X : List Fe) (e : Fe) : (X ++ [e]).length = X.length + 1 := by rw [List.length_append]; rfl
def WiRel (ls : List Fe) (f : Fe) (w1 : World) (o p i : Value) (W : World) : Prop := ∃ (k : Nat) (pb : Bool) (D : Option Addr) (d : Nat) (X : List Fe), i = .int .i64 k ∧ p = .bool pb ∧ o = .slice D X.length d ∧ k ≤ ls.length ∧ X.length ≤ k + pb.toNat ∧ Hid (withF (xs ls) f.x = xs X ++ contF pb (xs (ls.drop k)) f.x) ∧ Hid (Fo w1 D d X W)
theorem below_fo {w1 W : World} {D : Option Addr} {d : Nat} {X : List Fe} (h : Fo w1 D d X W) (q : Nat) : Fo w1 D d X (W.drewN q) := ⟨below_to_drewN h.bl q, h.ow, h.el⟩
set_option maxHeartbeats 4000000 in
theorem with_any (A : Option Addr) (c : Nat) (ls : List Fe) (f : Fe) (w : World) (hA : Fls w w.heap.size A c ls) (hF : Fd w w.heap.size f) (hn : ls.length ≤ 100000) :
    Calls Try.prog 42 #[.slice A ls.length c, .agg #[.string f.nm, .slice f.A f.dat.length f.c, .int .i64 f.safe]] w (FlPost (withF (xs ls) f.x) w) := by
  obtain ⟨iv, hiv, hzv, hzsv, hzbv⟩ := info_parts (show (Try.prog.info? 50).map (fun i => (i.zero, i.size, i.bytes)) = some (some (.agg #[.string ⟨#[]⟩, .slice none 0 0, .int .i64 0]), 3, 48) by kernel_rfl)
  have IV := Lib.hid hiv
  have ZV := Lib.hid hzv
  have SV := Lib.hid hzsv
  have BV := Lib.hid hzbv
  clear hiv hzv hzsv hzbv
  obtain ⟨fn, fd, fs, FA, fcp⟩ := f
  simp only
  have HB0 := Lib.hid (below_alloc w (.cells #[.string fn, .slice FA fd.length fcp, .int .i64 fs] 50))
  have d0 : (w.alloc (.cells #[.string fn, .slice FA fd.length fcp, .int .i64 fs] 50)).cell? ⟨w.heap.size, 0, none⟩ = some (.string fn) := by simp [go_sem]
  have d1 : (w.alloc (.cells #[.string fn, .slice FA fd.length fcp, .int .i64 fs] 50)).cell? ⟨w.heap.size, 1, none⟩ = some (.slice FA fd.length fcp) := by simp [go_sem]
  have d2 : (w.alloc (.cells #[.string fn, .slice FA fd.length fcp, .int .i64 fs] 50)).cell? ⟨w.heap.size, 2, none⟩ = some (.int .i64 fs) := by simp [go_sem]
  have HSZ := Lib.hid (show w.heap.size < (w.alloc (.cells #[.string fn, .slice FA fd.length fcp, .int .i64 fs] 50)).heap.size by simp)
  have HA := Lib.hid (hA.next HB0.out)
  have HF := Lib.hid (hF.next HB0.out)
  clear hA hF
  go_enter Try.func42, Try.ntmps42
  go_upto_region 1 with fail
  generalize w.alloc (.cells #[.string fn, .slice FA fd.length fcp, .int .i64 fs] 50) = w1 at d0 d1 d2 HB0 HSZ HA HF ⊢
  have CB := Lib.hid (show ∀ W : World, Below w1.heap.size w1 W → W.cell? ⟨w.heap.size, 0, none⟩ = some (.string fn) ∧ W.cell? ⟨w.heap.size, 1, none⟩ = some (.slice FA fd.length fcp) ∧ W.cell? ⟨w.heap.size, 2, none⟩ = some (.int .i64 fs) from fun W hb => ⟨(hb.cell (p := ⟨w.heap.size, 0, none⟩) HSZ.out).trans d0, (hb.cell (p := ⟨w.heap.size, 1, none⟩) HSZ.out).trans d1, (hb.cell (p := ⟨w.heap.size, 2, none⟩) HSZ.out).trans d2⟩)
  clear d0 d1 d2
  go_wp2_with fail
  go_loopw [5, 6, 7] (fun o p i W => WiRel ls ⟨fn, fd, fs, FA, fcp⟩ w1 o p i W) (fun o p i W => ls.length - (intOf i).toNat)
  case atStart => exact ⟨0, false, none, 0, [], rfl, rfl, rfl, Nat.zero_le _, by simp, Lib.hid rfl, Lib.hid (Fo.no w1)⟩
  case round =>
    obtain ⟨k, pb, D, d, X, rfl, rfl, rfl, hk, hX, HP, HO⟩ := hrel
    by_cases hlt : k < ls.length
    · obtain ⟨ad, rfl, hadb, e0, e1, e2⟩ := (HA.out.L.below HO.out.bl).fe k hlt
      have hkl : (k : Int) < (ls.length : Int) := by omega
      have HE := Lib.hid (HA.out.at k hlt)
      have HD := Lib.hid (show xs (ls.drop k) = (fAt ls k).x :: xs (ls.drop (k + 1)) by rw [fdrop_at ls k hlt]; rfl)
      have HCE := Lib.hid (show ∀ W : World, Below w1.heap.size w1 W → W.cell? (ad.add (k * 3)) = some (.string (fAt ls k).nm) ∧ W.cell? ⟨(ad.add (k * 3)).block, (ad.add (k * 3)).off + 1, none⟩ = some (.slice (fAt ls k).A (fAt ls k).dat.length (fAt ls k).c) ∧ W.cell? ⟨(ad.add (k * 3)).block, (ad.add (k * 3)).off + 2, none⟩ = some (.int .i64 (fAt ls k).safe) from fun W hb => by
        obtain ⟨ad', ea, _, h0, h1, h2⟩ := (HA.out.L.below hb).fe k hlt
        injection ea with ea
        subst ea
        exact ⟨h0, h1, h2⟩)
      generalize fAt ls k = m at *
      obtain ⟨nm, dat, sf, DA, dc⟩ := m
      simp only at e0 e1 e2 HCE
      obtain ⟨f0, f1, f2⟩ := CB.out wr HO.out.bl
      have HLE := Lib.hid (show Op.bytesLess nm.toList fn.toList = true ↔ (Fe.x ⟨nm, dat, sf, DA, dc⟩).name < (Fe.x ⟨fn, fd, fs, FA, fcp⟩).name by rw [less_of, decide_eq_true_iff]; rfl)
      cases pb with
      | true =>
        have hX : X.length ≤ k + 1 := hX
        go_upto_region 6 with fail
        go_quiet (fail)
        have HQ := Lib.hid (below_fo HO.out nq)
        generalize wr.drewN nq = wq at HQ ⊢
        obtain ⟨f0', f1', f2'⟩ := CB.out wq HQ.out.bl
        obtain ⟨e0q, e1q, e2q⟩ := HCE.out _ HQ.out.bl
        clear e0 e1 e2 f0 f1 f2
        by_cases he : nm.toList = fn.toList
        · have HT := Lib.hid (show withF (xs ls) (Fe.x ⟨fn, fd, fs, FA, fcp⟩) = xs X ++ contF true (xs (ls.drop (k + 1))) (Fe.x ⟨fn, fd, fs, FA, fcp⟩) by rw [HP.out, HD.out, cont_put_eq (show (Fe.x ⟨nm, dat, sf, DA, dc⟩).name = (Fe.x ⟨fn, fd, fs, FA, fcp⟩).name from he)])
          have he' : (nm.toList == fn.toList) = true := by simpa using he
          clear he
          go_upto_region 9 with fail
          go_quiet (fail)
          have HY := Lib.hid (below_fo HQ.out nq)
          generalize wq.drewN nq = wy at HY ⊢
          go_wp2_with fail
          go_roundw
          case rel => exact ⟨k + 1, true, D, d, X, by go_num, rfl, rfl, by omega, by (try rw [snoc_len]); have e1 : true.toNat = 1 := rfl; have e0 : false.toNat = 0 := rfl; first | omega | (have := HX8.out; omega), HT, HY⟩
          case measure => simp [intOf]; omega
        · have HT := Lib.hid (show withF (xs ls) (Fe.x ⟨fn, fd, fs, FA, fcp⟩) = xs (X ++ [⟨nm, dat, sf, DA, dc⟩]) ++ contF true (xs (ls.drop (k + 1))) (Fe.x ⟨fn, fd, fs, FA, fcp⟩) by rw [HP.out, HD.out, cont_put_ne (show ¬ (Fe.x ⟨nm, dat, sf, DA, dc⟩).name = (Fe.x ⟨fn, fd, fs, FA, fcp⟩).name from he), xs_app, List.append_assoc]; rfl)
          have he' : (nm.toList == fn.toList) = false := by simpa using he
          clear he
          go_upto_region 9 with fail
          go_quiet (fail)
          have HY := Lib.hid (below_fo HQ.out nq)
          generalize wq.drewN nq = wy at HY ⊢
          obtain ⟨e0', e1', e2'⟩ := HCE.out _ HY.out.bl
          have HO9 := Lib.hid (own_next HY.out.ow (below_alloc wy (.cells #[.string nm, .slice DA dat.length dc, .int .i64 sf] 50)))
          have HL9 := Lib.hid (lies_cells wy (fc [⟨nm, dat, sf, DA, dc⟩]) 50 1 3 rfl)
          have HB9 := Lib.hid (HY.out.bl.trans ((below_alloc wy (.cells #[.string nm, .slice DA dat.length dc, .int .i64 sf] 50)).mono HY.out.bl.size))
          go_wp2_with (at_builtin; go_must (refine wpList_app2 _ rfl (.tmp 38) (.tmp 43) 28 rfl w1.heap.size 50 iv _ 3 48 Try.underlying28 IV.out ZV.out SV.out BV.out rfl (by decide) D X.length d (fc X) rfl HO9.out (wy.heap.size + 1) (some ⟨wy.heap.size, 0, none⟩) 1 1 (fc [⟨nm, dat, sf, DA, dc⟩]) rfl HL9.out (fc_one _) (X.length + 1) (fc X ++ fc [⟨nm, dat, sf, DA, dc⟩]) rfl rfl (by unfold maxLen; omega) (by omega) HB9.out.size ?_))
          intro A9 c9 w9 ho9 hb9 hg9
          have HF9 := Lib.hid (Fo.snoc rfl (HB9.out.trans hb9) ho9 HY.out.el HE.out)
          clear ho9 hb9 hg9
          go_wp2_with fail
          go_roundw
          case rel => exact ⟨k + 1, true, A9, c9, (X ++ [⟨nm, dat, sf, DA, dc⟩]), by go_num, rfl, by rw [snoc_len], by omega, by (try rw [snoc_len]); have e1 : true.toNat = 1 := rfl; have e0 : false.toNat = 0 := rfl; first | omega | (have := HX8.out; omega), HT, HF9⟩
          case measure => simp [intOf]; omega
      | false =>
        have hX : X.length ≤ k := hX
        cases g6 : Op.bytesLess nm.toList fn.toList with
        | true =>
          have hl : (Fe.x ⟨nm, dat, sf, DA, dc⟩).name < (Fe.x ⟨fn, fd, fs, FA, fcp⟩).name := HLE.out.1 g6
          have he' : (nm.toList == fn.toList) = false := by
            cases h : (nm.toList == fn.toList) with
            | false => rfl
            | true => exact absurd (show (Fe.x ⟨nm, dat, sf, DA, dc⟩).name = (Fe.x ⟨fn, fd, fs, FA, fcp⟩).name from (by simpa using h : nm.toList = fn.toList)) (by_ne hl)
          have HT := Lib.hid (show withF (xs ls) (Fe.x ⟨fn, fd, fs, FA, fcp⟩) = xs (X ++ [⟨nm, dat, sf, DA, dc⟩]) ++ contF false (xs (ls.drop (k + 1))) (Fe.x ⟨fn, fd, fs, FA, fcp⟩) by rw [HP.out, HD.out, cont_less hl, xs_app, List.append_assoc]; rfl)
          clear hl
          go_upto_region 6 with fail
          go_quiet (fail)
          have HQ := Lib.hid (below_fo HO.out nq)
          generalize wr.drewN nq = wq at HQ ⊢
          obtain ⟨f0', f1', f2'⟩ := CB.out wq HQ.out.bl
          obtain ⟨e0q, e1q, e2q⟩ := HCE.out _ HQ.out.bl
          clear e0 e1 e2 f0 f1 f2
          go_upto_region 9 with fail
          go_quiet (fail)
          have HY := Lib.hid (below_fo HQ.out nq)
          generalize wq.drewN nq = wy at HY ⊢
          obtain ⟨e0', e1', e2'⟩ := HCE.out _ HY.out.bl
          have HO9 := Lib.hid (own_next HY.out.ow (below_alloc wy (.cells #[.string nm, .slice DA dat.length dc, .int .i64 sf] 50)))
          have HL9 := Lib.hid (lies_cells wy (fc [⟨nm, dat, sf, DA, dc⟩]) 50 1 3 rfl)
          have HB9 := Lib.hid (HY.out.bl.trans ((below_alloc wy (.cells #[.string nm, .slice DA dat.length dc, .int .i64 sf] 50)).mono HY.out.bl.size))
          go_wp2_with (at_builtin; go_must (refine wpList_app2 _ rfl (.tmp 38) (.tmp 43) 28 rfl w1.heap.size 50 iv _ 3 48 Try.underlying28 IV.out ZV.out SV.out BV.out rfl (by decide) D X.length d (fc X) rfl HO9.out (wy.heap.size + 1) (some ⟨wy.heap.size, 0, none⟩) 1 1 (fc [⟨nm, dat, sf, DA, dc⟩]) rfl HL9.out (fc_one _) (X.length + 1) (fc X ++ fc [⟨nm, dat, sf, DA, dc⟩]) rfl rfl (by unfold maxLen; omega) (by omega) HB9.out.size ?_))
          intro A9 c9 w9 ho9 hb9 hg9
          have HF9 := Lib.hid (Fo.snoc rfl (HB9.out.trans hb9) ho9 HY.out.el HE.out)
          clear ho9 hb9 hg9
          go_wp2_with fail
          go_roundw
          case rel => exact ⟨k + 1, false, A9, c9, (X ++ [⟨nm, dat, sf, DA, dc⟩]), by go_num, rfl, by rw [snoc_len], by omega, by (try rw [snoc_len]); have e1 : true.toNat = 1 := rfl; have e0 : false.toNat = 0 := rfl; first | omega | (have := HX8.out; omega), HT, HF9⟩
          case measure => simp [intOf]; omega
        | false =>
          have hl : ¬ (Fe.x ⟨nm, dat, sf, DA, dc⟩).name < (Fe.x ⟨fn, fd, fs, FA, fcp⟩).name := fun h => by rw [HLE.out.2 h] at g6; cases g6
          have HPP := Lib.hid (show withF (xs ls) (Fe.x ⟨fn, fd, fs, FA, fcp⟩) = xs (X ++ [⟨fn, fd, fs, FA, fcp⟩]) ++ contF true (xs (ls.drop k)) (Fe.x ⟨fn, fd, fs, FA, fcp⟩) by rw [HP.out, HD.out, cont_hit hl, xs_app, List.append_assoc]; rfl)
          clear hl
          go_upto_region 6 with fail
          go_quiet (fail)
          have HQ := Lib.hid (below_fo HO.out nq)
          generalize wr.drewN nq = wq at HQ ⊢
          obtain ⟨f0', f1', f2'⟩ := CB.out wq HQ.out.bl
          clear e0 e1 e2 f0 f1 f2
          go_upto_region 7 with fail
          have HO8 := Lib.hid (own_next HQ.out.ow (below_alloc wq (.cells #[.string fn, .slice FA fd.length fcp, .int .i64 fs] 50)))
          have HL8 := Lib.hid (lies_cells wq (fc [⟨fn, fd, fs, FA, fcp⟩]) 50 1 3 rfl)
          have HB8 := Lib.hid (HQ.out.bl.trans ((below_alloc wq (.cells #[.string fn, .slice FA fd.length fcp, .int .i64 fs] 50)).mono HQ.out.bl.size))
          go_wp2_with (at_builtin; go_must (refine wpList_app2 _ rfl (.tmp 26) (.tmp 28) 28 rfl w1.heap.size 50 iv _ 3 48 Try.underlying28 IV.out ZV.out SV.out BV.out rfl (by decide) D X.length d (fc X) rfl HO8.out (wq.heap.size + 1) (some ⟨wq.heap.size, 0, none⟩) 1 1 (fc [⟨fn, fd, fs, FA, fcp⟩]) rfl HL8.out (fc_one _) (X.length + 1) (fc X ++ fc [⟨fn, fd, fs, FA, fcp⟩]) rfl rfl (by unfold maxLen; omega) (by omega) HB8.out.size ?_))
          intro A8 c8 w8 ho8 hb8 hg8
          have HF8 := Lib.hid (Fo.snoc rfl (HB8.out.trans hb8) ho8 HQ.out.el HF.out)
          clear ho8 hb8 hg8
          have HX8 := Lib.hid (snoc_len X (⟨fn, fd, fs, FA, fcp⟩ : Fe))
          rw [← HX8.out]
          generalize X ++ [(⟨fn, fd, fs, FA, fcp⟩ : Fe)] = X8 at HF8 HPP HX8 ⊢
          obtain ⟨f0, f1, f2⟩ := CB.out w8 HF8.out.bl
          obtain ⟨e0q, e1q, e2q⟩ := HCE.out _ HF8.out.bl
          clear f0' f1' f2'
          by_cases he : nm.toList = fn.toList
          · have HT := Lib.hid (show withF (xs ls) (Fe.x ⟨fn, fd, fs, FA, fcp⟩) = xs X8 ++ contF true (xs (ls.drop (k + 1))) (Fe.x ⟨fn, fd, fs, FA, fcp⟩) by rw [HPP.out, HD.out, cont_put_eq (show (Fe.x ⟨nm, dat, sf, DA, dc⟩).name = (Fe.x ⟨fn, fd, fs, FA, fcp⟩).name from he)])
            have he' : (nm.toList == fn.toList) = true := by simpa using he
            clear he
            go_upto_region 9 with fail
            go_quiet (fail)
            have HY := Lib.hid (below_fo HF8.out nq)
            generalize w8.drewN nq = wy at HY ⊢
            go_wp2_with fail
            go_roundw
            case rel => exact ⟨k + 1, true, A8, c8, X8, by go_num, rfl, rfl, by omega, by (try rw [snoc_len]); have e1 : true.toNat = 1 := rfl; have e0 : false.toNat = 0 := rfl; first | omega | (have := HX8.out; omega), HT, HY⟩
            case measure => simp [intOf]; omega
          · have HT := Lib.hid (show withF (xs ls) (Fe.x ⟨fn, fd, fs, FA, fcp⟩) = xs (X8 ++ [⟨nm, dat, sf, DA, dc⟩]) ++ contF true (xs (ls.drop (k + 1))) (Fe.x ⟨fn, fd, fs, FA, fcp⟩) by rw [HPP.out, HD.out, cont_put_ne (show ¬ (Fe.x ⟨nm, dat, sf, DA, dc⟩).name = (Fe.x ⟨fn, fd, fs, FA, fcp⟩).name from he), xs_app, List.append_assoc]; rfl)
            have he' : (nm.toList == fn.toList) = false := by simpa using he
            clear he
            go_upto_region 9 with fail
            go_quiet (fail)
            have HY := Lib.hid (below_fo HF8.out nq)
            generalize w8.drewN nq = wy at HY ⊢
            obtain ⟨e0', e1', e2'⟩ := HCE.out _ HY.out.bl
            have HO9 := Lib.hid (own_next HY.out.ow (below_alloc wy (.cells #[.string nm, .slice DA dat.length dc, .int .i64 sf] 50)))
            have HL9 := Lib.hid (lies_cells wy (fc [⟨nm, dat, sf, DA, dc⟩]) 50 1 3 rfl)
            have HB9 := Lib.hid (HY.out.bl.trans ((below_alloc wy (.cells #[.string nm, .slice DA dat.length dc, .int .i64 sf] 50)).mono HY.out.bl.size))
            go_wp2_with (at_builtin; go_must (refine wpList_app2 _ rfl (.tmp 38) (.tmp 43) 28 rfl w1.heap.size 50 iv _ 3 48 Try.underlying28 IV.out ZV.out SV.out BV.out rfl (by decide) A8 X8.length c8 (fc X8) rfl HO9.out (wy.heap.size + 1) (some ⟨wy.heap.size, 0, none⟩) 1 1 (fc [⟨nm, dat, sf, DA, dc⟩]) rfl HL9.out (fc_one _) (X8.length + 1) (fc X8 ++ fc [⟨nm, dat, sf, DA, dc⟩]) rfl rfl (by have := HX8.out; unfold maxLen; omega) (by have := HX8.out; omega) HB9.out.size ?_))
            intro A9 c9 w9 ho9 hb9 hg9
            have HF9 := Lib.hid (Fo.snoc rfl (HB9.out.trans hb9) ho9 HY.out.el HE.out)
            clear ho9 hb9 hg9
            go_wp2_with fail
            go_roundw
            case rel => exact ⟨k + 1, true, A9, c9, (X8 ++ [⟨nm, dat, sf, DA, dc⟩]), by go_num, rfl, by rw [snoc_len], by omega, by (try rw [snoc_len]); have e1 : true.toNat = 1 := rfl; have e0 : false.toNat = 0 := rfl; first | omega | (have := HX8.out; omega), HT, HF9⟩
            case measure => simp [intOf]; omega
    · have hk' : k = ls.length := by omega
      subst hk'
      cases pb with
      | true =>
        have HT := Lib.hid (show xs X = withF (xs ls) (Fe.x ⟨fn, fd, fs, FA, fcp⟩) by rw [HP.out, List.drop_length]; simp [contF, dropF, xs])
        go_wp2_with fail
        go_ret
        exact ⟨HB0.out.trans (HO.out.bl.mono HB0.out.size), D, d, X, rfl, HO.out.ls, HT.out⟩
      | false =>
        have hX : X.length ≤ ls.length := hX
        have HT := Lib.hid (show xs (X ++ [⟨fn, fd, fs, FA, fcp⟩]) = withF (xs ls) (Fe.x ⟨fn, fd, fs, FA, fcp⟩) by rw [HP.out, List.drop_length, xs_app]; simp [contF, withF, xs])
        obtain ⟨f0, f1, f2⟩ := CB.out wr HO.out.bl
        go_upto_region 12 with fail
        have HO9 := Lib.hid (own_next HO.out.ow (below_alloc wr (.cells #[.string fn, .slice FA fd.length fcp, .int .i64 fs] 50)))
        have HL9 := Lib.hid (lies_cells wr (fc [⟨fn, fd, fs, FA, fcp⟩]) 50 1 3 rfl)
        have HB9 := Lib.hid (HO.out.bl.trans ((below_alloc wr (.cells #[.string fn, .slice FA fd.length fcp, .int .i64 fs] 50)).mono HO.out.bl.size))
        go_wp2_with (at_builtin; go_must (refine wpList_app2 _ rfl (.tmp 47) (.tmp 49) 28 rfl w1.heap.size 50 iv _ 3 48 Try.underlying28 IV.out ZV.out SV.out BV.out rfl (by decide) D X.length d (fc X) rfl HO9.out (wr.heap.size + 1) (some ⟨wr.heap.size, 0, none⟩) 1 1 (fc [⟨fn, fd, fs, FA, fcp⟩]) rfl HL9.out (fc_one _) (X.length + 1) (fc X ++ fc [⟨fn, fd, fs, FA, fcp⟩]) rfl rfl (by unfold maxLen; omega) (by omega) HB9.out.size ?_))
        intro A9 c9 w9 ho9 hb9 hg9
        have HF9 := Lib.hid (Fo.snoc rfl (HB9.out.trans hb9) ho9 HO.out.el HF.out)
        clear ho9 hb9 hg9
        go_wp2_with fail
        go_ret
        exact ⟨HB0.out.trans (HF9.out.bl.mono HB0.out.size), A9, c9, _, by rw [snoc_len]; rfl, HF9.out.ls, HT.out⟩
end Go.Proofs.Ytdpmlpclhojcjaa
