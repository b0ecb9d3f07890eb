import Derived.Test.YtdpmlpclhojcjaaDe
/-
  The contracts of the document's own Sync, Cut, Drop and Put. No condition but that there are not too many files, and names and bytes are not too long.
-/
namespace Go.Proofs.Ytdpmlpclhojcjaa
open Go.ChangeShapes Go.WideShapes Go.ChangeAt Go.RowKit
set_option linter.unusedVariables false

theorem below_then {w a b : World} (h : Below w.heap.size w a) (k : Below a.heap.size a b) : Below w.heap.size w b := h.trans (k.mono h.size)
theorem fe_post {t : List Fl} {n m : Int} {w w' : World} {A : Option Addr} {c : Nat} {ls : List Fe} (hn : n = m) (hb : Below w.heap.size w w') (hL : Fls w' w'.heap.size A c ls) (ht : xs ls = t) : FePost t m w (.returned (.tuple #[.slice A ls.length c, .int .i64 n])) w' := by
  subst hn; exact ⟨hb, A, c, ls, rfl, hL, ht⟩
set_option maxHeartbeats 2000000 in
theorem rsync_any (A : Option Addr) (c : Nat) (ls : List Fe) (s : ByteArray) (w : World) (hA : Fls w w.heap.size A c ls) (hn : ls.length ≤ 100000) :
    Calls Try.prog 30 #[.slice A ls.length c, .string s] w (FePost (syncD (goodOf (xs ls)) s.toList) (syncE (goodOf (xs ls)) s.toList) w) := by
  have CG := Lib.hid (good_any A c ls w hA (by omega))
  have HG := Lib.hid (goodOf_good (xs ls))
  generalize goodOf (xs ls) = d at *
  clear hA hn
  go_enter Try.func30, Try.ntmps30
  go_wp2_with fail
  refine CG.out.mono ?_
  rintro e w1 ⟨hb1, A, c, ls, rfl, hL, hx⟩
  have HB := Lib.hid hb1
  have HL := Lib.hid hL
  have HX := Lib.hid hx
  have HN := Lib.hid (show ls.length ≤ 40 by have := HG.out.len; rw [← hx, xs_len] at this; exact this)
  clear hb1 hL hx CG
  go_wp2_with fail
  refine (has_any A c ls s _ HL.out.L (by have := HN.out; omega)).mono ?_
  rintro e w2 ⟨rfl, rfl⟩
  rw [HX.out]
  cases hh : hasF d s.toList with
  | false =>
    have HT := Lib.hid (show syncD d s.toList = d ∧ syncE d s.toList = 4 by unfold syncD syncE; rw [hh]; exact ⟨rfl, rfl⟩)
    clear hh
    go_wp2_with fail
    go_ret2
    exact fe_post HT.out.2.symm HB.out HL.out (HX.out.trans HT.out.1.symm)
  | true =>
    have HT := Lib.hid (show syncD d s.toList = withF d ⟨s.toList, getF d s.toList, (getF d s.toList).length⟩ ∧ syncE d s.toList = 0 by unfold syncD syncE; rw [hh]; exact ⟨rfl, rfl⟩)
    have HE := Lib.hid (getE_dat ls s.toList)
    have HD := Lib.hid (getE_fd HL.out.el s.toList)
    clear hh
    go_wp2_with fail
    refine (get_any A c ls s _ HL.out.L (by have := HN.out; omega)).mono ?_
    rintro e w2 ⟨rfl, rfl⟩
    go_wp2_with fail
    refine (get_any A c ls s _ HL.out.L (by have := HN.out; omega)).mono ?_
    rintro e w2 ⟨rfl, rfl⟩
    generalize getE ls s.toList = m at HE HD ⊢
    obtain ⟨mn, md, ms, MA, mcp⟩ := m
    simp only at HE
    go_wp2_with fail
    refine (with_any A c ls ⟨s, md, md.length, MA, mcp⟩ _ HL.out HD.out (by have := HN.out; omega)).mono ?_
    rintro e w2 ⟨hb2, A2, c2, l2, rfl, hL2, hx2⟩
    have HB2 := Lib.hid (below_then HB.out hb2)
    have HL2 := Lib.hid hL2
    have HX2 := Lib.hid (show xs l2 = withF d ⟨s.toList, getF d s.toList, (getF d s.toList).length⟩ by rw [hx2, HX.out, ← HX.out, ← HE.out.1]; rfl)
    clear hb2 hL2 hx2
    go_wp2_with fail
    go_ret2
    exact fe_post HT.out.2.symm HB2.out HL2.out (HX2.out.trans HT.out.1.symm)
theorem Try.under31 : Try.prog.underlying 31 = some (.slice (Try.prog.elem 31)) := by kernel_rfl
theorem Try.size31 : ∀ W, (sizeOf (Try.prog.elem 31)).run Try.prog W = .ok 1 W := by
  intro W
  obtain ⟨i, h1, h2⟩ : ∃ i, Try.prog.info? (Try.prog.elem 31) = some i ∧ i.size = 1 := by
    have h : (Try.prog.info? (Try.prog.elem 31)).map (fun i => i.size) = some 1 := by kernel_rfl
    cases hh : Try.prog.info? (Try.prog.elem 31) with
    | none => rw [hh] at h; cases h
    | some i => rw [hh] at h; exact ⟨i, rfl, by simpa using h⟩
  simp [sizeOf, typeInfo, h1, h2]
set_option maxHeartbeats 2000000 in
theorem rcut_any (A : Option Addr) (c : Nat) (ls : List Fe) (s : ByteArray) (n : Int) (w : World) (hA : Fls w w.heap.size A c ls) (hn : ls.length ≤ 100000) (n1 : -9223372036854775808 ≤ n) (n2 : n ≤ 9223372036854775807) :
    Calls Try.prog 31 #[.slice A ls.length c, .string s, .int .i64 n] w (FePost (cutD (goodOf (xs ls)) s.toList n) (cutE (goodOf (xs ls)) s.toList n) w) := by
  have CG := Lib.hid (good_any A c ls w hA (by omega))
  have HG := Lib.hid (goodOf_good (xs ls))
  generalize goodOf (xs ls) = d at *
  clear hA hn
  go_enter Try.func31, Try.ntmps31
  go_wp2_with fail
  refine CG.out.mono ?_
  rintro e w1 ⟨hb1, A, c, ls, rfl, hL, hx⟩
  have HB := Lib.hid hb1
  have HL := Lib.hid hL
  have HX := Lib.hid hx
  have HN := Lib.hid (show ls.length ≤ 40 by have := HG.out.len; rw [← hx, xs_len] at this; exact this)
  clear hb1 hL hx CG
  go_wp2_with fail
  refine (has_any A c ls s _ HL.out.L (by have := HN.out; omega)).mono ?_
  rintro e w2 ⟨rfl, rfl⟩
  rw [HX.out]
  cases hh : hasF d s.toList with
  | false =>
    have HT := Lib.hid (show cutD d s.toList n = d ∧ cutE d s.toList n = 4 by have e : cutE d s.toList n = 4 := by (unfold cutE; rw [hh]; rfl)
                                                                              unfold cutD; rw [e]; exact ⟨rfl, rfl⟩)
    clear hh
    go_wp2_with fail
    go_ret2
    exact fe_post HT.out.2.symm HB.out HL.out (HX.out.trans HT.out.1.symm)
  | true =>
    have HE := Lib.hid (getE_dat ls s.toList)
    have HD := Lib.hid (getE_fd HL.out.el s.toList)
    have CE := Lib.hid (fun W (h : Lies W W.heap.size 3 A ls.length (fc ls)) => get_any A c ls s W h (by have := HN.out; omega))
    have HH := Lib.hid hh
    rw [HX.out] at HE
    generalize getE ls s.toList = m at HE HD CE
    obtain ⟨mn, md, ms, MA, mcp⟩ := m
    simp only at HE CE
    by_cases g1 : n < 0
    · have HT := Lib.hid (show cutD d s.toList n = d ∧ cutE d s.toList n = 1 by have e : cutE d s.toList n = 1 := by (unfold cutE; rw [hh, if_pos rfl, if_pos (.inl g1)])
                                                                                unfold cutD; rw [e]; exact ⟨rfl, rfl⟩)
      clear hh
      go_wp2_with fail
      go_ret2
      exact fe_post HT.out.2.symm HB.out HL.out (HX.out.trans HT.out.1.symm)
    · by_cases g2 : (md.length : Int) < n
      · have HT := Lib.hid (show cutD d s.toList n = d ∧ cutE d s.toList n = 1 by have e : cutE d s.toList n = 1 := by (unfold cutE; rw [hh, if_pos rfl, if_pos (.inr (by rw [← HE.out.1]; exact g2))])
                                                                                  unfold cutD; rw [e]; exact ⟨rfl, rfl⟩)
        clear hh
        go_wp2_with fail
        refine (CE.out _ HL.out.L).mono ?_
        rintro e w2 ⟨rfl, rfl⟩
        go_wp2_with fail
        go_ret2
        exact fe_post HT.out.2.symm HB.out HL.out (HX.out.trans HT.out.1.symm)
      · obtain ⟨k, rfl⟩ : ∃ k : Nat, n = k := ⟨n.toNat, by omega⟩
        have hkm : k ≤ md.length := by omega
        have HT := Lib.hid (show cutD d s.toList k = withF d ⟨s.toList, md.take k, k⟩ ∧ cutE d s.toList k = 0 by
          have e : cutE d s.toList k = 0 := by (unfold cutE; rw [hh, if_pos rfl, if_neg (by rw [← HE.out.1]; omega)])
          unfold cutD; rw [e, if_pos rfl, ← HE.out.1, Int.toNat_natCast]; exact ⟨rfl, rfl⟩)
        obtain ⟨A', hcut, hLc⟩ := cut_h Try.under31 Try.size31 MA md.length mcp k (k : Int) .i64 rfl hkm HD.out.2
        have hlk : (md.take k).length = k := by rw [List.length_take]; omega
        have HFD := Lib.hid (show Fd w1 w1.heap.size ⟨s, md.take k, k, A', mcp⟩ from ⟨by have h := hLc _ _ _ HD.out.1; rw [bc_take] at h; show Lies _ _ _ _ (md.take k).length _; rw [hlk]; exact h, by show (md.take k).length ≤ mcp; rw [hlk]; exact Nat.le_trans hkm HD.out.2⟩)
        have CW := Lib.hid (with_any A c ls ⟨s, md.take k, k, A', mcp⟩ w1 HL.out HFD.out (by have := HN.out; omega))
        simp only [hlk] at CW
        clear hh hLc hlk
        go_wp2_with fail
        refine (CE.out _ HL.out.L).mono ?_
        rintro e w2 ⟨rfl, rfl⟩
        go_wp2_with fail
        refine (CE.out _ HL.out.L).mono ?_
        rintro e w2 ⟨rfl, rfl⟩
        go_wp2_with fail
        refine CW.out.mono ?_
        rintro e w2 ⟨hb2, A2, c2, l2, rfl, hL2, hx2⟩
        have HB2 := Lib.hid (below_then HB.out hb2)
        have HL2 := Lib.hid hL2
        have HX2 := Lib.hid (show xs l2 = withF d ⟨s.toList, md.take k, k⟩ by rw [hx2, HX.out]; rfl)
        clear hb2 hL2 hx2
        go_wp2_with fail
        go_ret2
        exact fe_post HT.out.2.symm HB2.out HL2.out (HX2.out.trans HT.out.1.symm)
theorem drop_snoc_ne {d : List Fl} {n : By} {e : Fl} (h : ¬ e.name = n) : dropF (d ++ [e]) n = dropF d n ++ [e] := by simp [dropF, h]
theorem drop_snoc_eq {d : List Fl} {n : By} {e : Fl} (h : e.name = n) : dropF (d ++ [e]) n = dropF d n := by simp [dropF, h]
def DrRel (ls : List Fe) (n : By) (w1 : World) (o i : Value) (W : World) : Prop := ∃ (k : Nat) (D : Option Addr) (d : Nat) (X : List Fe), i = .int .i64 k ∧ o = .slice D X.length d ∧ k ≤ ls.length ∧ X.length ≤ k ∧ Hid (xs X = dropF (xs (ls.take k)) n) ∧ Hid (Fo w1 D d X W)
set_option maxHeartbeats 2000000 in
theorem rdrop_any (A : Option Addr) (c : Nat) (ls : List Fe) (s : ByteArray) (w : World) (hA : Fls w w.heap.size A c ls) (hn : ls.length ≤ 100000) :
    Calls Try.prog 32 #[.slice A ls.length c, .string s] w (FePost (dropF (goodOf (xs ls)) s.toList) (dropE (goodOf (xs ls)) s.toList) w) := by
  obtain ⟨iv, hiv, hzv, hzsv, hzbv⟩ := info_parts (show (Try.prog.info? 50).map (fun i => (i.zero, i.size, i.bytes)) = some (some (.agg #[.string ⟨#[]⟩, .slice none 0 0, .int .i64 0]), 3, 48) by kernel_rfl)
  have IV := Lib.hid hiv
  have ZV := Lib.hid hzv
  have SV := Lib.hid hzsv
  have BV := Lib.hid hzbv
  clear hiv hzv hzsv hzbv
  have CG := Lib.hid (good_any A c ls w hA (by omega))
  have HG := Lib.hid (goodOf_good (xs ls))
  generalize goodOf (xs ls) = d at *
  clear hA hn
  go_enter Try.func32, Try.ntmps32
  go_wp2_with fail
  refine CG.out.mono ?_
  rintro e w1 ⟨hb1, A, c, ls, rfl, hL, hx⟩
  have HB := Lib.hid hb1
  have HL := Lib.hid hL
  have HX := Lib.hid hx
  have HN := Lib.hid (show ls.length ≤ 40 by have := HG.out.len; rw [← hx, xs_len] at this; exact this)
  clear hb1 hL hx CG
  go_wp2_with fail
  refine (has_any A c ls s _ HL.out.L (by have := HN.out; omega)).mono ?_
  rintro e w2 ⟨rfl, rfl⟩
  rw [HX.out]
  cases hh : hasF d s.toList with
  | false =>
    have HT := Lib.hid (show dropF d s.toList = d ∧ dropE d s.toList = 4 by unfold dropE; rw [hh]; exact ⟨dropF_none hh, rfl⟩)
    clear hh
    go_wp2_with fail
    go_ret2
    exact fe_post HT.out.2.symm HB.out HL.out (HX.out.trans HT.out.1.symm)
  | true =>
    have HT := Lib.hid (show dropE d s.toList = 0 by unfold dropE; rw [hh]; rfl)
    clear hh
    go_wp2_with fail
    go_loopw [6, 7] (fun o i W => DrRel ls s.toList w1 o i W) (fun o i W => ls.length - (intOf i).toNat)
    case atStart => exact ⟨0, none, 0, [], rfl, rfl, Nat.zero_le _, by simp, Lib.hid rfl, Lib.hid (Fo.no w1)⟩
    case round =>
      obtain ⟨k, D, d', X, rfl, rfl, hk, hX, HP, HO⟩ := hrel
      have hk40 : ls.length ≤ 40 := HN.out
      by_cases hlt : k < ls.length
      · obtain ⟨ad, rfl, hadb, e0, e1, e2⟩ := (HL.out.L.below HO.out.bl).fe k hlt
        have hkl : (k : Int) < (ls.length : Int) := by omega
        have hk4 : X.length ≤ 40 := by have := HN.out; omega
        have HE := Lib.hid (HL.out.at k hlt)
        have HD := Lib.hid (show xs (ls.take (k + 1)) = xs (ls.take k) ++ [(fAt ls k).x] by rw [ftake_at ls k hlt, xs_app]; rfl)
        generalize fAt ls k = m at *
        obtain ⟨nm, dat, sf, DA, dc⟩ := m
        simp only at e0 e1 e2
        by_cases he : nm.toList = s.toList
        · have HQ := Lib.hid (show xs X = dropF (xs (ls.take (k + 1))) s.toList by rw [HP.out, HD.out, drop_snoc_eq (show (Fe.x ⟨nm, dat, sf, DA, dc⟩).name = _ from he)])
          have he' : (nm.toList == s.toList) = true := by simpa using he
          clear he
          go_wp2_with fail
          go_roundw
          case rel => exact ⟨k + 1, D, d', X, by go_num, rfl, by omega, by omega, HQ, HO⟩
          case measure => simp [intOf]; omega
        · have HQ := Lib.hid (show xs (X ++ [⟨nm, dat, sf, DA, dc⟩]) = dropF (xs (ls.take (k + 1))) s.toList by rw [xs_app, HP.out, HD.out, drop_snoc_ne (show ¬ (Fe.x ⟨nm, dat, sf, DA, dc⟩).name = _ from he)]; rfl)
          have he' : (nm.toList == s.toList) = false := by simpa using he
          clear he
          go_upto_region 9 with fail
          have HO9 := Lib.hid (own_next HO.out.ow (below_alloc wr (.cells #[.string nm, .slice DA dat.length dc, .int .i64 sf] 50)))
          have HL9 := Lib.hid (lies_cells wr (fc [⟨nm, dat, sf, DA, dc⟩]) 50 1 3 rfl)
          have HB9 := Lib.hid (HO.out.bl.trans ((below_alloc wr (.cells #[.string nm, .slice DA dat.length dc, .int .i64 sf] 50)).mono HO.out.bl.size))
          go_wp2_with (at_builtin; go_must (refine wpList_app2 _ rfl (.tmp 28) (.tmp 33) 28 rfl w1.heap.size 50 iv _ 3 48 Try.underlying28 IV.out ZV.out SV.out BV.out rfl (by decide) D X.length d' (fc X) rfl HO9.out (wr.heap.size + 1) (some ⟨wr.heap.size, 0, none⟩) 1 1 (fc [⟨nm, dat, sf, DA, dc⟩]) rfl HL9.out (fc_one _) (X.length + 1) (fc X ++ fc [⟨nm, dat, sf, DA, dc⟩]) rfl rfl (by unfold maxLen; omega) (by omega) HB9.out.size ?_))
          intro A9 c9 w9 ho9 hb9 hg9
          have HF9 := Lib.hid (Fo.snoc rfl (HB9.out.trans hb9) ho9 HO.out.el HE.out)
          clear ho9 hb9 hg9
          go_wp2_with fail
          go_roundw
          case rel => exact ⟨k + 1, A9, c9, _, by go_num, by rw [snoc_len], by omega, by rw [snoc_len]; omega, HQ, HF9⟩
          case measure => simp [intOf]; omega
      · have hk' : k = ls.length := by omega
        subst hk'
        have HQ := Lib.hid (show xs X = dropF d s.toList by rw [HP.out, List.take_length, HX.out])
        go_wp2_with fail
        go_ret2
        exact fe_post HT.out.symm (below_then HB.out HO.out.bl) HO.out.ls HQ.out
end Go.Proofs.Ytdpmlpclhojcjaa
