import Derived.Test.YtdpmlpclhojcjaaDf
/-
  The contract of the document's own Put. No condition but that there are not too many files, and names and bytes are not too long.
-/
namespace Go.Proofs.Ytdpmlpclhojcjaa
open Go.ChangeShapes Go.WideShapes Go.ChangeAt Go.RowKit
set_option linter.unusedVariables false

theorem no_put {d : List Fl} {n b : By} (h : putE d n b = 3) : putD d n b = d ∧ putE d n b = 3 := by unfold putD; rw [h]; exact ⟨rfl, rfl⟩
theorem no_put1 {d : List Fl} {n b : By} (h : putE d n b = 1) : putD d n b = d ∧ putE d n b = 1 := by unfold putD; rw [h]; exact ⟨rfl, rfl⟩
theorem yes_put {d : List Fl} {n b : By} (h : putE d n b = 0) : putD d n b = withF d ⟨n, getF d n ++ b, safeF d n⟩ ∧ putE d n b = 0 := by unfold putD; rw [if_pos h]; exact ⟨rfl, h⟩
set_option maxHeartbeats 4000000 in
theorem rput_any (A : Option Addr) (c : Nat) (ls : List Fe) (s : ByteArray) (BA : Option Addr) (bcap : Nat) (b : List UInt8) (w : World) (hA : Fls w w.heap.size A c ls) (hBL : Lies w w.heap.size 1 BA b.length (bc b)) (hn : ls.length ≤ 100000) (hs : s.size ≤ 100000) (hb : b.length ≤ 100000) :
    Calls Try.prog 29 #[.slice A ls.length c, .string s, .slice BA b.length bcap] w (FePost (putD (goodOf (xs ls)) s.toList b) (putE (goodOf (xs ls)) s.toList b) w) := by
  obtain ⟨iv, hiv, hzv, hzsv, hzbv⟩ := info_parts (show (Try.prog.info? 5).map (fun i => (i.zero, i.size, i.bytes)) = some (some (.int .u8 0), 1, 1) by kernel_rfl)
  have IV := Lib.hid hiv
  have ZV := Lib.hid hzv
  have SV := Lib.hid hzsv
  have BV := Lib.hid hzbv
  clear hiv hzv hzsv hzbv
  have CG := Lib.hid (good_any A c ls w hA (by omega))
  have HG := Lib.hid (goodOf_good (xs ls))
  generalize goodOf (xs ls) = d at *
  clear hA hn
  have HBL := Lib.hid hBL
  clear hBL
  go_enter Try.func29, Try.ntmps29
  go_wp2_with fail
  refine CG.out.mono ?_
  rintro e w1 ⟨hb1, A, c, ls, rfl, hL, hx⟩
  have HB := Lib.hid hb1
  have HB1 := Lib.hid hb1
  have HL := Lib.hid hL
  have HX := Lib.hid hx
  have HN := Lib.hid (show ls.length ≤ 40 by have := HG.out.len; rw [← hx, xs_len] at this; exact this)
  have hn40 : ls.length ≤ 40 := HN.out
  have HLD := Lib.hid (show d.length = ls.length by rw [← hx, xs_len])
  clear hb1 hL hx CG
  have hBL := HBL.out
  by_cases g1 : s.size < 1
  · have HT := Lib.hid (no_put1 (d := d) (n := s.toList) (b := b) (by unfold putE; rw [if_pos (.inl (by have := str_len s; omega))]))
    have g1i : (s.size : Int) < 1 := by omega
    clear hBL
    go_wp2_with fail
    go_ret2
    exact fe_post HT.out.2.symm HB.out HL.out (HX.out.trans HT.out.1.symm)
  by_cases g2 : 16 < s.size
  · have HT := Lib.hid (no_put1 (d := d) (n := s.toList) (b := b) (by unfold putE; rw [if_pos (.inr (by have := str_len s; omega))]))
    have g2i : (16 : Int) < (s.size : Int) := by omega
    clear hBL
    go_wp2_with fail
    go_ret2
    exact fe_post HT.out.2.symm HB.out HL.out (HX.out.trans HT.out.1.symm)
  have g1i : ¬ (s.size : Int) < 1 := by omega
  have g2i : ¬ (16 : Int) < (s.size : Int) := by omega
  have HE := Lib.hid (getE_dat ls s.toList)
  have HD := Lib.hid (getE_fd HL.out.el s.toList)
  have CE := Lib.hid (fun W (h : Lies W W.heap.size 3 A ls.length (fc ls)) => get_any A c ls s W h (by have := HN.out; omega))
  have CS := Lib.hid (fun W (h : Lies W W.heap.size 3 A ls.length (fc ls)) => safe_any A c ls s W h (by have := HN.out; omega))
  rw [HX.out] at HE
  have HM := Lib.hid (show (getE ls s.toList).dat.length ≤ 20000 by rw [HE.out.1]; exact (HG.out.getLen _).1)
  have hBL := Lib.hid hBL
  generalize getE ls s.toList = m at HE HD CE CS HM
  obtain ⟨mn, md, ms, MA, mcp⟩ := m
  simp only at HE CE CS
  have hm20 : md.length ≤ 20000 := HM.out
  have hBL := hBL.out
  have HBX := Lib.hid hBL
  clear hBL
  go_wp2_with fail
  refine (has_any A c ls s _ HL.out.L (by have := HN.out; omega)).mono ?_
  rintro e w2 ⟨rfl, rfl⟩
  rw [HX.out]
  cases hh : hasF d s.toList with
  | false =>
    by_cases g3 : ls.length = 40
    · have HT := Lib.hid (no_put (d := d) (n := s.toList) (b := b) (by unfold putE; rw [if_neg (by have := str_len s; omega), if_pos (.inl ⟨hh, by rw [HLD.out]; exact g3⟩)]))
      have g3i : ((ls.length : Int) == 40) = true := by simp; omega
      clear hh g3
      go_wp2_with fail
      go_ret2
      exact fe_post HT.out.2.symm HB.out HL.out (HX.out.trans HT.out.1.symm)
    · have HAV := Lib.hid (show hasF d s.toList = true ∨ d.length ≠ 40 from .inr (by rw [HLD.out]; exact g3))
      have g3i : ((ls.length : Int) == 40) = false := by simp; omega
      clear hh
      by_cases g4 : 20000 < b.length
      · have HT := Lib.hid (no_put (d := d) (n := s.toList) (b := b) (by unfold putE; rw [if_neg (by have := str_len s; omega), if_pos (.inr (.inl g4))]))
        have g4i : (20000 : Int) < (b.length : Int) := by omega
        go_wp2_with fail
        go_ret2
        exact fe_post HT.out.2.symm HB.out HL.out (HX.out.trans HT.out.1.symm)
      · have g4i : ¬ (20000 : Int) < (b.length : Int) := by omega
        by_cases g5 : 20000 < md.length + b.length
        · have HT := Lib.hid (no_put (d := d) (n := s.toList) (b := b) (by unfold putE; rw [if_neg (by have := str_len s; omega), if_pos (.inr (.inr (by rw [← HE.out.1]; exact g5)))]))
          have g5i : (20000 : Int) < (md.length : Int) + (b.length : Int) := by omega
          go_wp2_with fail
          refine (CE.out _ HL.out.L).mono ?_
          rintro e w2 ⟨rfl, rfl⟩
          go_wp2_with fail
          go_ret2
          exact fe_post HT.out.2.symm HB.out HL.out (HX.out.trans HT.out.1.symm)
        · have HT := Lib.hid (yes_put (d := d) (n := s.toList) (b := b) (putE_of (by have := str_len s; omega) (by have := str_len s; omega) HAV.out (by rw [← HE.out.1]; omega)))
          have g5i : ¬ (20000 : Int) < (md.length : Int) + (b.length : Int) := by omega
          go_wp2_with fail
          refine (CE.out _ HL.out.L).mono ?_
          rintro e w2 ⟨rfl, rfl⟩
          go_wp2_with fail
          refine (CE.out _ ((HL.out.L).next (below_alloc _ _))).mono ?_
          rintro e w2 ⟨rfl, rfl⟩
          have HO1 := Lib.hid (own_empty w1 5 w1.heap.size (Nat.le_refl _))
          have HD1 := Lib.hid (HD.out.next (below_alloc w1 (.cells #[] 5)))
          have HZ1 := Lib.hid (show w1.heap.size ≤ (w1.alloc (.cells #[] 5)).heap.size by simp)
          go_wp2_with (at_builtin; go_must (refine wpList_app2 _ rfl (.tmp 45) (.tmp 48) 31 rfl w1.heap.size 5 iv _ 1 1 Try.underlying31 IV.out ZV.out SV.out BV.out rfl (by decide) (some ⟨w1.heap.size, 0, none⟩) 0 0 [] rfl HO1.out (w1.alloc (.cells #[] 5)).heap.size MA md.length mcp (bc md) rfl HD1.out.1 (bc_one _) md.length (bc md) (by omega) rfl (by unfold maxLen; omega) (by omega) HZ1.out ?_))
          intro A9 c9 w9 ho9 hb9 hg9
          have HO9 := Lib.hid ho9
          have HB9 := Lib.hid (show Below w1.heap.size w1 w9 from (below_alloc w1 (.cells #[] 5)).trans hb9)
          have HBL9 := Lib.hid ((HBX.out.next HB1.out).next HB9.out)
          clear ho9 hb9 hg9
          go_wp2_with (at_builtin; go_must (refine wpList_app2 _ rfl (.tmp 52) (.tmp 53) 31 rfl w1.heap.size 5 iv _ 1 1 Try.underlying31 IV.out ZV.out SV.out BV.out rfl (by decide) A9 md.length c9 (bc md) rfl HO9.out w9.heap.size BA b.length bcap (bc b) rfl HBL9.out (bc_one _) (md.length + b.length) (bc md ++ bc b) rfl rfl (by unfold maxLen; omega) (by omega) HB9.out.size ?_))
          intro A10 c10 w10 ho10 hb10 hg10
          have HB10 := Lib.hid (HB9.out.trans hb10)
          have HL10 := Lib.hid (HL.out.next HB10.out)
          have hl10 : (md ++ b).length = md.length + b.length := List.length_append
          have HFD := Lib.hid (show Fd w10 w10.heap.size ⟨s, md ++ b, ms, A10, c10⟩ from ⟨by show Lies _ _ _ _ (md ++ b).length (bc (md ++ b)); rw [hl10, bc_append]; exact Lies.of_own ho10, by show (md ++ b).length ≤ c10; rw [hl10]; exact own_cap ho10⟩)
          have CW := Lib.hid (with_any A c ls ⟨s, md ++ b, ms, A10, c10⟩ w10 HL10.out HFD.out (by have := HN.out; omega))
          simp only [hl10] at CW
          clear ho10 hb10 hg10 hl10
          go_wp2_with fail
          refine (CS.out _ HL10.out.L).mono ?_
          rintro e w11 ⟨rfl, rfl⟩
          go_wp2_with fail
          refine CW.out.mono ?_
          rintro e w2 ⟨hb2, A2, c2, l2, rfl, hL2, hx2⟩
          have HB2 := Lib.hid (below_then HB.out (below_then HB10.out hb2))
          have HL2 := Lib.hid hL2
          have HX2 := Lib.hid (show xs l2 = withF d ⟨s.toList, getF d s.toList ++ b, safeF d s.toList⟩ by rw [hx2, HX.out, ← HE.out.1, ← HE.out.2]; rfl)
          clear hb2 hL2 hx2
          go_wp2_with fail
          go_ret2
          exact fe_post HT.out.2.symm HB2.out HL2.out (HX2.out.trans HT.out.1.symm)
  | true =>
    have HAV := Lib.hid (show hasF d s.toList = true ∨ d.length ≠ 40 from .inl hh)
    clear hh
    by_cases g4 : 20000 < b.length
    · have HT := Lib.hid (no_put (d := d) (n := s.toList) (b := b) (by unfold putE; rw [if_neg (by have := str_len s; omega), if_pos (.inr (.inl g4))]))
      have g4i : (20000 : Int) < (b.length : Int) := by omega
      go_wp2_with fail
      go_ret2
      exact fe_post HT.out.2.symm HB.out HL.out (HX.out.trans HT.out.1.symm)
    · have g4i : ¬ (20000 : Int) < (b.length : Int) := by omega
      by_cases g5 : 20000 < md.length + b.length
      · have HT := Lib.hid (no_put (d := d) (n := s.toList) (b := b) (by unfold putE; rw [if_neg (by have := str_len s; omega), if_pos (.inr (.inr (by rw [← HE.out.1]; exact g5)))]))
        have g5i : (20000 : Int) < (md.length : Int) + (b.length : Int) := by omega
        go_wp2_with fail
        refine (CE.out _ HL.out.L).mono ?_
        rintro e w2 ⟨rfl, rfl⟩
        go_wp2_with fail
        go_ret2
        exact fe_post HT.out.2.symm HB.out HL.out (HX.out.trans HT.out.1.symm)
      · have HT := Lib.hid (yes_put (d := d) (n := s.toList) (b := b) (putE_of (by have := str_len s; omega) (by have := str_len s; omega) HAV.out (by rw [← HE.out.1]; omega)))
        have g5i : ¬ (20000 : Int) < (md.length : Int) + (b.length : Int) := by omega
        go_wp2_with fail
        refine (CE.out _ HL.out.L).mono ?_
        rintro e w2 ⟨rfl, rfl⟩
        go_wp2_with fail
        refine (CE.out _ ((HL.out.L).next (below_alloc _ _))).mono ?_
        rintro e w2 ⟨rfl, rfl⟩
        have HO1 := Lib.hid (own_empty w1 5 w1.heap.size (Nat.le_refl _))
        have HD1 := Lib.hid (HD.out.next (below_alloc w1 (.cells #[] 5)))
        have HZ1 := Lib.hid (show w1.heap.size ≤ (w1.alloc (.cells #[] 5)).heap.size by simp)
        go_wp2_with (at_builtin; go_must (refine wpList_app2 _ rfl (.tmp 45) (.tmp 48) 31 rfl w1.heap.size 5 iv _ 1 1 Try.underlying31 IV.out ZV.out SV.out BV.out rfl (by decide) (some ⟨w1.heap.size, 0, none⟩) 0 0 [] rfl HO1.out (w1.alloc (.cells #[] 5)).heap.size MA md.length mcp (bc md) rfl HD1.out.1 (bc_one _) md.length (bc md) (by omega) rfl (by unfold maxLen; omega) (by omega) HZ1.out ?_))
        intro A9 c9 w9 ho9 hb9 hg9
        have HO9 := Lib.hid ho9
        have HB9 := Lib.hid (show Below w1.heap.size w1 w9 from (below_alloc w1 (.cells #[] 5)).trans hb9)
        have HBL9 := Lib.hid ((HBX.out.next HB1.out).next HB9.out)
        clear ho9 hb9 hg9
        go_wp2_with (at_builtin; go_must (refine wpList_app2 _ rfl (.tmp 52) (.tmp 53) 31 rfl w1.heap.size 5 iv _ 1 1 Try.underlying31 IV.out ZV.out SV.out BV.out rfl (by decide) A9 md.length c9 (bc md) rfl HO9.out w9.heap.size BA b.length bcap (bc b) rfl HBL9.out (bc_one _) (md.length + b.length) (bc md ++ bc b) rfl rfl (by unfold maxLen; omega) (by omega) HB9.out.size ?_))
        intro A10 c10 w10 ho10 hb10 hg10
        have HB10 := Lib.hid (HB9.out.trans hb10)
        have HL10 := Lib.hid (HL.out.next HB10.out)
        have hl10 : (md ++ b).length = md.length + b.length := List.length_append
        have HFD := Lib.hid (show Fd w10 w10.heap.size ⟨s, md ++ b, ms, A10, c10⟩ from ⟨by show Lies _ _ _ _ (md ++ b).length (bc (md ++ b)); rw [hl10, bc_append]; exact Lies.of_own ho10, by show (md ++ b).length ≤ c10; rw [hl10]; exact own_cap ho10⟩)
        have CW := Lib.hid (with_any A c ls ⟨s, md ++ b, ms, A10, c10⟩ w10 HL10.out HFD.out (by have := HN.out; omega))
        simp only [hl10] at CW
        clear ho10 hb10 hg10 hl10
        go_wp2_with fail
        refine (CS.out _ HL10.out.L).mono ?_
        rintro e w11 ⟨rfl, rfl⟩
        go_wp2_with fail
        refine CW.out.mono ?_
        rintro e w2 ⟨hb2, A2, c2, l2, rfl, hL2, hx2⟩
        have HB2 := Lib.hid (below_then HB.out (below_then HB10.out hb2))
        have HL2 := Lib.hid hL2
        have HX2 := Lib.hid (show xs l2 = withF d ⟨s.toList, getF d s.toList ++ b, safeF d s.toList⟩ by rw [hx2, HX.out, ← HE.out.1, ← HE.out.2]; rfl)
        clear hb2 hL2 hx2
        go_wp2_with fail
        go_ret2
        exact fe_post HT.out.2.symm HB2.out HL2.out (HX2.out.trans HT.out.1.symm)
end Go.Proofs.Ytdpmlpclhojcjaa
