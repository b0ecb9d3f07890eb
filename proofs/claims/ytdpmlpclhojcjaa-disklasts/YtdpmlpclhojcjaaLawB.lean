import Derived.Test.YtdpmlpclhojcjaaDn
/-
  The walk of DiskLasts. No condition but that the lists have no more than can lie in memory.
-/
namespace Go.Proofs.Ytdpmlpclhojcjaa
open Go.ChangeShapes Go.WideShapes Go.ChangeAt Go.RowKit
set_option linter.unusedVariables false

def LaRel (l : List Fe) (w : World) (i : Value) (W : World) : Prop := ∃ k : Nat, i = .int .i64 k ∧ k ≤ l.length ∧ Hid (Below w.heap.size w W)
/-- What is left of a file, read beside it. -/
theorem left_of {l4 l5 : List Fe} {d : List Fl} {keep : List Int} (h4 : xs l4 = d) (h5 : xs l5 = crash d keep) (hd : Good d) (k : Nat) (hk : k < l4.length) (hl : l5.length = l4.length) :
    (fAt l5 k).nm.toList = (fAt l4 k).nm.toList ∧ (fAt l5 k).dat = (fAt l4 k).dat.take (fAt l5 k).dat.length ∧ (fAt l4 k).safe ≤ ((fAt l5 k).dat.length : Int) ∧ (fAt l5 k).dat.length ≤ (fAt l4 k).dat.length ∧ (fAt l4 k).dat.length ≤ 20000 := by
  have e4 : d[k]? = some (fAt l4 k).x := by rw [← h4]; unfold xs; rw [List.getElem?_map, List.getElem?_eq_getElem hk, fAt_get l4 k hk]; rfl
  have e5 : (crash d keep)[k]? = some (fAt l5 k).x := by rw [← h5]; unfold xs; rw [List.getElem?_map, List.getElem?_eq_getElem (by omega), fAt_get l5 k (by omega)]; rfl
  rw [crash_at, e4, Option.map_some] at e5
  injection e5 with e5
  have hok : okF (fAt l4 k).x := hd.ok _ (List.mem_of_getElem? e4)
  have h1 := left_in hok (keep[k]?.getD 0)
  generalize keep[k]?.getD 0 = x at *
  have hn : (fAt l5 k).nm.toList = (fAt l4 k).nm.toList := (congrArg Fl.name e5).symm
  have hdt : (fAt l5 k).dat = (fAt l4 k).dat.take (left (fAt l4 k).x x) := (congrArg Fl.data e5).symm
  have hlen : (fAt l5 k).dat.length = left (fAt l4 k).x x := by rw [hdt, List.length_take]; have := h1.2; simp only [Fe.x] at this ⊢; omega
  exact ⟨hn, by rw [hlen]; exact hdt, by rw [hlen]; exact h1.1, by rw [hlen]; exact h1.2, hok.2.2.1⟩
set_option maxHeartbeats 8000000 in
theorem lasts_walk (A : Option Addr) (c : Nat) (ls : List Fe) (KA : Option Addr) (kc : Nat) (ke : List Int) (GA : Option Addr) (gc : Nat) (ag : List Int) (w : World) (hA : Fls w w.heap.size A c ls) (hK : Lies w w.heap.size 1 KA ke.length (vc ke)) (hG : Lies w w.heap.size 1 GA ag.length (vc ag)) (mk : ke.length ≤ maxLen) (mg : ag.length ≤ maxLen)
    (bk : ∀ x ∈ ke, -9223372036854775808 ≤ x ∧ x ≤ 9223372036854775807) (bg : ∀ x ∈ ag, -9223372036854775808 ≤ x ∧ x ≤ 9223372036854775807) :
    Calls Try.prog 5 #[.agg #[.slice A ls.length c], .slice KA ke.length kc, .slice GA ag.length gc] w fun e w' => e = .returned (.bool true) ∧ Below w.heap.size w w' := by
  have mk63 : ke.length ≤ 9223372036854775807 := mk
  have mg63 : ag.length ≤ 9223372036854775807 := mg
  have HBK := Lib.hid bk
  have HBG := Lib.hid bg
  have HKK := Lib.hid (fun W (h : Below w.heap.size w W) => (hK.below h).more h.size)
  have HGG := Lib.hid (fun W (h : Below w.heap.size w W) => (hG.below h).more h.size)
  clear mk mg bk bg hK hG
  have HD0 := Lib.hid (Dx.arg hA)
  clear hA
  go_enter Try.func5, Try.ntmps5
  go_upto_region 1 with fail
  generalize w.alloc (.cells #[.slice A ls.length c] 24) = w1 at HD0 ⊢
  generalize hbx : w.heap.size = bx at HD0 ⊢
  have HBX := Lib.hid hbx
  clear hbx
  have z0 := HD0.out.c0
  go_wp2_with fail
  refine (great_any A c ls w1 HD0.out.L.L).mono ?_
  rintro e w2 ⟨rfl, hb2⟩
  have HD := Lib.hid (HD0.out.next hb2)
  clear hb2 z0 HD0
  cases hg : grtB ls with
  | true =>
    go_wp2_with fail
    refine (knows_any _).mono ?_
    rintro e w99 ⟨rfl, hb99⟩
    have HB99 := Lib.hid (below_then HD.out.bl hb99)
    clear hb99
    go_wp2_with fail
    go_ret
    exact ⟨rfl, HB99.out⟩
  | false =>
    by_cases hs1 : 100 < ke.length
    · have hs1i : (100 : Int) < (ke.length : Int) := by omega
      go_wp2_with fail
      refine (knows_any _).mono ?_
      rintro e w99 ⟨rfl, hb99⟩
      have HB99 := Lib.hid (below_then HD.out.bl hb99)
      clear hb99
      go_wp2_with fail
      go_ret
      exact ⟨rfl, HB99.out⟩
    · have hs1i : ¬ (100 : Int) < (ke.length : Int) := by omega
      by_cases hs2 : 100 < ag.length
      · have hs2i : (100 : Int) < (ag.length : Int) := by omega
        go_wp2_with fail
        refine (knows_any _).mono ?_
        rintro e w99 ⟨rfl, hb99⟩
        have HB99 := Lib.hid (below_then HD.out.bl hb99)
        clear hb99
        go_wp2_with fail
        go_ret
        exact ⟨rfl, HB99.out⟩
      · have hs2i : ¬ (100 : Int) < (ag.length : Int) := by omega
        have HM := Lib.hid (mod_few hg)
        have z0 := HD.out.c0
        go_wp2_with fail
        refine (as_any A c ls w2 HD.out.L (by have := HM.out.n; omega)).mono ?_
        rintro e w3 ⟨hb3, A3, c3, l3, rfl, hL3, hx3⟩
        have HD3 := Lib.hid (HD.out.next hb3)
        have HL3 := Lib.hid hL3
        have HX3 := Lib.hid hx3
        have HN3 := Lib.hid (show l3.length ≤ 1000 by have := congrArg List.length hx3; rw [xs_len, xs_len] at this; have := HM.out.n; omega)
        clear hb3 hL3 hx3 z0
        go_wp2_with fail
        refine (good_any A3 c3 l3 w3 HL3.out (by have := HN3.out; omega)).mono ?_
        rintro e w4 ⟨hb4, A4, c4, l4, rfl, hL4, hx4⟩
        rw [HX3.out] at hx4
        have HD4 := Lib.hid (HD3.out.next hb4)
        have HL4 := Lib.hid hL4
        have HGD := Lib.hid (goodOf_good (xs ls))
        have CCR := Lib.hid (fun W (h : Fls W W.heap.size A c ls) (h2 : Lies W W.heap.size 1 KA ke.length (vc ke)) => dcrash_any A c ls W h HM.out KA kc ke h2 (by omega) HBK.out)
        generalize goodOf (xs ls) = d at *
        have HX4 := Lib.hid hx4
        have hn4 : l4.length ≤ 40 := by have := HGD.out.len; rw [← hx4, xs_len] at this; exact this
        clear hb4 hL4 hx4 HL3 HX3 HN3 HD3
        have z0 := HD4.out.c0
        go_wp2_with fail
        refine (CCR.out w4 HD4.out.L (HKK.out _ HD4.out.bl)).mono ?_
        rintro e w5 ⟨hb5, A5, c5, l5, rfl, hL5, hx5⟩
        have HD5 := Lib.hid (HD4.out.next hb5)
        have HLW := Lib.hid (HL4.out.next hb5)
        have HC5 := Lib.hid (Dx.new HD5.out.bl hL5)
        have HX5 := Lib.hid hx5
        have HG5 := Lib.hid (show Good (xs l5) by rw [hx5]; exact HGD.out.crash _)
        have HL5 := Lib.hid (show l5.length = l4.length by have := congrArg List.length hx5; rw [xs_len, crash_len, ← HX4.out, xs_len] at this; exact this)
        have HLX := Lib.hid (HLW.out.next (below_alloc w5 (.cells #[.slice A5 l5.length c5] 24)))
        clear hb5 hL5 hx5 z0 HD4 HL4 CCR
        go_upto_region 5 with fail
        generalize w5.alloc (.cells #[.slice A5 l5.length c5] 24) = w6 at HC5 HLX ⊢
        generalize w5.heap.size = by5 at HC5 ⊢
        have hne : ((l5.length : Int) != (l4.length : Int)) = false := by have := HL5.out; simp; omega
        have z0 := HC5.out.c0
        go_wp2_with fail
        refine (dright_any A5 c5 l5 w6 HC5.out.L (mod_good HG5.out)).mono ?_
        rintro e w7 ⟨rfl, hb7⟩
        have HC7 := Lib.hid (HC5.out.next hb7)
        have HL7 := Lib.hid (HLX.out.next hb7)
        rw [(goodB_iff _).2 HG5.out]
        clear hb7 z0 HC5 HLX
        go_wp2_with fail
        go_loopw [9, 10] (fun i _ W => LaRel l4 w7 i W) (fun i _ W => l4.length - (intOf i).toNat)
        case atStart => exact ⟨0, rfl, Nat.zero_le _, Lib.hid (Below.refl _ _)⟩
        case round =>
          obtain ⟨k, rfl, hk, HW⟩ := hrel
          have HCW := Lib.hid (HC7.out.next HW.out)
          have HLW := Lib.hid (HL7.out.next HW.out)
          have z0 := HCW.out.c0
          by_cases hlt : k < l4.length
          · have h5 : k < l5.length := by rw [HL5.out]; exact hlt
            obtain ⟨ad, rfl, hadb, e0, e1, e2⟩ := HCW.out.L.L.fe k h5
            obtain ⟨ad', rfl, hadb', f0, f1, f2⟩ := HLW.out.L.fe k hlt
            have hkl : (k : Int) < (l4.length : Int) := by omega
            have hkl5 : (k : Int) < (l5.length : Int) := by omega
            obtain ⟨h1, h2, h3, h4, h6⟩ := left_of HX4.out HX5.out HGD.out k hlt HL5.out
            have HFA := Lib.hid (HCW.out.L.at k h5)
            have HFB := Lib.hid (HLW.out.at k hlt)
            generalize fAt l5 k = m at *
            generalize fAt l4 k = m' at *
            obtain ⟨nm, dat, sf, DA, dc⟩ := m
            obtain ⟨nm', dat', sf', DA', dc'⟩ := m'
            simp only at e0 e1 e2 f0 f1 f2 h1 h2 h3 h4 h6
            obtain ⟨A', hcut, hLc⟩ := cut_h Try.under31 Try.size31 DA' dat'.length dc' dat.length (dat.length : Int) .i64 rfl h4 HFB.out.2
            have K1 : ∀ q, (convert 31 9 (.slice DA dat.length dc)).run Try.prog (wr.drewN q) = .ok (.string ⟨dat.toArray⟩) (wr.drewN q) := fun q => run_str _ _ 31 9 5 _ _ _ _ Try.underlying31 Try.underlying5 Try.underlying9 (HFA.out.1.drewN q)
            have K2 : ∀ q, (convert 31 9 (.slice A' dat.length dc')).run Try.prog (wr.drewN q) = .ok (.string ⟨dat.toArray⟩) (wr.drewN q) := fun q => by
              have h := run_str (P := Try.prog) (wr.drewN q) _ 31 9 5 A' dat.length dc' (dat'.take dat.length) Try.underlying31 Try.underlying5 Try.underlying9 (by have := hLc _ _ _ (HFB.out.1.drewN q); rw [bc_take] at this; exact this)
              rw [← h2] at h
              exact h
            have he : (nm.toList == nm'.toList) = true := by simpa using h1
            have g3 := decide_eq_false (show ¬ (dat.length : Int) < sf' by omega)
            have g4 := decide_eq_false (show ¬ (dat'.length : Int) < (dat.length : Int) by omega)
            have h4i : (dat.length : Int) ≤ (dat'.length : Int) := by omega
            have HLEN := Lib.hid h6
            clear h1 h2 hLc h3 e2 h6
            go_upto_region 11 with fail
            go_quiet (fail)
            go_wp2_with fail
            go_roundw
            case rel => exact ⟨k + 1, by go_num, by omega, Lib.hid (below_to_drewN HW.out _)⟩
            case measure => simp [intOf]; omega
          · have hk' : k = l4.length := by omega
            subst hk'
            clear z0
            obtain ⟨wo, hwo⟩ : ∃ wo : World, wo = wr := ⟨_, rfl⟩
            rw [← hwo] at HCW HLW HW
            rw [← hwo]
            clear hwo
            have HF := Lib.hid (show ∀ W : World, Below wo.heap.size wo W → W.cell? ⟨by5, 0, none⟩ = some (.slice A5 l5.length c5) ∧ Below wo.heap.size wo W from fun W hb => ⟨(HCW.out.next hb).c0, hb⟩)
            have CC := Lib.hid (fun (W : World) (hb : Below wo.heap.size wo W) => (show Calls Try.prog 23 #[.agg #[.slice A5 l5.length c5], .slice GA ag.length gc] W (DkPost (xs l5) W) by
              have h := dcrash_any A5 c5 l5 W (HCW.out.next hb).L (mod_good HG5.out) GA gc ag (HGG.out W (HCW.out.next hb).bl) (by omega) HBG.out
              rw [goodOf_self HG5.out, show crash (xs l5) ag = xs l5 by rw [HX5.out]; exact crash_again _ _ _] at h
              exact h))
            have CA := Lib.hid (fun (W : World) (hb : Below wo.heap.size wo W) => as_any A5 c5 l5 W (HCW.out.next hb).L (by have := HL5.out; omega))
            have CB := Lib.hid (fun (X : Option Addr) (xc : Nat) (lx : List Fe) (W : World) (h : Fls W W.heap.size X xc lx) (hx : xs lx = xs l5) => as_any X xc lx W h (by have := congrArg List.length hx; rw [xs_len, xs_len] at this; have := HL5.out; omega))
            have CS := Lib.hid (fun (X : Option Addr) (xc : Nat) (lx : List Fe) (Y : Option Addr) (yc : Nat) (ly : List Fe) (W : World) (h : Fls W W.heap.size X xc lx) (hx : xs lx = xs l5) (h2 : Fls W W.heap.size Y yc ly) (hy : xs ly = xs l5) => (show Calls Try.prog 17 #[.slice X lx.length xc, .slice Y ly.length yc] W fun e w' => e = .returned (.bool true) ∧ Below W.heap.size W w' by
              have h := same_any X xc lx Y yc ly W h h2 (by have := congrArg List.length hx; rw [xs_len, xs_len] at this; have := HL5.out; omega) (by have := congrArg List.length hy; rw [xs_len, xs_len] at this; have := HL5.out; omega)
              rw [decide_eq_true (hx.trans hy.symm)] at h
              exact h))
            have HBO := Lib.hid HCW.out.bl
            have q1 := HF.out wo.drew (Below.refl _ _).drew
            go_upto_region 13 with fail
            go_region_held3 (fun w' => w'.cell? ⟨by5, 0, none⟩ = some (.slice A5 l5.length c5) ∧ Below wo.heap.size wo w')
              (exact q1)
              (first | ((go_at_call 23); (with_reducible refine (CC.out _ q1.2).mono ?_); rintro e w9 ⟨hb9, X9, x9, l9, rfl, hL9, hx9⟩; have K1 := Lib.hid hL9; have X1 := Lib.hid hx9; have q1 := HF.out w9 (q1.2.trans (hb9.mono q1.2.size)); clear hb9 hL9 hx9) | ((go_at_call 11); (with_reducible refine (CA.out _ q1.2).mono ?_); rintro e w9 ⟨hb9, Y9, y9, m9, rfl, hL9, hx9⟩; have K3 := Lib.hid hL9; have X3 := Lib.hid hx9; have K2 := Lib.hid (K2.out.next hb9); have q1 := HF.out w9 (q1.2.trans (hb9.mono q1.2.size)); clear hb9 hL9 hx9) | ((go_at_call 11); (with_reducible refine (CB.out _ _ _ _ K1.out X1.out).mono ?_); rintro e w9 ⟨hb9, Z9, z9, n9, rfl, hL9, hx9⟩; have K2 := Lib.hid hL9; have X2 := Lib.hid (hx9.trans X1.out); have q1 := HF.out w9 (q1.2.trans (hb9.mono q1.2.size)); clear hb9 hL9 hx9) | ((go_at_call 17); (with_reducible refine (CS.out _ _ _ _ _ _ _ K2.out X2.out K3.out X3.out).mono ?_); rintro e w9 ⟨rfl, hb9⟩; have q1 := HF.out w9 (q1.2.trans (hb9.mono q1.2.size)); clear hb9) | ((go_at_call 10); (with_reducible refine (knows_any _).mono ?_); rintro e w9 ⟨rfl, hb9⟩; have q1 := HF.out w9 (q1.2.trans (hb9.mono q1.2.size)); clear hb9))
            all_goals
              go_wp2_with fail
              go_ret
              exact ⟨rfl, below_then HBO.out q1.2⟩
end Go.Proofs.Ytdpmlpclhojcjaa
