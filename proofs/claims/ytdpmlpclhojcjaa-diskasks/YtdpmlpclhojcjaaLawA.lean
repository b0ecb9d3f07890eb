import Derived.Test.YtdpmlpclhojcjaaDn
/-
  The walk of DiskAsks. No condition but that the lists have no more than can lie in memory.
-/
namespace Go.Proofs.Ytdpmlpclhojcjaa
open Go.ChangeShapes Go.WideShapes Go.ChangeAt Go.RowKit
set_option linter.unusedVariables false

theorem nm_at {ns : List ByteArray} {l : List Fe} (h : ns.map ByteArray.toList = (xs l).map Fl.name) (k : Nat) (hk : k < l.length) : ∃ s, (ns.map Value.string)[k]? = some (.string s) ∧ s.toList = (fAt l k).nm.toList := by
  have h2 := congrArg (fun l => l[k]?) h
  simp only [List.getElem?_map] at h2
  have e : (xs l)[k]? = some (fAt l k).x := by unfold xs; rw [List.getElem?_map, List.getElem?_eq_getElem hk, fAt_get l k hk]; rfl
  rw [e] at h2
  cases hn : ns[k]? with
  | none => rw [hn] at h2; simp at h2
  | some s =>
    rw [hn] at h2
    simp [Fe.x] at h2
    exact ⟨s, by rw [List.getElem?_map, hn]; rfl, h2⟩
def NaRel (l : List Fe) (w : World) (i : Value) (W : World) : Prop := ∃ k : Nat, i = .int .i64 k ∧ k ≤ l.length ∧ Hid (Below w.heap.size w W)
set_option maxHeartbeats 8000000 in
theorem asks_walk (A : Option Addr) (c : Nat) (ls : List Fe) (s : ByteArray) (w : World) (hA : Fls w w.heap.size A c ls) (hs : s.size ≤ maxLen) :
    Calls Try.prog 4 #[.agg #[.slice A ls.length c], .string s] w fun e w' => e = .returned (.bool true) ∧ Below w.heap.size w w' := by
  have hs63 : s.size ≤ 9223372036854775807 := hs
  clear hs
  have HD0 := Lib.hid (Dx.arg hA)
  clear hA
  go_enter Try.func4, Try.ntmps4
  go_upto_region 1 with fail
  generalize w.alloc (.cells #[.slice A ls.length c] 24) = w1 at HD0 ⊢
  generalize hbx : w.heap.size = bx at HD0 ⊢
  have HBX := Lib.hid hbx
  clear hbx
  have z0 := HD0.out.c0
  go_wp2_with fail
  refine (great_any A c ls w1 HD0.out.L.L).mono ?_
  rintro e w2 ⟨rfl, hb2⟩
  have HD := Lib.hid (HD0.out.next hb2)
  clear hb2 z0 HD0
  cases hg : grtB ls with
  | true =>
    go_wp2_with fail
    refine (knows_any _).mono ?_
    rintro e w99 ⟨rfl, hb99⟩
    have HB99 := Lib.hid (below_then HD.out.bl hb99)
    clear hb99
    go_wp2_with fail
    go_ret
    exact ⟨rfl, HB99.out⟩
  | false =>
    by_cases hs1 : 100 < s.size
    · have hs1i : (100 : Int) < (s.size : Int) := by omega
      go_wp2_with fail
      refine (knows_any _).mono ?_
      rintro e w99 ⟨rfl, hb99⟩
      have HB99 := Lib.hid (below_then HD.out.bl hb99)
      clear hb99
      go_wp2_with fail
      go_ret
      exact ⟨rfl, HB99.out⟩
    · have hs1i : ¬ (100 : Int) < (s.size : Int) := by omega
      have HM := Lib.hid (mod_few hg)
      have z0 := HD.out.c0
      go_wp2_with fail
      refine (as_any A c ls w2 HD.out.L (by have := HM.out.n; omega)).mono ?_
      rintro e w3 ⟨hb3, A3, c3, l3, rfl, hL3, hx3⟩
      have HD3 := Lib.hid (HD.out.next hb3)
      have HL3 := Lib.hid hL3
      have HX3 := Lib.hid hx3
      have HN3 := Lib.hid (show l3.length ≤ 1000 by have := congrArg List.length hx3; rw [xs_len, xs_len] at this; have := HM.out.n; omega)
      clear hb3 hL3 hx3 z0
      go_wp2_with fail
      refine (good_any A3 c3 l3 w3 HL3.out (by have := HN3.out; omega)).mono ?_
      rintro e w4 ⟨hb4, A4, c4, l4, rfl, hL4, hx4⟩
      rw [HX3.out] at hx4
      have HD4 := Lib.hid (HD3.out.next hb4)
      have HL4 := Lib.hid hL4
      have HGD := Lib.hid (goodOf_good (xs ls))
      have CGET := Lib.hid (fun W (h : Fls W W.heap.size A c ls) => dget_any A c ls W h HM.out s (by omega))
      have CNAM := Lib.hid (fun W (h : Fls W W.heap.size A c ls) => dnames_any A c ls W h HM.out)
      generalize goodOf (xs ls) = d at *
      have HX4 := Lib.hid hx4
      have hn4 : l4.length ≤ 40 := by have := HGD.out.len; rw [← hx4, xs_len] at this; exact this
      clear hb4 hL4 hx4 HL3 HX3 HN3 HD3
      have z0 := HD4.out.c0
      go_wp2_with fail
      refine (CGET.out w4 HD4.out.L).mono ?_
      rintro e w5 ⟨hb5, G, gc, b, rfl, hbe, hl5⟩
      have HD5 := Lib.hid (HD4.out.next hb5)
      have HL5 := Lib.hid (HL4.out.next hb5)
      have HGL := Lib.hid hl5
      have HGB := Lib.hid hbe
      have HE := Lib.hid (getE_dat l4 s.toList)
      have HEF := Lib.hid (getE_fd HL5.out.el s.toList)
      have CH := Lib.hid (fun (q : Nat) => quiet_left (n := q) (has_any A4 c4 l4 s (w5.drewN q) (HL5.out.L.drewN q) (by omega)))
      have CE := Lib.hid (fun (q : Nat) => quiet_left (n := q) (get_any A4 c4 l4 s (w5.drewN q) (HL5.out.L.drewN q) (by omega)))
      rw [HX4.out] at HE CH
      have HBE := Lib.hid (show (getE l4 s.toList).dat = b by rw [HE.out.1, HGB.out])
      generalize getE l4 s.toList = m at HE HEF CE HBE
      obtain ⟨mn, md, ms, MA, mcp⟩ := m
      simp only at HE CE HBE
      have HK2 := HBE.out
      have K1 : ∀ q, (convert 31 9 (.slice G b.length gc)).run Try.prog (w5.drewN q) = .ok (.string ⟨b.toArray⟩) (w5.drewN q) := fun q => run_str _ _ 31 9 5 _ _ _ _ Try.underlying31 Try.underlying5 Try.underlying9 (HGL.out.drewN q)
      have K2 : ∀ q, (convert 31 9 (.slice MA md.length mcp)).run Try.prog (w5.drewN q) = .ok (.string ⟨b.toArray⟩) (w5.drewN q) := fun q => by
        have h := run_str (P := Try.prog) (w5.drewN q) _ 31 9 5 MA md.length mcp md Try.underlying31 Try.underlying5 Try.underlying9 (HEF.out.1.drewN q)
        rw [HBE.out] at h
        rw [HBE.out]
        exact h
      have SE := Lib.hid (show syncE d s.toList = if hasF d s.toList then 0 else 4 from rfl)
      generalize syncE d s.toList = E at *
      generalize hasF d s.toList = hh at *
      clear hb5 hbe hl5 z0 HK2
      cases hh with
      | true =>
        obtain rfl : E = 0 := SE.out
        go_upto_region 5 with fail
        go_quiet (first | (go_at_call 20; exact CH.out _) | (go_at_call 21; exact CE.out _))
        have HD6 := Lib.hid (HD5.out.next (below_to_drewN (Below.refl _ w5) nq))
        have HL6 := Lib.hid (HL5.out.next (below_to_drewN (Below.refl _ w5) nq))
        generalize w5.drewN nq = w6 at HD6 HL6 ⊢
        clear K1 K2
        have z0 := HD6.out.c0
        go_wp2_with fail
        refine (CNAM.out w6 HD6.out.L).mono ?_
        rintro e w7 ⟨hb7, NA, nc, ns, rfl, hns, hl7⟩
        have HD7 := Lib.hid (HD6.out.next hb7)
        have HL7 := Lib.hid (HL6.out.next hb7)
        have HNL := Lib.hid hl7
        rw [← HX4.out] at hns
        have HNS := Lib.hid hns
        have hnl : ns.length = l4.length := by have := congrArg List.length hns; rwa [List.length_map, List.length_map, xs_len] at this
        rw [hnl] at HNL ⊢
        clear hb7 hns hl7 z0 hnl HD5 HL5 HD6 HL6
        go_wp2_with fail
        go_loopw [9] (fun i W => NaRel l4 w7 i W) (fun i W => l4.length - (intOf i).toNat)
        case atStart => exact ⟨0, rfl, Nat.zero_le _, Lib.hid (Below.refl _ _)⟩
        case round =>
          obtain ⟨k, rfl, hk, HW⟩ := hrel
          by_cases hlt : k < l4.length
          · obtain ⟨nm, hn1, hn2⟩ := nm_at HNS.out k hlt
            obtain ⟨ad, rfl, hadb, e0⟩ := (HNL.out.below HW.out).2 k _ hn1
            obtain ⟨ad', rfl, hadb', f0, f1, f2⟩ := (HL7.out.L.below HW.out).fe k hlt
            have hkl : (k : Int) < (l4.length : Int) := by omega
            have he : (nm.toList == (fAt l4 k).nm.toList) = true := by simpa using hn2
            clear hn1 hn2 f1 f2
            go_upto_region 13 with fail
            go_quiet (fail)
            go_wp2_with fail
            go_roundw
            case rel => exact ⟨k + 1, by go_num, by omega, Lib.hid (below_to_drewN HW.out _)⟩
            case measure => simp [intOf]; omega
          · have hk' : k = l4.length := by omega
            subst hk'
            have HDW := Lib.hid (HD7.out.next HW.out)
            go_wp2_with fail
            refine (knows_any _).mono ?_
            rintro e w99 ⟨rfl, hb99⟩
            have HB99 := Lib.hid (below_then HDW.out.bl hb99)
            clear hb99
            go_wp2_with fail
            go_ret
            exact ⟨rfl, HB99.out⟩
      | false =>
        obtain rfl : E = 4 := SE.out
        go_upto_region 5 with fail
        go_quiet (first | (go_at_call 20; exact CH.out _) | (go_at_call 21; exact CE.out _))
        have HD6 := Lib.hid (HD5.out.next (below_to_drewN (Below.refl _ w5) nq))
        have HL6 := Lib.hid (HL5.out.next (below_to_drewN (Below.refl _ w5) nq))
        generalize w5.drewN nq = w6 at HD6 HL6 ⊢
        clear K1 K2
        have z0 := HD6.out.c0
        go_wp2_with fail
        refine (CNAM.out w6 HD6.out.L).mono ?_
        rintro e w7 ⟨hb7, NA, nc, ns, rfl, hns, hl7⟩
        have HD7 := Lib.hid (HD6.out.next hb7)
        have HL7 := Lib.hid (HL6.out.next hb7)
        have HNL := Lib.hid hl7
        rw [← HX4.out] at hns
        have HNS := Lib.hid hns
        have hnl : ns.length = l4.length := by have := congrArg List.length hns; rwa [List.length_map, List.length_map, xs_len] at this
        rw [hnl] at HNL ⊢
        clear hb7 hns hl7 z0 hnl HD5 HL5 HD6 HL6
        go_wp2_with fail
        go_loopw [9] (fun i W => NaRel l4 w7 i W) (fun i W => l4.length - (intOf i).toNat)
        case atStart => exact ⟨0, rfl, Nat.zero_le _, Lib.hid (Below.refl _ _)⟩
        case round =>
          obtain ⟨k, rfl, hk, HW⟩ := hrel
          by_cases hlt : k < l4.length
          · obtain ⟨nm, hn1, hn2⟩ := nm_at HNS.out k hlt
            obtain ⟨ad, rfl, hadb, e0⟩ := (HNL.out.below HW.out).2 k _ hn1
            obtain ⟨ad', rfl, hadb', f0, f1, f2⟩ := (HL7.out.L.below HW.out).fe k hlt
            have hkl : (k : Int) < (l4.length : Int) := by omega
            have he : (nm.toList == (fAt l4 k).nm.toList) = true := by simpa using hn2
            clear hn1 hn2 f1 f2
            go_upto_region 13 with fail
            go_quiet (fail)
            go_wp2_with fail
            go_roundw
            case rel => exact ⟨k + 1, by go_num, by omega, Lib.hid (below_to_drewN HW.out _)⟩
            case measure => simp [intOf]; omega
          · have hk' : k = l4.length := by omega
            subst hk'
            have HDW := Lib.hid (HD7.out.next HW.out)
            go_wp2_with fail
            refine (knows_any _).mono ?_
            rintro e w99 ⟨rfl, hb99⟩
            have HB99 := Lib.hid (below_then HDW.out.bl hb99)
            clear hb99
            go_wp2_with fail
            go_ret
            exact ⟨rfl, HB99.out⟩
end Go.Proofs.Ytdpmlpclhojcjaa
