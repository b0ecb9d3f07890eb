import Derived.Test.YtdpmlpclhojcjaaDq
/-
  The walk of DiskCutsOff. No condition but that the lists have no more than can lie in memory.
-/
namespace Go.Proofs.Ytdpmlpclhojcjaa
open Go.ChangeShapes Go.WideShapes Go.ChangeAt Go.RowKit
set_option linter.unusedVariables false

set_option maxRecDepth 100000 in
set_option maxHeartbeats 8000000 in
theorem cuts_walk (A : Option Addr) (c : Nat) (ls : List Fe) (s : ByteArray) (n : Int) (BA : Option Addr) (bcap : Nat) (b : List UInt8) (KA : Option Addr) (kc : Nat) (ke : List Int) (w : World) (hA : Fls w w.heap.size A c ls) (hB : Lies w w.heap.size 1 BA b.length (bc b)) (hK : Lies w w.heap.size 1 KA ke.length (vc ke)) (hs : s.size ≤ maxLen) (mb : b.length ≤ maxLen) (mk : ke.length ≤ maxLen)
    (n1 : -9223372036854775808 ≤ n ∧ n ≤ 9223372036854775807) (bk : ∀ x ∈ ke, -9223372036854775808 ≤ x ∧ x ≤ 9223372036854775807) :
    Calls Try.prog 8 #[.agg #[.slice A ls.length c], .string s, .int .i64 n, .slice BA b.length bcap, .slice KA ke.length kc] w fun e w' => e = .returned (.bool true) ∧ Below w.heap.size w w' := by
  have hs63 : s.size ≤ 9223372036854775807 := hs
  have mb63 : b.length ≤ 9223372036854775807 := mb
  have mk63 : ke.length ≤ 9223372036854775807 := mk
  have HI := Lib.hid n1
  have HBK := Lib.hid bk
  have HBB := Lib.hid (fun W (h : Below w.heap.size w W) => (hB.below h).more h.size)
  have HKK := Lib.hid (fun W (h : Below w.heap.size w W) => (hK.below h).more h.size)
  clear hs mb mk hB hK n1 bk
  obtain ⟨jv, hjv, hzv, hzsv, hzbv⟩ := info_parts (show (Try.prog.info? 5).map (fun i => (i.zero, i.size, i.bytes)) = some (some (.int .u8 0), 1, 1) by kernel_rfl)
  have JV := Lib.hid hjv
  have ZJ := Lib.hid hzv
  have SJ := Lib.hid hzsv
  have BJ := Lib.hid hzbv
  clear hjv hzv hzsv hzbv
  have HD0 := Lib.hid (Dx.arg hA)
  clear hA
  go_enter Try.func8, Try.ntmps8
  go_upto_region 1 with fail
  generalize w.alloc (.cells #[.slice A ls.length c] 24) = w1 at HD0 ⊢
  generalize hbx : w.heap.size = bx at HD0 ⊢
  have HBX := Lib.hid hbx
  clear hbx
  have z0 := HD0.out.c0
  go_wp2_with fail
  refine (great_any A c ls w1 HD0.out.L.L).mono ?_
  rintro e w2 ⟨rfl, hb2⟩
  have HD := Lib.hid (HD0.out.next hb2)
  clear hb2 z0 HD0
  cases hg : grtB ls with
  | true =>
    go_wp2_with fail
    refine (knows_any _).mono ?_
    rintro e w99 ⟨rfl, hb99⟩
    have HB99 := Lib.hid (below_then HD.out.bl hb99)
    clear hb99
    go_wp2_with fail
    go_ret
    exact ⟨rfl, HB99.out⟩
  | false =>
    have HM := Lib.hid (mod_few hg)
    clear hg
    by_cases hs1 : 100 < s.size
    · have hs1i : (100 : Int) < (s.size : Int) := by omega
      go_wp2_with fail
      refine (knows_any _).mono ?_
      rintro e w99 ⟨rfl, hb99⟩
      have HB99 := Lib.hid (below_then HD.out.bl hb99)
      clear hb99
      go_wp2_with fail
      go_ret
      exact ⟨rfl, HB99.out⟩
    have hs1i : ¬ (100 : Int) < (s.size : Int) := by omega
    by_cases hs2 : 10000 < b.length
    · have hs2i : (10000 : Int) < (b.length : Int) := by omega
      go_wp2_with fail
      refine (knows_any _).mono ?_
      rintro e w99 ⟨rfl, hb99⟩
      have HB99 := Lib.hid (below_then HD.out.bl hb99)
      clear hb99
      go_wp2_with fail
      go_ret
      exact ⟨rfl, HB99.out⟩
    have hs2i : ¬ (10000 : Int) < (b.length : Int) := by omega
    by_cases hs3 : 100 < ke.length
    · have hs3i : (100 : Int) < (ke.length : Int) := by omega
      go_wp2_with fail
      refine (knows_any _).mono ?_
      rintro e w99 ⟨rfl, hb99⟩
      have HB99 := Lib.hid (below_then HD.out.bl hb99)
      clear hb99
      go_wp2_with fail
      go_ret
      exact ⟨rfl, HB99.out⟩
    have hs3i : ¬ (100 : Int) < (ke.length : Int) := by omega
    have HSB := Lib.hid (show s.size ≤ 100000 ∧ b.length ≤ 10000 ∧ ke.length ≤ 100 by omega)
    have z0 := HD.out.c0
    go_wp2_with fail
    refine (dgetc_any A c ls w2 HD.out.L HM.out s HSB.out.1).mono ?_
    rintro e w3 ⟨hb3, G, gc, gb, rfl, hgb, hgl, hgc⟩
    have HGC := Lib.hid hgc
    have HD3 := Lib.hid (HD.out.next hb3)
    have HGB := Lib.hid hgb
    have HGL3 := Lib.hid hgl
    have HGD := Lib.hid (goodOf_good (xs ls))
    clear hb3 hgb hgl hgc z0 HD hs1 hs2 hs3
    have CC := Lib.hid (dcut_any A c ls w3 HD3.out.L HM.out s HSB.out.1 n HI.out.1 HI.out.2)
    have CD := Lib.hid (fun (W : World) (hL : Fls W W.heap.size A c ls) => ddrop_any A c ls W hL HM.out s HSB.out.1)
    generalize goodOf (xs ls) = d at *
    have HD1 := Lib.hid (HGD.out.cut s.toList n)
    have HCE := Lib.hid (show syncE d s.toList = 0 ∨ cutE d s.toList n = 4 ∧ dropE d s.toList = 4 from by
      unfold syncE cutE dropE
      cases hasF d s.toList with
      | true => exact .inl rfl
      | false => exact .inr ⟨rfl, rfl⟩)
    have HOK := Lib.hid (show cutE d s.toList n = 0 → 0 ≤ n ∧ n ≤ gb.length ∧ ∀ l, getF (cutD d s.toList n) s.toList = gb.take n.toNat ∧ getF (crash (cutD d s.toList n) l) s.toList = gb.take n.toNat from fun h => by
      obtain ⟨h1, h2, h3⟩ := cutE_ok h
      refine ⟨h2, by rw [HGB.out]; exact h3, fun l => by rw [HGB.out]; exact get_cut HGD.out h l⟩)
    have z0 := HD3.out.c0
    go_wp2_with fail
    refine CC.out.mono ?_
    rintro e w4 ⟨hb4, X4, x4, lx4, rfl, hL4, hx4⟩
    have HD4 := Lib.hid (HD3.out.next hb4)
    have HGL4 := Lib.hid (HGL3.out.next hb4)
    have HX4 := Lib.hid hx4
    have HY := Lib.hid (Dx.new HD4.out.bl hL4)
    have hba := below_alloc w4 (.cells #[.slice X4 lx4.length x4] 24)
    have HD5 := Lib.hid (HD4.out.next hba)
    have HGL5 := Lib.hid (HGL4.out.next hba)
    have HG4 := Lib.hid (show Good (xs lx4) by rw [hx4]; exact HD1.out)
    clear hb4 hL4 hx4 hba z0 HD3 HD4 HGL3 HGL4 CC
    go_upto_if 61 with fail
    generalize w4.alloc (.cells #[.slice X4 lx4.length x4] 24) = w5 at HY HD5 HGL5 ⊢
    generalize w4.heap.size = by5 at HY ⊢
    generalize cutE d s.toList n = E at *
    generalize cutD d s.toList n = d1 at *
    go_cut [14] (fun s14 W => s14 = .int .i64 E ∧ Hid (Below w5.heap.size w5 W))
    case first =>
      by_cases hE : E = 0
      · obtain ⟨hn0, hn1, hgt⟩ := HOK.out hE
        obtain ⟨k, rfl⟩ : ∃ k : Nat, n = k := ⟨n.toNat, by omega⟩
        simp only [Int.toNat_natCast] at hgt
        have HGT := Lib.hid hgt
        have HKN := Lib.hid (show k ≤ gb.length by omega)
        subst hE
        clear hgt
        have z0 := HY.out.c0
        go_wp2_with fail
        refine (dcrash_any X4 x4 lx4 w5 HY.out.L (mod_good HG4.out) KA kc ke (HKK.out _ HY.out.bl) (by have := HSB.out; omega) HBK.out).mono ?_
        rintro e w6 ⟨hb6, X6, x6, lx6, rfl, hL6, hx6⟩
        rw [goodOf_self HG4.out, HX4.out] at hx6
        have HG6 := Lib.hid (show Good (xs lx6) by rw [hx6, ← HX4.out]; exact HG4.out.crash _)
        have HX6 := Lib.hid hx6
        have HL6 := Lib.hid hL6
        have HY6 := Lib.hid (HY.out.next hb6)
        have HGL6 := Lib.hid (HGL5.out.next hb6)
        have HB6 := Lib.hid hb6
        clear hb6 hL6 hx6 z0 HY
        go_wp2_with fail
        refine (dget_any X6 x6 lx6 w6 HL6.out (mod_good HG6.out) s HSB.out.1).mono ?_
        rintro e w7 ⟨hb7, C, cc, cb, rfl, hcb, hcl⟩
        rw [goodOf_self HG6.out, HX6.out, (HGT.out ke).2] at hcb
        rw [goodOf_self HG6.out]
        generalize syncE (xs lx6) s.toList = E16 at *
        have HCB := Lib.hid hcb
        have HCL := Lib.hid hcl
        have HY7 := Lib.hid (HY6.out.next hb7)
        have HGL7 := Lib.hid (HGL6.out.next hb7)
        have HB7 := Lib.hid (below_then HB6.out hb7)
        clear hb7 hcb hcl HY6 HGL6 HL6 HX6
        have CP := Lib.hid (fun (W : World) (hL : Fls W W.heap.size X4 x4 lx4) (X : Option Addr) (xc : Nat) (ho : Lies W W.heap.size 1 X b.length (bc b)) (hc : b.length ≤ xc) => (show Calls Try.prog 24 #[.agg #[.slice X4 lx4.length x4], .string s, .slice X b.length xc] W (DePost (putD d1 s.toList b) (putE d1 s.toList b) W) by
          have h := dput_any X4 x4 lx4 W hL (mod_good HG4.out) s HSB.out.1 X xc b ho (by have := HSB.out; omega) hc
          rw [goodOf_self HG4.out, HX4.out] at h
          exact h))
        have z0 := HY7.out.c0
        go_upto_region 7 with fail
        have v1 : (w7.alloc (.cells #[] 5)).cell? ⟨by5, 0, none⟩ = some (.slice X4 lx4.length x4) := (HY7.out.next (below_alloc w7 (.cells #[] 5))).c0
        have v2 : (w7.alloc (.cells #[.slice none 0 0] 24)).cell? ⟨by5, 0, none⟩ = some (.slice X4 lx4.length x4) := (HY7.out.next (below_alloc w7 (.cells #[.slice none 0 0] 24))).c0
        have v3 : ((w7.alloc (.cells #[] 5)).alloc (.cells #[.slice none 0 0] 24)).cell? ⟨by5, 0, none⟩ = some (.slice X4 lx4.length x4) := ((HY7.out.next (below_alloc w7 (.cells #[] 5))).next (below_alloc _ (.cells #[.slice none 0 0] 24))).c0
        have v4 : ((w7.alloc (.cells #[.slice none 0 0] 24)).alloc (.cells #[] 5)).cell? ⟨by5, 0, none⟩ = some (.slice X4 lx4.length x4) := ((HY7.out.next (below_alloc w7 (.cells #[.slice none 0 0] 24))).next (below_alloc _ (.cells #[] 5))).c0
        have hz1 : (w7.alloc (.cells #[.slice none 0 0] 24)).heap.size = w7.heap.size + 1 := by simp
        have hz2 : (w7.alloc (.cells #[] 5)).heap.size = w7.heap.size + 1 := by simp
        have HB1 := Lib.hid (show Below w7.heap.size w7 (w7.alloc (.cells #[] 5)).drew from (below_alloc w7 (.cells #[] 5)).drew)
        have HB2 := Lib.hid (show Below w7.heap.size w7 ((w7.alloc (.cells #[] 5)).alloc (.cells #[.slice none 0 0] 24)).drew from (below_then (below_alloc w7 (.cells #[] 5)) (below_alloc _ (.cells #[.slice none 0 0] 24))).drew)
        have HB3 := Lib.hid (show Below w7.heap.size w7 ((w7.alloc (.cells #[.slice none 0 0] 24)).alloc (.cells #[] 5)).drew from (below_then (below_alloc w7 (.cells #[.slice none 0 0] 24)) (below_alloc _ (.cells #[] 5))).drew)
        have HO1 := Lib.hid (show (w7.alloc (.cells #[] 5)).drew.ownsRow w7.heap.size 5 1 (.slice (some ⟨w7.heap.size, 0, none⟩) 0 0) 0 [] from own_empty w7 5 w7.heap.size (Nat.le_refl _))
        have HO2 := Lib.hid (show ((w7.alloc (.cells #[] 5)).alloc (.cells #[.slice none 0 0] 24)).drew.ownsRow w7.heap.size 5 1 (.slice (some ⟨w7.heap.size, 0, none⟩) 0 0) 0 [] from own_next (own_empty w7 5 w7.heap.size (Nat.le_refl _)) (below_alloc _ (.cells #[.slice none 0 0] 24)).drew)
        have HO3 := Lib.hid (show ((w7.alloc (.cells #[.slice none 0 0] 24)).alloc (.cells #[] 5)).drew.ownsRow (w7.heap.size + 1) 5 1 (.slice (some ⟨w7.heap.size + 1, 0, none⟩) 0 0) 0 [] from by have h := own_empty (w7.alloc (.cells #[.slice none 0 0] 24)) 5 (w7.heap.size + 1) (by simp); rw [hz1] at h; exact h)
        have HZ2 := Lib.hid (show ((w7.alloc (.cells #[] 5)).alloc (.cells #[.slice none 0 0] 24)).drew.heap[w7.heap.size + 1]? = some (.cells #[.slice none 0 0] 24 (0, 0)) from by have h := heap_alloc_new (w7.alloc (.cells #[] 5)) (.cells #[.slice none 0 0] 24); rw [hz2] at h; exact h)
        have HZ3 := Lib.hid (show ((w7.alloc (.cells #[.slice none 0 0] 24)).alloc (.cells #[] 5)).drew.heap[w7.heap.size]? = some (.cells #[.slice none 0 0] 24 (0, 0)) from ((below_alloc (w7.alloc (.cells #[.slice none 0 0] 24)) (.cells #[] 5)).block _ (by simp)).trans (heap_alloc_new w7 (.cells #[.slice none 0 0] 24)))
        have HB3s := Lib.hid (show w7.heap.size + 1 ≤ ((w7.alloc (.cells #[.slice none 0 0] 24)).alloc (.cells #[] 5)).drew.heap.size from by show _ ≤ ((w7.alloc (.cells #[.slice none 0 0] 24)).alloc (.cells #[] 5)).heap.size; simp)
        clear hz1 hz2
        have HL1 := Lib.hid (HBB.out _ (below_then HY7.out.bl HB1.out))
        have HL2 := Lib.hid (HBB.out _ (below_then HY7.out.bl HB2.out))
        have HL3 := Lib.hid (HBB.out _ (below_then HY7.out.bl HB3.out))
        go_cut [17, 18] (fun s1 s2 W => Px w w7 (putE d1 s.toList b) (putD d1 s.toList b) s1 s2 W)
        case first =>
          as_aux_lemma =>
            go_region_law (first | (refine step_own1 rfl _ _ 31 rfl w7.heap.size 5 jv _ 1 1 Try.underlying31 JV.out ZJ.out SJ.out BJ.out rfl (by decide) (some ⟨w7.heap.size, 0, none⟩) 0 0 [] (by simp [Act.eval]) HO1.out _ BA b.length bcap (bc b) (by simp [Act.eval]) HL1.out (bc_one _) (by have := HSB.out; unfold maxLen; omega) (by have := HSB.out; omega) HB1.out.size ?_; intro A9 c9 w9 ho9 hb9 hg9; have HL9 := Lib.hid (show Lies w9 w9.heap.size 1 A9 b.length (bc b) by have h := Lies.of_own ho9; rw [Nat.zero_add] at h; exact h); have HC9 := Lib.hid (show b.length ≤ c9 by have h := own_cap ho9; omega); have HB9 := Lib.hid (HB1.out.trans hb9); have y9 := (HY7.out.next HB9.out).c0; have y8 : (w9.alloc (.cells #[.slice none 0 0] 24)).cell? ⟨by5, 0, none⟩ = some (.slice X4 lx4.length x4) := ((HY7.out.next HB9.out).next (below_alloc w9 (.cells #[.slice none 0 0] 24))).c0; clear ho9 hb9 hg9) | (refine step_own1 rfl _ _ 31 rfl w7.heap.size 5 jv _ 1 1 Try.underlying31 JV.out ZJ.out SJ.out BJ.out rfl (by decide) (some ⟨w7.heap.size, 0, none⟩) 0 0 [] (by simp [Act.eval]) HO2.out _ BA b.length bcap (bc b) (by simp [Act.eval]) HL2.out (bc_one _) (by have := HSB.out; unfold maxLen; omega) (by have := HSB.out; omega) HB2.out.size ?_; intro A9 c9 w9 ho9 hb9 hg9; have HL9 := Lib.hid (show Lies w9 w9.heap.size 1 A9 b.length (bc b) by have h := Lies.of_own ho9; rw [Nat.zero_add] at h; exact h); have HC9 := Lib.hid (show b.length ≤ c9 by have h := own_cap ho9; omega); have HB9 := Lib.hid (HB2.out.trans hb9); have HZ9 := Lib.hid ((hg9.block _ (lt_of_block HZ2.out) (by simp [Value.ownBlock])).trans HZ2.out); have y9 := (HY7.out.next HB9.out).c0; have y8 : (w9.alloc (.cells #[.slice none 0 0] 24)).cell? ⟨by5, 0, none⟩ = some (.slice X4 lx4.length x4) := ((HY7.out.next HB9.out).next (below_alloc w9 (.cells #[.slice none 0 0] 24))).c0; clear ho9 hb9 hg9) | (refine step_own1 rfl _ _ 31 rfl (w7.heap.size + 1) 5 jv _ 1 1 Try.underlying31 JV.out ZJ.out SJ.out BJ.out rfl (by decide) (some ⟨w7.heap.size + 1, 0, none⟩) 0 0 [] (by simp [Act.eval]) HO3.out _ BA b.length bcap (bc b) (by simp [Act.eval]) HL3.out (bc_one _) (by have := HSB.out; unfold maxLen; omega) (by have := HSB.out; omega) HB3s.out ?_; intro A9 c9 w9 ho9 hb9 hg9; have HL9 := Lib.hid (show Lies w9 w9.heap.size 1 A9 b.length (bc b) by have h := Lies.of_own ho9; rw [Nat.zero_add] at h; exact h); have HC9 := Lib.hid (show b.length ≤ c9 by have h := own_cap ho9; omega); have HB9 := Lib.hid (HB3.out.trans (hb9.mono (Nat.le_succ _))); have HZ9 := Lib.hid ((hb9.block _ (Nat.lt_succ_self _)).trans HZ3.out); have y9 := (HY7.out.next HB9.out).c0; have y8 : (w9.alloc (.cells #[.slice none 0 0] 24)).cell? ⟨by5, 0, none⟩ = some (.slice X4 lx4.length x4) := ((HY7.out.next HB9.out).next (below_alloc w9 (.cells #[.slice none 0 0] 24))).c0; clear ho9 hb9 hg9) | (go_simp; go_at_call 24; (with_reducible refine (CP.out _ (HY7.out.next HB9.out).L _ _ HL9.out HC9.out).mono ?_); rintro e w4 ⟨hb4, X4, x4, lx4, rfl, hL4, hx4⟩; have HB4 := Lib.hid (HB9.out.trans (hb4.mono HB9.out.size)); have HL4 := Lib.hid hL4; have HX4 := Lib.hid hx4; have z4 := (hb4.block _ (lt_of_block HZ9.out)).trans HZ9.out; have HZ4 := Lib.hid z4; have q1 := cell_of_row w4 _ 0 _ 24 (0, 0) z4; have q2 := unfrozen z4 0; clear hb4 hL4 hx4 z4) | (go_simp; go_at_call 24; (with_reducible refine (CP.out _ (HY7.out.next HB9.out).L _ _ HL9.out HC9.out).mono ?_); rintro e w4 ⟨hb4, X4, x4, lx4, rfl, hL4, hx4⟩; have HB4 := Lib.hid (HB9.out.trans (hb4.mono HB9.out.size)); have HL4 := Lib.hid hL4; have HX4 := Lib.hid hx4; clear hb4 hL4 hx4) | (go_simp; go_at_call 24; (with_reducible refine (CP.out _ ((HY7.out.next HB9.out).next (below_alloc _ _)).L _ _ (HL9.out.next (below_alloc _ _)) HC9.out).mono ?_); rintro e w4 ⟨hb4, X4, x4, lx4, rfl, hL4, hx4⟩; have HB4 := Lib.hid (HB9.out.trans (((below_alloc w9 (.cells #[.slice none 0 0] 24)).trans (hb4.mono (below_alloc w9 (.cells #[.slice none 0 0] 24)).size)).mono HB9.out.size)); have HL4 := Lib.hid hL4; have HX4 := Lib.hid hx4; have z4 := (hb4.block _ (lt_of_block (heap_alloc_new w9 (.cells #[.slice none 0 0] 24)))).trans (heap_alloc_new w9 (.cells #[.slice none 0 0] 24)); have HZ4 := Lib.hid z4; have q1 := cell_of_row w4 _ 0 _ 24 (0, 0) z4; have q2 := unfrozen z4 0; clear hb4 hL4 hx4 z4) | fail)
            all_goals
              go_wp2_with fail
              go_meet
              first | exact px_new HY7.out.bl HB4.out HL4.out HX4.out | exact px_put HY7.out.bl HB4.out HL4.out HX4.out HZ4.out (by first | omega | exact HB9.out.size)
        case rest =>
          obtain ⟨b8, X8, x8, lx8, rfl, rfl, HD8, HX8, HB8⟩ := hcut
          have HG8 := Lib.hid (show Good (xs lx8) by rw [HX8.out]; exact HD1.out.put _ _)
          have HGP := Lib.hid (show putE d1 s.toList b = 0 → getF (xs lx8) s.toList = gb.take k ++ b from fun h => by rw [HX8.out, (get_put HD1.out h).1, (HGT.out []).1])
          generalize putE d1 s.toList b = F at *
          generalize hwk : wc = w8 at *
          clear hwk z0 v1 v2 v3 v4 HB1 HB2 HB3 HO1 HO2 HO3 HZ2 HZ3 HB3s HL1 HL2 HL3 CP
          have z0 := HD8.out.c0
          go_wp2_with fail
          refine (dget_any X8 x8 lx8 w8 HD8.out.L (mod_good HG8.out) s HSB.out.1).mono ?_
          rintro e w9 ⟨hb9, Z, zc, zb, rfl, hzb, hzl⟩
          rw [goodOf_self HG8.out] at hzb
          rw [goodOf_self HG8.out]
          generalize syncE (xs lx8) s.toList = E20 at *
          have HZB := Lib.hid hzb
          have HZL := Lib.hid hzl
          have HD9 := Lib.hid (HD8.out.next hb9)
          have HGL9 := Lib.hid ((HGL7.out.next HB8.out).next hb9)
          have HCL9 := Lib.hid ((HCL.out.next HB8.out).next hb9)
          have HBL9 := Lib.hid (HBB.out _ HD9.out.bl)
          have HB9 := Lib.hid (below_then (below_then HB7.out HB8.out) hb9)
          clear hb9 hzb hzl z0
          obtain ⟨A', hcut, hLc⟩ := cut_h Try.under31 Try.size31 G gb.length gc k (k : Int) .i64 rfl HKN.out (HGC.out)
          have K1 : ∀ q, (convert 31 9 (.slice C cb.length cc)).run Try.prog (w9.drewN q) = .ok (.string ⟨cb.toArray⟩) (w9.drewN q) := fun q => run_str _ _ 31 9 5 _ _ _ _ Try.underlying31 Try.underlying5 Try.underlying9 (HCL9.out.drewN q)
          have K2 : ∀ q, (convert 31 9 (.slice A' k gc)).run Try.prog (w9.drewN q) = .ok (.string ⟨cb.toArray⟩) (w9.drewN q) := fun q => by
            have h := run_str (P := Try.prog) (w9.drewN q) _ 31 9 5 A' k gc (gb.take k) Try.underlying31 Try.underlying5 Try.underlying9 (by have := hLc _ _ _ (HGL9.out.drewN q); rw [bc_take] at this; exact this)
            rw [← HCB.out] at h
            exact h
          have K3 : ∀ q, (convert 31 9 (.slice Z zb.length zc)).run Try.prog (w9.drewN q) = .ok (.string ⟨zb.toArray⟩) (w9.drewN q) := fun q => run_str _ _ 31 9 5 _ _ _ _ Try.underlying31 Try.underlying5 Try.underlying9 (HZL.out.drewN q)
          have K4 : ∀ q, (convert 31 9 (.slice BA b.length bcap)).run Try.prog (w9.drewN q) = .ok (.string ⟨b.toArray⟩) (w9.drewN q) := fun q => run_str _ _ 31 9 5 _ _ _ _ Try.underlying31 Try.underlying5 Try.underlying9 (HBL9.out.drewN q)
          have hcb20 : cb.length ≤ 20000 := by rw [HCB.out, List.length_take]; have h := (HGD.out.getLen s.toList).1; rw [← HGB.out] at h; omega
          have S1 : ∀ W, (Op.stringOp .add ⟨cb.toArray⟩ ⟨b.toArray⟩).run Try.prog W = .ok (.string ⟨(cb ++ b).toArray⟩) W := fun W => run_string_add_bytes _ _ W (by omega) (by have := HSB.out; omega)
          have k1 := decide_eq_false (show ¬ (k : Int) < 0 by omega)
          have k2 := decide_eq_false (show ¬ (gb.length : Int) < (k : Int) by have := HKN.out; omega)
          have k3 : (k : Int) ≤ (gb.length : Int) := by have := HKN.out; omega
          have k4 := decide_eq_false (show ¬ gb.length < k by have := HKN.out; omega)
          by_cases hF : F = 0
          · have hzz : (zb == cb ++ b) = true := by rw [HZB.out, HGP.out hF, ← HCB.out]; simp
            subst hF
            clear hcb20 hLc hn0 hn1
            go_upto_region 9 with fail
            go_quiet (fail)
            go_wp2_with fail
            go_meet
            exact ⟨rfl, Lib.hid (below_to_drewN HB9.out _)⟩
          · have hF' : (F == 0) = false := by simpa using hF
            clear hF hcb20 hLc hn0 hn1
            go_upto_region 9 with fail
            go_quiet (fail)
            go_wp2_with fail
            go_meet
            exact ⟨rfl, Lib.hid (below_to_drewN HB9.out _)⟩
      · have hE' : (E == 0) = false := by simpa using hE
        clear hE
        go_wp2_with fail
        go_meet
        exact ⟨rfl, Lib.hid (Below.refl _ _)⟩
    case rest =>
      obtain ⟨rfl, HB6⟩ := hcut
      have HD6 := Lib.hid (HD5.out.next HB6.out)
      generalize hwk : wc = w6 at *
      clear hwk HD5 HGL5 HY
      have z0 := HD6.out.c0
      go_wp2_with fail
      refine (CD.out _ HD6.out.L).mono ?_
      rintro e w7 ⟨hb7, X7, x7, lx7, rfl, hL7, hx7⟩
      have HD7 := Lib.hid (HD6.out.next hb7)
      have HX7 := Lib.hid hx7
      have HV := Lib.hid (Dx.new HD7.out.bl hL7)
      have HG7 := Lib.hid (show Good (xs lx7) by rw [hx7]; exact HGD.out.drop _)
      have HDE := Lib.hid (show dropE d s.toList = 0 ∨ dropE d s.toList = 4 ∧ E ≠ 0 from by
        rcases HCE.out with h | ⟨h1, h2⟩
        · left
          unfold syncE at h; unfold dropE; exact h
        · right
          exact ⟨h2, by omega⟩)
      have HDP := Lib.hid (show dropE d s.toList = 0 → putE (dropF d s.toList) s.toList b = 0 ∧ getF (putD (dropF d s.toList) s.toList b) s.toList = b from fun h => drop_put HGD.out (by
        unfold dropE at h
        cases hh : hasF d s.toList with
        | true => rfl
        | false => rw [hh] at h; cases h) (by have := HSB.out; omega))
      have HGN := Lib.hid (show syncE (dropF d s.toList) s.toList = 4 by unfold syncE; rw [hasF_drop]; rfl)
      clear hb7 hL7 hx7 z0 HD6 CD
      go_upto_region 12 with fail
      generalize w7.alloc (.cells #[.slice X7 lx7.length x7] 24) = w8 at HV ⊢
      generalize w7.heap.size = by8 at HV ⊢
      generalize dropE d s.toList = R at *
      generalize dropF d s.toList = d2 at *
      by_cases hR : R = 0
      · obtain ⟨hp1, hp2⟩ := HDP.out hR
        subst hR
        have HP1 := Lib.hid hp1
        have HP2 := Lib.hid hp2
        clear hp1 hp2
        have CP := Lib.hid (fun (W : World) (hL : Fls W W.heap.size X7 x7 lx7) (X : Option Addr) (xc : Nat) (ho : Lies W W.heap.size 1 X b.length (bc b)) (hc : b.length ≤ xc) => (show Calls Try.prog 24 #[.agg #[.slice X7 lx7.length x7], .string s, .slice X b.length xc] W (DePost (putD d2 s.toList b) 0 W) by
          have h := dput_any X7 x7 lx7 W hL (mod_good HG7.out) s HSB.out.1 X xc b ho (by have := HSB.out; omega) hc
          rw [goodOf_self HG7.out, HX7.out, HP1.out] at h
          exact h))
        have z0 := HV.out.c0
        go_upto_region 14 with fail
        have v1 : (w8.alloc (.cells #[] 5)).cell? ⟨by8, 0, none⟩ = some (.slice X7 lx7.length x7) := (HV.out.next (below_alloc w8 (.cells #[] 5))).c0
        have v2 : (w8.alloc (.cells #[.slice none 0 0] 24)).cell? ⟨by8, 0, none⟩ = some (.slice X7 lx7.length x7) := (HV.out.next (below_alloc w8 (.cells #[.slice none 0 0] 24))).c0
        have v3 : ((w8.alloc (.cells #[] 5)).alloc (.cells #[.slice none 0 0] 24)).cell? ⟨by8, 0, none⟩ = some (.slice X7 lx7.length x7) := ((HV.out.next (below_alloc w8 (.cells #[] 5))).next (below_alloc _ (.cells #[.slice none 0 0] 24))).c0
        have v4 : ((w8.alloc (.cells #[.slice none 0 0] 24)).alloc (.cells #[] 5)).cell? ⟨by8, 0, none⟩ = some (.slice X7 lx7.length x7) := ((HV.out.next (below_alloc w8 (.cells #[.slice none 0 0] 24))).next (below_alloc _ (.cells #[] 5))).c0
        have hz1 : (w8.alloc (.cells #[.slice none 0 0] 24)).heap.size = w8.heap.size + 1 := by simp
        have hz2 : (w8.alloc (.cells #[] 5)).heap.size = w8.heap.size + 1 := by simp
        have HB1 := Lib.hid (show Below w8.heap.size w8 (w8.alloc (.cells #[] 5)).drew from (below_alloc w8 (.cells #[] 5)).drew)
        have HB2 := Lib.hid (show Below w8.heap.size w8 ((w8.alloc (.cells #[] 5)).alloc (.cells #[.slice none 0 0] 24)).drew from (below_then (below_alloc w8 (.cells #[] 5)) (below_alloc _ (.cells #[.slice none 0 0] 24))).drew)
        have HB3 := Lib.hid (show Below w8.heap.size w8 ((w8.alloc (.cells #[.slice none 0 0] 24)).alloc (.cells #[] 5)).drew from (below_then (below_alloc w8 (.cells #[.slice none 0 0] 24)) (below_alloc _ (.cells #[] 5))).drew)
        have HO1 := Lib.hid (show (w8.alloc (.cells #[] 5)).drew.ownsRow w8.heap.size 5 1 (.slice (some ⟨w8.heap.size, 0, none⟩) 0 0) 0 [] from own_empty w8 5 w8.heap.size (Nat.le_refl _))
        have HO2 := Lib.hid (show ((w8.alloc (.cells #[] 5)).alloc (.cells #[.slice none 0 0] 24)).drew.ownsRow w8.heap.size 5 1 (.slice (some ⟨w8.heap.size, 0, none⟩) 0 0) 0 [] from own_next (own_empty w8 5 w8.heap.size (Nat.le_refl _)) (below_alloc _ (.cells #[.slice none 0 0] 24)).drew)
        have HO3 := Lib.hid (show ((w8.alloc (.cells #[.slice none 0 0] 24)).alloc (.cells #[] 5)).drew.ownsRow (w8.heap.size + 1) 5 1 (.slice (some ⟨w8.heap.size + 1, 0, none⟩) 0 0) 0 [] from by have h := own_empty (w8.alloc (.cells #[.slice none 0 0] 24)) 5 (w8.heap.size + 1) (by simp); rw [hz1] at h; exact h)
        have HZ2 := Lib.hid (show ((w8.alloc (.cells #[] 5)).alloc (.cells #[.slice none 0 0] 24)).drew.heap[w8.heap.size + 1]? = some (.cells #[.slice none 0 0] 24 (0, 0)) from by have h := heap_alloc_new (w8.alloc (.cells #[] 5)) (.cells #[.slice none 0 0] 24); rw [hz2] at h; exact h)
        have HZ3 := Lib.hid (show ((w8.alloc (.cells #[.slice none 0 0] 24)).alloc (.cells #[] 5)).drew.heap[w8.heap.size]? = some (.cells #[.slice none 0 0] 24 (0, 0)) from ((below_alloc (w8.alloc (.cells #[.slice none 0 0] 24)) (.cells #[] 5)).block _ (by simp)).trans (heap_alloc_new w8 (.cells #[.slice none 0 0] 24)))
        have HB3s := Lib.hid (show w8.heap.size + 1 ≤ ((w8.alloc (.cells #[.slice none 0 0] 24)).alloc (.cells #[] 5)).drew.heap.size from by show _ ≤ ((w8.alloc (.cells #[.slice none 0 0] 24)).alloc (.cells #[] 5)).heap.size; simp)
        clear hz1 hz2
        have HL1 := Lib.hid (HBB.out _ (below_then HV.out.bl HB1.out))
        have HL2 := Lib.hid (HBB.out _ (below_then HV.out.bl HB2.out))
        have HL3 := Lib.hid (HBB.out _ (below_then HV.out.bl HB3.out))
        go_cut [23, 24] (fun s1 s2 W => Px w w8 0 (putD d2 s.toList b) s1 s2 W)
        case first =>
          as_aux_lemma =>
            go_region_law (first | (refine step_own1 rfl _ _ 31 rfl w8.heap.size 5 jv _ 1 1 Try.underlying31 JV.out ZJ.out SJ.out BJ.out rfl (by decide) (some ⟨w8.heap.size, 0, none⟩) 0 0 [] (by simp [Act.eval]) HO1.out _ BA b.length bcap (bc b) (by simp [Act.eval]) HL1.out (bc_one _) (by have := HSB.out; unfold maxLen; omega) (by have := HSB.out; omega) HB1.out.size ?_; intro A9 c9 w9 ho9 hb9 hg9; have HL9 := Lib.hid (show Lies w9 w9.heap.size 1 A9 b.length (bc b) by have h := Lies.of_own ho9; rw [Nat.zero_add] at h; exact h); have HC9 := Lib.hid (show b.length ≤ c9 by have h := own_cap ho9; omega); have HB9 := Lib.hid (HB1.out.trans hb9); have y9 := (HV.out.next HB9.out).c0; have y8 : (w9.alloc (.cells #[.slice none 0 0] 24)).cell? ⟨by8, 0, none⟩ = some (.slice X7 lx7.length x7) := ((HV.out.next HB9.out).next (below_alloc w9 (.cells #[.slice none 0 0] 24))).c0; clear ho9 hb9 hg9) | (refine step_own1 rfl _ _ 31 rfl w8.heap.size 5 jv _ 1 1 Try.underlying31 JV.out ZJ.out SJ.out BJ.out rfl (by decide) (some ⟨w8.heap.size, 0, none⟩) 0 0 [] (by simp [Act.eval]) HO2.out _ BA b.length bcap (bc b) (by simp [Act.eval]) HL2.out (bc_one _) (by have := HSB.out; unfold maxLen; omega) (by have := HSB.out; omega) HB2.out.size ?_; intro A9 c9 w9 ho9 hb9 hg9; have HL9 := Lib.hid (show Lies w9 w9.heap.size 1 A9 b.length (bc b) by have h := Lies.of_own ho9; rw [Nat.zero_add] at h; exact h); have HC9 := Lib.hid (show b.length ≤ c9 by have h := own_cap ho9; omega); have HB9 := Lib.hid (HB2.out.trans hb9); have HZ9 := Lib.hid ((hg9.block _ (lt_of_block HZ2.out) (by simp [Value.ownBlock])).trans HZ2.out); have y9 := (HV.out.next HB9.out).c0; have y8 : (w9.alloc (.cells #[.slice none 0 0] 24)).cell? ⟨by8, 0, none⟩ = some (.slice X7 lx7.length x7) := ((HV.out.next HB9.out).next (below_alloc w9 (.cells #[.slice none 0 0] 24))).c0; clear ho9 hb9 hg9) | (refine step_own1 rfl _ _ 31 rfl (w8.heap.size + 1) 5 jv _ 1 1 Try.underlying31 JV.out ZJ.out SJ.out BJ.out rfl (by decide) (some ⟨w8.heap.size + 1, 0, none⟩) 0 0 [] (by simp [Act.eval]) HO3.out _ BA b.length bcap (bc b) (by simp [Act.eval]) HL3.out (bc_one _) (by have := HSB.out; unfold maxLen; omega) (by have := HSB.out; omega) HB3s.out ?_; intro A9 c9 w9 ho9 hb9 hg9; have HL9 := Lib.hid (show Lies w9 w9.heap.size 1 A9 b.length (bc b) by have h := Lies.of_own ho9; rw [Nat.zero_add] at h; exact h); have HC9 := Lib.hid (show b.length ≤ c9 by have h := own_cap ho9; omega); have HB9 := Lib.hid (HB3.out.trans (hb9.mono (Nat.le_succ _))); have HZ9 := Lib.hid ((hb9.block _ (Nat.lt_succ_self _)).trans HZ3.out); have y9 := (HV.out.next HB9.out).c0; have y8 : (w9.alloc (.cells #[.slice none 0 0] 24)).cell? ⟨by8, 0, none⟩ = some (.slice X7 lx7.length x7) := ((HV.out.next HB9.out).next (below_alloc w9 (.cells #[.slice none 0 0] 24))).c0; clear ho9 hb9 hg9) | (go_simp; go_at_call 24; (with_reducible refine (CP.out _ (HV.out.next HB9.out).L _ _ HL9.out HC9.out).mono ?_); rintro e w4 ⟨hb4, X4, x4, lx4, rfl, hL4, hx4⟩; have HB4 := Lib.hid (HB9.out.trans (hb4.mono HB9.out.size)); have HL4 := Lib.hid hL4; have HX4 := Lib.hid hx4; have z4 := (hb4.block _ (lt_of_block HZ9.out)).trans HZ9.out; have HZ4 := Lib.hid z4; have q1 := cell_of_row w4 _ 0 _ 24 (0, 0) z4; have q2 := unfrozen z4 0; clear hb4 hL4 hx4 z4) | (go_simp; go_at_call 24; (with_reducible refine (CP.out _ (HV.out.next HB9.out).L _ _ HL9.out HC9.out).mono ?_); rintro e w4 ⟨hb4, X4, x4, lx4, rfl, hL4, hx4⟩; have HB4 := Lib.hid (HB9.out.trans (hb4.mono HB9.out.size)); have HL4 := Lib.hid hL4; have HX4 := Lib.hid hx4; clear hb4 hL4 hx4) | (go_simp; go_at_call 24; (with_reducible refine (CP.out _ ((HV.out.next HB9.out).next (below_alloc _ _)).L _ _ (HL9.out.next (below_alloc _ _)) HC9.out).mono ?_); rintro e w4 ⟨hb4, X4, x4, lx4, rfl, hL4, hx4⟩; have HB4 := Lib.hid (HB9.out.trans (((below_alloc w9 (.cells #[.slice none 0 0] 24)).trans (hb4.mono (below_alloc w9 (.cells #[.slice none 0 0] 24)).size)).mono HB9.out.size)); have HL4 := Lib.hid hL4; have HX4 := Lib.hid hx4; have z4 := (hb4.block _ (lt_of_block (heap_alloc_new w9 (.cells #[.slice none 0 0] 24)))).trans (heap_alloc_new w9 (.cells #[.slice none 0 0] 24)); have HZ4 := Lib.hid z4; have q1 := cell_of_row w4 _ 0 _ 24 (0, 0) z4; have q2 := unfrozen z4 0; clear hb4 hL4 hx4 z4) | fail)
            all_goals
              go_wp2_with fail
              go_meet
              first | exact px_new HV.out.bl HB4.out HL4.out HX4.out | exact px_put HV.out.bl HB4.out HL4.out HX4.out HZ4.out (by first | omega | exact HB9.out.size)
        case rest =>
          obtain ⟨b9, X9, x9, lx9, rfl, rfl, HD9, HX9, HB9⟩ := hcut
          have HV9 := Lib.hid (HV.out.next HB9.out)
          have HG9 := Lib.hid (show Good (xs lx9) by rw [HX9.out, ← HX7.out]; exact HG7.out.put _ _)
          generalize hwk : wc = w9 at *
          clear hwk z0 v1 v2 v3 v4 HB1 HB2 HB3 HO1 HO2 HO3 HZ2 HZ3 HB3s HL1 HL2 HL3 CP
          have z0 := HD9.out.c0
          go_wp2_with fail
          refine (dget_any X9 x9 lx9 w9 HD9.out.L (mod_good HG9.out) s HSB.out.1).mono ?_
          rintro e w10 ⟨hb10, M, mc, mb, rfl, hmb, hml⟩
          rw [goodOf_self HG9.out, HX9.out, HP2.out] at hmb
          generalize syncE (goodOf (xs lx9)) s.toList = E26 at *
          have HMB := Lib.hid hmb
          have HML := Lib.hid hml
          have HV10 := Lib.hid (HV9.out.next hb10)
          clear hb10 hmb hml z0
          have z0 := HV10.out.c0
          go_wp2_with fail
          refine (dget_any X7 x7 lx7 w10 HV10.out.L (mod_good HG7.out) s HSB.out.1).mono ?_
          rintro e w11 ⟨hb11, Q, qc, qb, rfl, _, _⟩
          rw [goodOf_self HG7.out, HX7.out, HGN.out]
          have HV11 := Lib.hid (HV10.out.next hb11)
          have HML11 := Lib.hid (HML.out.next hb11)
          have HBL11 := Lib.hid (HBB.out _ HV11.out.bl)
          have K1 : (convert 31 9 (.slice M mb.length mc)).run Try.prog w11 = .ok (.string ⟨b.toArray⟩) w11 := by
            have h := run_str (P := Try.prog) w11 _ 31 9 5 M mb.length mc mb Try.underlying31 Try.underlying5 Try.underlying9 HML11.out
            rw [show (⟨b.toArray⟩ : ByteArray) = ⟨mb.toArray⟩ by rw [HMB.out]]
            exact h
          have K2 : (convert 31 9 (.slice BA b.length bcap)).run Try.prog w11 = .ok (.string ⟨b.toArray⟩) w11 := run_str _ _ 31 9 5 _ _ _ _ Try.underlying31 Try.underlying5 Try.underlying9 HBL11.out
          clear hb11 z0
          go_wp2_with fail
          refine (knows_any _).mono ?_
          rintro e w99 ⟨rfl, hb99⟩
          have HB99 := Lib.hid (below_then HV11.out.bl hb99)
          clear hb99
          go_wp2_with fail
          go_ret
          exact ⟨rfl, HB99.out⟩
      · obtain ⟨rfl, hE⟩ : R = 4 ∧ E ≠ 0 := by
          rcases HDE.out with h | h
          · exact absurd h hR
          · exact h
        have hE' : (E != 0) = true := by simpa using hE
        clear hE hR
        go_wp2_with fail
        refine (knows_any _).mono ?_
        rintro e w99 ⟨rfl, hb99⟩
        have HB99 := Lib.hid (below_then HV.out.bl hb99)
        clear hb99
        go_wp2_with fail
        go_ret
        exact ⟨rfl, HB99.out⟩
end Go.Proofs.Ytdpmlpclhojcjaa
