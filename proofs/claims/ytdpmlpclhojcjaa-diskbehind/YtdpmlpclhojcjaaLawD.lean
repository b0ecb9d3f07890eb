import Derived.Test.YtdpmlpclhojcjaaDq
/-
  The walk of DiskBehind. No condition but that the lists have no more than can lie in memory.
-/
namespace Go.Proofs.Ytdpmlpclhojcjaa
open Go.ChangeShapes Go.WideShapes Go.ChangeAt Go.RowKit
set_option linter.unusedVariables false

set_option maxRecDepth 100000 in
set_option maxHeartbeats 8000000 in
theorem behind_walk (A : Option Addr) (c : Nat) (ls : List Fe) (s : ByteArray) (BA : Option Addr) (bcap : Nat) (b : List UInt8) (CA : Option Addr) (ccap : Nat) (b2 : List UInt8) (w : World) (hA : Fls w w.heap.size A c ls) (hB : Lies w w.heap.size 1 BA b.length (bc b)) (hC : Lies w w.heap.size 1 CA b2.length (bc b2)) (hs : s.size ≤ maxLen) (mb : b.length ≤ maxLen) (mc : b2.length ≤ maxLen) :
    Calls Try.prog 7 #[.agg #[.slice A ls.length c], .string s, .slice BA b.length bcap, .slice CA b2.length ccap] w fun e w' => e = .returned (.bool true) ∧ Below w.heap.size w w' := by
  have hs63 : s.size ≤ 9223372036854775807 := hs
  have mb63 : b.length ≤ 9223372036854775807 := mb
  have mc63 : b2.length ≤ 9223372036854775807 := mc
  have HBB := Lib.hid (fun W (h : Below w.heap.size w W) => (hB.below h).more h.size)
  have HCC := Lib.hid (fun W (h : Below w.heap.size w W) => (hC.below h).more h.size)
  clear hs mb mc hB hC
  obtain ⟨jv, hjv, hzv, hzsv, hzbv⟩ := info_parts (show (Try.prog.info? 5).map (fun i => (i.zero, i.size, i.bytes)) = some (some (.int .u8 0), 1, 1) by kernel_rfl)
  have JV := Lib.hid hjv
  have ZJ := Lib.hid hzv
  have SJ := Lib.hid hzsv
  have BJ := Lib.hid hzbv
  clear hjv hzv hzsv hzbv
  have HD0 := Lib.hid (Dx.arg hA)
  clear hA
  go_enter Try.func7, Try.ntmps7
  go_upto_region 1 with fail
  generalize w.alloc (.cells #[.slice A ls.length c] 24) = w1 at HD0 ⊢
  generalize hbx : w.heap.size = bx at HD0 ⊢
  have HBX := Lib.hid hbx
  clear hbx
  have z0 := HD0.out.c0
  go_wp2_with fail
  refine (great_any A c ls w1 HD0.out.L.L).mono ?_
  rintro e w2 ⟨rfl, hb2⟩
  have HD := Lib.hid (HD0.out.next hb2)
  clear hb2 z0 HD0
  cases hg : grtB ls with
  | true =>
    go_wp2_with fail
    refine (knows_any _).mono ?_
    rintro e w99 ⟨rfl, hb99⟩
    have HB99 := Lib.hid (below_then HD.out.bl hb99)
    clear hb99
    go_wp2_with fail
    go_ret
    exact ⟨rfl, HB99.out⟩
  | false =>
    have HM := Lib.hid (mod_few hg)
    clear hg
    by_cases hs1 : 100 < s.size
    · have hs1i : (100 : Int) < (s.size : Int) := by omega
      go_wp2_with fail
      refine (knows_any _).mono ?_
      rintro e w99 ⟨rfl, hb99⟩
      have HB99 := Lib.hid (below_then HD.out.bl hb99)
      clear hb99
      go_wp2_with fail
      go_ret
      exact ⟨rfl, HB99.out⟩
    have hs1i : ¬ (100 : Int) < (s.size : Int) := by omega
    by_cases hs2 : 10000 < b.length
    · have hs2i : (10000 : Int) < (b.length : Int) := by omega
      go_wp2_with fail
      refine (knows_any _).mono ?_
      rintro e w99 ⟨rfl, hb99⟩
      have HB99 := Lib.hid (below_then HD.out.bl hb99)
      clear hb99
      go_wp2_with fail
      go_ret
      exact ⟨rfl, HB99.out⟩
    have hs2i : ¬ (10000 : Int) < (b.length : Int) := by omega
    by_cases hs3 : 10000 < b2.length
    · have hs3i : (10000 : Int) < (b2.length : Int) := by omega
      go_wp2_with fail
      refine (knows_any _).mono ?_
      rintro e w99 ⟨rfl, hb99⟩
      have HB99 := Lib.hid (below_then HD.out.bl hb99)
      clear hb99
      go_wp2_with fail
      go_ret
      exact ⟨rfl, HB99.out⟩
    have hs3i : ¬ (10000 : Int) < (b2.length : Int) := by omega
    have HSB := Lib.hid (show s.size ≤ 100000 ∧ b.length ≤ 10000 ∧ b2.length ≤ 10000 by omega)
    have z0 := HD.out.c0
    go_wp2_with fail
    refine (dget_any A c ls w2 HD.out.L HM.out s HSB.out.1).mono ?_
    rintro e w3 ⟨hb3, G, gc, gb, rfl, hgb, hgl⟩
    have HD3 := Lib.hid (HD.out.next hb3)
    have HGB := Lib.hid hgb
    have HGL := Lib.hid (fun W (h : Below w3.heap.size w3 W) => hgl.next h)
    have HGD := Lib.hid (goodOf_good (xs ls))
    clear hb3 hgb hgl z0 HD hs1 hs2 hs3
    have CP := Lib.hid (fun (W : World) (hL : Fls W W.heap.size A c ls) (X : Option Addr) (xc : Nat) (ho : Lies W W.heap.size 1 X b.length (bc b)) (hc : b.length ≤ xc) => dput_any A c ls W hL HM.out s HSB.out.1 X xc b ho (by have := HSB.out; omega) hc)
    have CPL := Lib.hid (fun (W : World) (hL : Fls W W.heap.size A c ls) (X : Option Addr) (xc : Nat) (bb : List UInt8) (ho : Lies W W.heap.size 1 X bb.length (bc bb)) (hb : bb.length ≤ 100000) (hc : bb.length ≤ xc) => dput_any A c ls W hL HM.out s HSB.out.1 X xc bb ho hb hc)
    generalize goodOf (xs ls) = d at *
    have z0 := HD3.out.c0
    go_upto_region 4 with fail
    have v1 : (w3.alloc (.cells #[] 5)).cell? ⟨bx, 0, none⟩ = some (.slice A ls.length c) := (HD3.out.next (below_alloc w3 (.cells #[] 5))).c0
    have v2 : (w3.alloc (.cells #[.slice none 0 0] 24)).cell? ⟨bx, 0, none⟩ = some (.slice A ls.length c) := (HD3.out.next (below_alloc w3 (.cells #[.slice none 0 0] 24))).c0
    have v3 : ((w3.alloc (.cells #[] 5)).alloc (.cells #[.slice none 0 0] 24)).cell? ⟨bx, 0, none⟩ = some (.slice A ls.length c) := ((HD3.out.next (below_alloc w3 (.cells #[] 5))).next (below_alloc _ (.cells #[.slice none 0 0] 24))).c0
    have v4 : ((w3.alloc (.cells #[.slice none 0 0] 24)).alloc (.cells #[] 5)).cell? ⟨bx, 0, none⟩ = some (.slice A ls.length c) := ((HD3.out.next (below_alloc w3 (.cells #[.slice none 0 0] 24))).next (below_alloc _ (.cells #[] 5))).c0
    have hz1 : (w3.alloc (.cells #[.slice none 0 0] 24)).heap.size = w3.heap.size + 1 := by simp
    have hz2 : (w3.alloc (.cells #[] 5)).heap.size = w3.heap.size + 1 := by simp
    have HB1 := Lib.hid (show Below w3.heap.size w3 (w3.alloc (.cells #[] 5)).drew from (below_alloc w3 (.cells #[] 5)).drew)
    have HB2 := Lib.hid (show Below w3.heap.size w3 ((w3.alloc (.cells #[] 5)).alloc (.cells #[.slice none 0 0] 24)).drew from (below_then (below_alloc w3 (.cells #[] 5)) (below_alloc _ (.cells #[.slice none 0 0] 24))).drew)
    have HB3 := Lib.hid (show Below w3.heap.size w3 ((w3.alloc (.cells #[.slice none 0 0] 24)).alloc (.cells #[] 5)).drew from (below_then (below_alloc w3 (.cells #[.slice none 0 0] 24)) (below_alloc _ (.cells #[] 5))).drew)
    have HO1 := Lib.hid (show (w3.alloc (.cells #[] 5)).drew.ownsRow w3.heap.size 5 1 (.slice (some ⟨w3.heap.size, 0, none⟩) 0 0) 0 [] from own_empty w3 5 w3.heap.size (Nat.le_refl _))
    have HO2 := Lib.hid (show ((w3.alloc (.cells #[] 5)).alloc (.cells #[.slice none 0 0] 24)).drew.ownsRow w3.heap.size 5 1 (.slice (some ⟨w3.heap.size, 0, none⟩) 0 0) 0 [] from own_next (own_empty w3 5 w3.heap.size (Nat.le_refl _)) (below_alloc _ (.cells #[.slice none 0 0] 24)).drew)
    have HO3 := Lib.hid (show ((w3.alloc (.cells #[.slice none 0 0] 24)).alloc (.cells #[] 5)).drew.ownsRow (w3.heap.size + 1) 5 1 (.slice (some ⟨w3.heap.size + 1, 0, none⟩) 0 0) 0 [] from by have h := own_empty (w3.alloc (.cells #[.slice none 0 0] 24)) 5 (w3.heap.size + 1) (by simp); rw [hz1] at h; exact h)
    have HZ2 := Lib.hid (show ((w3.alloc (.cells #[] 5)).alloc (.cells #[.slice none 0 0] 24)).drew.heap[w3.heap.size + 1]? = some (.cells #[.slice none 0 0] 24 (0, 0)) from by have h := heap_alloc_new (w3.alloc (.cells #[] 5)) (.cells #[.slice none 0 0] 24); rw [hz2] at h; exact h)
    have HZ3 := Lib.hid (show ((w3.alloc (.cells #[.slice none 0 0] 24)).alloc (.cells #[] 5)).drew.heap[w3.heap.size]? = some (.cells #[.slice none 0 0] 24 (0, 0)) from ((below_alloc (w3.alloc (.cells #[.slice none 0 0] 24)) (.cells #[] 5)).block _ (by simp)).trans (heap_alloc_new w3 (.cells #[.slice none 0 0] 24)))
    have HB3s := Lib.hid (show w3.heap.size + 1 ≤ ((w3.alloc (.cells #[.slice none 0 0] 24)).alloc (.cells #[] 5)).drew.heap.size from by show _ ≤ ((w3.alloc (.cells #[.slice none 0 0] 24)).alloc (.cells #[] 5)).heap.size; simp)
    clear hz1 hz2
    have HL1 := Lib.hid (HBB.out _ (below_then HD3.out.bl HB1.out))
    have HL2 := Lib.hid (HBB.out _ (below_then HD3.out.bl HB2.out))
    have HL3 := Lib.hid (HBB.out _ (below_then HD3.out.bl HB3.out))
    go_cut [11, 12] (fun s1 s2 W => Px w w3 (putE d s.toList b) (putD d s.toList b) s1 s2 W)
    case first =>
      as_aux_lemma =>
        go_region_law (first | (refine step_own1 rfl _ _ 31 rfl w3.heap.size 5 jv _ 1 1 Try.underlying31 JV.out ZJ.out SJ.out BJ.out rfl (by decide) (some ⟨w3.heap.size, 0, none⟩) 0 0 [] (by simp [Act.eval]) HO1.out _ BA b.length bcap (bc b) (by simp [Act.eval]) HL1.out (bc_one _) (by have := HSB.out; unfold maxLen; omega) (by have := HSB.out; omega) HB1.out.size ?_; intro A9 c9 w9 ho9 hb9 hg9; have HL9 := Lib.hid (show Lies w9 w9.heap.size 1 A9 b.length (bc b) by have h := Lies.of_own ho9; rw [Nat.zero_add] at h; exact h); have HC9 := Lib.hid (show b.length ≤ c9 by have h := own_cap ho9; omega); have HB9 := Lib.hid (HB1.out.trans hb9); have y9 := (HD3.out.next HB9.out).c0; have y8 : (w9.alloc (.cells #[.slice none 0 0] 24)).cell? ⟨bx, 0, none⟩ = some (.slice A ls.length c) := ((HD3.out.next HB9.out).next (below_alloc w9 (.cells #[.slice none 0 0] 24))).c0; clear ho9 hb9 hg9) | (refine step_own1 rfl _ _ 31 rfl w3.heap.size 5 jv _ 1 1 Try.underlying31 JV.out ZJ.out SJ.out BJ.out rfl (by decide) (some ⟨w3.heap.size, 0, none⟩) 0 0 [] (by simp [Act.eval]) HO2.out _ BA b.length bcap (bc b) (by simp [Act.eval]) HL2.out (bc_one _) (by have := HSB.out; unfold maxLen; omega) (by have := HSB.out; omega) HB2.out.size ?_; intro A9 c9 w9 ho9 hb9 hg9; have HL9 := Lib.hid (show Lies w9 w9.heap.size 1 A9 b.length (bc b) by have h := Lies.of_own ho9; rw [Nat.zero_add] at h; exact h); have HC9 := Lib.hid (show b.length ≤ c9 by have h := own_cap ho9; omega); have HB9 := Lib.hid (HB2.out.trans hb9); have HZ9 := Lib.hid ((hg9.block _ (lt_of_block HZ2.out) (by simp [Value.ownBlock])).trans HZ2.out); have y9 := (HD3.out.next HB9.out).c0; have y8 : (w9.alloc (.cells #[.slice none 0 0] 24)).cell? ⟨bx, 0, none⟩ = some (.slice A ls.length c) := ((HD3.out.next HB9.out).next (below_alloc w9 (.cells #[.slice none 0 0] 24))).c0; clear ho9 hb9 hg9) | (refine step_own1 rfl _ _ 31 rfl (w3.heap.size + 1) 5 jv _ 1 1 Try.underlying31 JV.out ZJ.out SJ.out BJ.out rfl (by decide) (some ⟨w3.heap.size + 1, 0, none⟩) 0 0 [] (by simp [Act.eval]) HO3.out _ BA b.length bcap (bc b) (by simp [Act.eval]) HL3.out (bc_one _) (by have := HSB.out; unfold maxLen; omega) (by have := HSB.out; omega) HB3s.out ?_; intro A9 c9 w9 ho9 hb9 hg9; have HL9 := Lib.hid (show Lies w9 w9.heap.size 1 A9 b.length (bc b) by have h := Lies.of_own ho9; rw [Nat.zero_add] at h; exact h); have HC9 := Lib.hid (show b.length ≤ c9 by have h := own_cap ho9; omega); have HB9 := Lib.hid (HB3.out.trans (hb9.mono (Nat.le_succ _))); have HZ9 := Lib.hid ((hb9.block _ (Nat.lt_succ_self _)).trans HZ3.out); have y9 := (HD3.out.next HB9.out).c0; have y8 : (w9.alloc (.cells #[.slice none 0 0] 24)).cell? ⟨bx, 0, none⟩ = some (.slice A ls.length c) := ((HD3.out.next HB9.out).next (below_alloc w9 (.cells #[.slice none 0 0] 24))).c0; clear ho9 hb9 hg9) | (go_simp; go_at_call 24; (with_reducible refine (CP.out _ (HD3.out.next HB9.out).L _ _ HL9.out HC9.out).mono ?_); rintro e w4 ⟨hb4, X4, x4, lx4, rfl, hL4, hx4⟩; have HB4 := Lib.hid (HB9.out.trans (hb4.mono HB9.out.size)); have HL4 := Lib.hid hL4; have HX4 := Lib.hid hx4; have z4 := (hb4.block _ (lt_of_block HZ9.out)).trans HZ9.out; have HZ4 := Lib.hid z4; have q1 := cell_of_row w4 _ 0 _ 24 (0, 0) z4; have q2 := unfrozen z4 0; clear hb4 hL4 hx4 z4) | (go_simp; go_at_call 24; (with_reducible refine (CP.out _ (HD3.out.next HB9.out).L _ _ HL9.out HC9.out).mono ?_); rintro e w4 ⟨hb4, X4, x4, lx4, rfl, hL4, hx4⟩; have HB4 := Lib.hid (HB9.out.trans (hb4.mono HB9.out.size)); have HL4 := Lib.hid hL4; have HX4 := Lib.hid hx4; clear hb4 hL4 hx4) | (go_simp; go_at_call 24; (with_reducible refine (CP.out _ ((HD3.out.next HB9.out).next (below_alloc _ _)).L _ _ (HL9.out.next (below_alloc _ _)) HC9.out).mono ?_); rintro e w4 ⟨hb4, X4, x4, lx4, rfl, hL4, hx4⟩; have HB4 := Lib.hid (HB9.out.trans (((below_alloc w9 (.cells #[.slice none 0 0] 24)).trans (hb4.mono (below_alloc w9 (.cells #[.slice none 0 0] 24)).size)).mono HB9.out.size)); have HL4 := Lib.hid hL4; have HX4 := Lib.hid hx4; have z4 := (hb4.block _ (lt_of_block (heap_alloc_new w9 (.cells #[.slice none 0 0] 24)))).trans (heap_alloc_new w9 (.cells #[.slice none 0 0] 24)); have HZ4 := Lib.hid z4; have q1 := cell_of_row w4 _ 0 _ 24 (0, 0) z4; have q2 := unfrozen z4 0; clear hb4 hL4 hx4 z4) | fail)
        all_goals
          go_wp2_with fail
          go_meet
          first | exact px_new HD3.out.bl HB4.out HL4.out HX4.out | exact px_put HD3.out.bl HB4.out HL4.out HX4.out HZ4.out (by first | omega | exact HB9.out.size)
    case rest =>
      obtain ⟨b5, X5, x5, lx5, rfl, rfl, HD5, HX5, HB5⟩ := hcut
      have HDA := Lib.hid (HD3.out.next HB5.out)
      have HGL5 := Lib.hid (HGL.out _ HB5.out)
      have HG5 := Lib.hid (show Good (xs lx5) by rw [HX5.out]; exact HGD.out.put _ _)
      have CP1 := Lib.hid CP.out
      have CP := Lib.hid (fun (W : World) (hL : Fls W W.heap.size X5 x5 lx5) (X : Option Addr) (xc : Nat) (ho : Lies W W.heap.size 1 X b2.length (bc b2)) (hc : b2.length ≤ xc) => (show Calls Try.prog 24 #[.agg #[.slice X5 lx5.length x5], .string s, .slice X b2.length xc] W (DePost (putD (putD d s.toList b) s.toList b2) (putE (putD d s.toList b) s.toList b2) W) by
        have h := dput_any X5 x5 lx5 W hL (mod_good HG5.out) s HSB.out.1 X xc b2 ho (by have := HSB.out; omega) hc
        rw [goodOf_self HG5.out, HX5.out] at h
        exact h))
      generalize hwk : wc = wk at *
      clear hwk
      have z0 := HD5.out.c0
      clear v1 v2 v3 v4 HB1 HB2 HB3 HO1 HO2 HO3 HZ2 HZ3 HB3s HL1 HL2 HL3 CP1
      go_upto_region 5 with fail
      have v1 : (wk.alloc (.cells #[] 5)).cell? ⟨b5, 0, none⟩ = some (.slice X5 lx5.length x5) := (HD5.out.next (below_alloc wk (.cells #[] 5))).c0
      have v2 : (wk.alloc (.cells #[.slice none 0 0] 24)).cell? ⟨b5, 0, none⟩ = some (.slice X5 lx5.length x5) := (HD5.out.next (below_alloc wk (.cells #[.slice none 0 0] 24))).c0
      have v3 : ((wk.alloc (.cells #[] 5)).alloc (.cells #[.slice none 0 0] 24)).cell? ⟨b5, 0, none⟩ = some (.slice X5 lx5.length x5) := ((HD5.out.next (below_alloc wk (.cells #[] 5))).next (below_alloc _ (.cells #[.slice none 0 0] 24))).c0
      have v4 : ((wk.alloc (.cells #[.slice none 0 0] 24)).alloc (.cells #[] 5)).cell? ⟨b5, 0, none⟩ = some (.slice X5 lx5.length x5) := ((HD5.out.next (below_alloc wk (.cells #[.slice none 0 0] 24))).next (below_alloc _ (.cells #[] 5))).c0
      have hz1 : (wk.alloc (.cells #[.slice none 0 0] 24)).heap.size = wk.heap.size + 1 := by simp
      have hz2 : (wk.alloc (.cells #[] 5)).heap.size = wk.heap.size + 1 := by simp
      have HB1 := Lib.hid (show Below wk.heap.size wk (wk.alloc (.cells #[] 5)).drew from (below_alloc wk (.cells #[] 5)).drew)
      have HB2 := Lib.hid (show Below wk.heap.size wk ((wk.alloc (.cells #[] 5)).alloc (.cells #[.slice none 0 0] 24)).drew from (below_then (below_alloc wk (.cells #[] 5)) (below_alloc _ (.cells #[.slice none 0 0] 24))).drew)
      have HB3 := Lib.hid (show Below wk.heap.size wk ((wk.alloc (.cells #[.slice none 0 0] 24)).alloc (.cells #[] 5)).drew from (below_then (below_alloc wk (.cells #[.slice none 0 0] 24)) (below_alloc _ (.cells #[] 5))).drew)
      have HO1 := Lib.hid (show (wk.alloc (.cells #[] 5)).drew.ownsRow wk.heap.size 5 1 (.slice (some ⟨wk.heap.size, 0, none⟩) 0 0) 0 [] from own_empty wk 5 wk.heap.size (Nat.le_refl _))
      have HO2 := Lib.hid (show ((wk.alloc (.cells #[] 5)).alloc (.cells #[.slice none 0 0] 24)).drew.ownsRow wk.heap.size 5 1 (.slice (some ⟨wk.heap.size, 0, none⟩) 0 0) 0 [] from own_next (own_empty wk 5 wk.heap.size (Nat.le_refl _)) (below_alloc _ (.cells #[.slice none 0 0] 24)).drew)
      have HO3 := Lib.hid (show ((wk.alloc (.cells #[.slice none 0 0] 24)).alloc (.cells #[] 5)).drew.ownsRow (wk.heap.size + 1) 5 1 (.slice (some ⟨wk.heap.size + 1, 0, none⟩) 0 0) 0 [] from by have h := own_empty (wk.alloc (.cells #[.slice none 0 0] 24)) 5 (wk.heap.size + 1) (by simp); rw [hz1] at h; exact h)
      have HZ2 := Lib.hid (show ((wk.alloc (.cells #[] 5)).alloc (.cells #[.slice none 0 0] 24)).drew.heap[wk.heap.size + 1]? = some (.cells #[.slice none 0 0] 24 (0, 0)) from by have h := heap_alloc_new (wk.alloc (.cells #[] 5)) (.cells #[.slice none 0 0] 24); rw [hz2] at h; exact h)
      have HZ3 := Lib.hid (show ((wk.alloc (.cells #[.slice none 0 0] 24)).alloc (.cells #[] 5)).drew.heap[wk.heap.size]? = some (.cells #[.slice none 0 0] 24 (0, 0)) from ((below_alloc (wk.alloc (.cells #[.slice none 0 0] 24)) (.cells #[] 5)).block _ (by simp)).trans (heap_alloc_new wk (.cells #[.slice none 0 0] 24)))
      have HB3s := Lib.hid (show wk.heap.size + 1 ≤ ((wk.alloc (.cells #[.slice none 0 0] 24)).alloc (.cells #[] 5)).drew.heap.size from by show _ ≤ ((wk.alloc (.cells #[.slice none 0 0] 24)).alloc (.cells #[] 5)).heap.size; simp)
      clear hz1 hz2
      have HL1 := Lib.hid (HCC.out _ (below_then HD5.out.bl HB1.out))
      have HL2 := Lib.hid (HCC.out _ (below_then HD5.out.bl HB2.out))
      have HL3 := Lib.hid (HCC.out _ (below_then HD5.out.bl HB3.out))
      go_cut [13, 14] (fun s1 s2 W => Px w wk (putE (putD d s.toList b) s.toList b2) (putD (putD d s.toList b) s.toList b2) s1 s2 W)
      case first =>
        as_aux_lemma =>
          go_region_law (first | (refine step_own1 rfl _ _ 31 rfl wk.heap.size 5 jv _ 1 1 Try.underlying31 JV.out ZJ.out SJ.out BJ.out rfl (by decide) (some ⟨wk.heap.size, 0, none⟩) 0 0 [] (by simp [Act.eval]) HO1.out _ CA b2.length ccap (bc b2) (by simp [Act.eval]) HL1.out (bc_one _) (by have := HSB.out; unfold maxLen; omega) (by have := HSB.out; omega) HB1.out.size ?_; intro A9 c9 w9 ho9 hb9 hg9; have HL9 := Lib.hid (show Lies w9 w9.heap.size 1 A9 b2.length (bc b2) by have h := Lies.of_own ho9; rw [Nat.zero_add] at h; exact h); have HC9 := Lib.hid (show b2.length ≤ c9 by have h := own_cap ho9; omega); have HB9 := Lib.hid (HB1.out.trans hb9); have y9 := (HD5.out.next HB9.out).c0; have y8 : (w9.alloc (.cells #[.slice none 0 0] 24)).cell? ⟨b5, 0, none⟩ = some (.slice X5 lx5.length x5) := ((HD5.out.next HB9.out).next (below_alloc w9 (.cells #[.slice none 0 0] 24))).c0; clear ho9 hb9 hg9) | (refine step_own1 rfl _ _ 31 rfl wk.heap.size 5 jv _ 1 1 Try.underlying31 JV.out ZJ.out SJ.out BJ.out rfl (by decide) (some ⟨wk.heap.size, 0, none⟩) 0 0 [] (by simp [Act.eval]) HO2.out _ CA b2.length ccap (bc b2) (by simp [Act.eval]) HL2.out (bc_one _) (by have := HSB.out; unfold maxLen; omega) (by have := HSB.out; omega) HB2.out.size ?_; intro A9 c9 w9 ho9 hb9 hg9; have HL9 := Lib.hid (show Lies w9 w9.heap.size 1 A9 b2.length (bc b2) by have h := Lies.of_own ho9; rw [Nat.zero_add] at h; exact h); have HC9 := Lib.hid (show b2.length ≤ c9 by have h := own_cap ho9; omega); have HB9 := Lib.hid (HB2.out.trans hb9); have HZ9 := Lib.hid ((hg9.block _ (lt_of_block HZ2.out) (by simp [Value.ownBlock])).trans HZ2.out); have y9 := (HD5.out.next HB9.out).c0; have y8 : (w9.alloc (.cells #[.slice none 0 0] 24)).cell? ⟨b5, 0, none⟩ = some (.slice X5 lx5.length x5) := ((HD5.out.next HB9.out).next (below_alloc w9 (.cells #[.slice none 0 0] 24))).c0; clear ho9 hb9 hg9) | (refine step_own1 rfl _ _ 31 rfl (wk.heap.size + 1) 5 jv _ 1 1 Try.underlying31 JV.out ZJ.out SJ.out BJ.out rfl (by decide) (some ⟨wk.heap.size + 1, 0, none⟩) 0 0 [] (by simp [Act.eval]) HO3.out _ CA b2.length ccap (bc b2) (by simp [Act.eval]) HL3.out (bc_one _) (by have := HSB.out; unfold maxLen; omega) (by have := HSB.out; omega) HB3s.out ?_; intro A9 c9 w9 ho9 hb9 hg9; have HL9 := Lib.hid (show Lies w9 w9.heap.size 1 A9 b2.length (bc b2) by have h := Lies.of_own ho9; rw [Nat.zero_add] at h; exact h); have HC9 := Lib.hid (show b2.length ≤ c9 by have h := own_cap ho9; omega); have HB9 := Lib.hid (HB3.out.trans (hb9.mono (Nat.le_succ _))); have HZ9 := Lib.hid ((hb9.block _ (Nat.lt_succ_self _)).trans HZ3.out); have y9 := (HD5.out.next HB9.out).c0; have y8 : (w9.alloc (.cells #[.slice none 0 0] 24)).cell? ⟨b5, 0, none⟩ = some (.slice X5 lx5.length x5) := ((HD5.out.next HB9.out).next (below_alloc w9 (.cells #[.slice none 0 0] 24))).c0; clear ho9 hb9 hg9) | (go_simp; go_at_call 24; (with_reducible refine (CP.out _ (HD5.out.next HB9.out).L _ _ HL9.out HC9.out).mono ?_); rintro e w4 ⟨hb4, X4, x4, lx4, rfl, hL4, hx4⟩; have HB4 := Lib.hid (HB9.out.trans (hb4.mono HB9.out.size)); have HL4 := Lib.hid hL4; have HX4 := Lib.hid hx4; have z4 := (hb4.block _ (lt_of_block HZ9.out)).trans HZ9.out; have HZ4 := Lib.hid z4; have q1 := cell_of_row w4 _ 0 _ 24 (0, 0) z4; have q2 := unfrozen z4 0; clear hb4 hL4 hx4 z4) | (go_simp; go_at_call 24; (with_reducible refine (CP.out _ (HD5.out.next HB9.out).L _ _ HL9.out HC9.out).mono ?_); rintro e w4 ⟨hb4, X4, x4, lx4, rfl, hL4, hx4⟩; have HB4 := Lib.hid (HB9.out.trans (hb4.mono HB9.out.size)); have HL4 := Lib.hid hL4; have HX4 := Lib.hid hx4; clear hb4 hL4 hx4) | (go_simp; go_at_call 24; (with_reducible refine (CP.out _ ((HD5.out.next HB9.out).next (below_alloc _ _)).L _ _ (HL9.out.next (below_alloc _ _)) HC9.out).mono ?_); rintro e w4 ⟨hb4, X4, x4, lx4, rfl, hL4, hx4⟩; have HB4 := Lib.hid (HB9.out.trans (((below_alloc w9 (.cells #[.slice none 0 0] 24)).trans (hb4.mono (below_alloc w9 (.cells #[.slice none 0 0] 24)).size)).mono HB9.out.size)); have HL4 := Lib.hid hL4; have HX4 := Lib.hid hx4; have z4 := (hb4.block _ (lt_of_block (heap_alloc_new w9 (.cells #[.slice none 0 0] 24)))).trans (heap_alloc_new w9 (.cells #[.slice none 0 0] 24)); have HZ4 := Lib.hid z4; have q1 := cell_of_row w4 _ 0 _ 24 (0, 0) z4; have q2 := unfrozen z4 0; clear hb4 hL4 hx4 z4) | fail)
          all_goals
            go_wp2_with fail
            go_meet
            first | exact px_new HD5.out.bl HB4.out HL4.out HX4.out | exact px_put HD5.out.bl HB4.out HL4.out HX4.out HZ4.out (by first | omega | exact HB9.out.size)
      case rest =>
        obtain ⟨b6, X6, x6, lx6, rfl, rfl, HD6, HX6, HB6⟩ := hcut
        have HDA6 := Lib.hid (HDA.out.next HB6.out)
        have HGL6 := Lib.hid (HGL5.out.next HB6.out)
        have HG6 := Lib.hid (show Good (xs lx6) by rw [HX6.out]; exact (HGD.out.put _ _).put _ _)
        have CP2 := Lib.hid CP.out
        have CP := Lib.hid (fun (W : World) (hL : Fls W W.heap.size A c ls) (X : Option Addr) (xc : Nat) (ho : Lies W W.heap.size 1 X (b.length + b2.length) (bc (b ++ b2))) (hc : b.length + b2.length ≤ xc) => (show Calls Try.prog 24 #[.agg #[.slice A ls.length c], .string s, .slice X (b.length + b2.length) xc] W (DePost (putD d s.toList (b ++ b2)) (putE d s.toList (b ++ b2)) W) by
          have hl : (b ++ b2).length = b.length + b2.length := List.length_append
          have h := CPL.out W hL X xc (b ++ b2) (by rw [hl]; exact ho) (by rw [hl]; have := HSB.out; omega) (by rw [hl]; exact hc)
          rw [hl] at h
          exact h))
        generalize hwk : wc = wj at *
        clear hwk
        clear z0
        have z0 := HDA6.out.c0
        clear v1 v2 v3 v4 HB1 HB2 HB3 HO1 HO2 HO3 HZ2 HZ3 HB3s HL1 HL2 HL3 CP2
        go_upto_region 6 with fail
        have v1 : (wj.alloc (.cells #[] 5)).cell? ⟨bx, 0, none⟩ = some (.slice A ls.length c) := (HDA6.out.next (below_alloc wj (.cells #[] 5))).c0
        have v2 : (wj.alloc (.cells #[.slice none 0 0] 24)).cell? ⟨bx, 0, none⟩ = some (.slice A ls.length c) := (HDA6.out.next (below_alloc wj (.cells #[.slice none 0 0] 24))).c0
        have v3 : ((wj.alloc (.cells #[] 5)).alloc (.cells #[.slice none 0 0] 24)).cell? ⟨bx, 0, none⟩ = some (.slice A ls.length c) := ((HDA6.out.next (below_alloc wj (.cells #[] 5))).next (below_alloc _ (.cells #[.slice none 0 0] 24))).c0
        have v4 : ((wj.alloc (.cells #[.slice none 0 0] 24)).alloc (.cells #[] 5)).cell? ⟨bx, 0, none⟩ = some (.slice A ls.length c) := ((HDA6.out.next (below_alloc wj (.cells #[.slice none 0 0] 24))).next (below_alloc _ (.cells #[] 5))).c0
        have hz1 : (wj.alloc (.cells #[.slice none 0 0] 24)).heap.size = wj.heap.size + 1 := by simp
        have hz2 : (wj.alloc (.cells #[] 5)).heap.size = wj.heap.size + 1 := by simp
        have HB1 := Lib.hid (show Below wj.heap.size wj (wj.alloc (.cells #[] 5)).drew from (below_alloc wj (.cells #[] 5)).drew)
        have HB2 := Lib.hid (show Below wj.heap.size wj ((wj.alloc (.cells #[] 5)).alloc (.cells #[.slice none 0 0] 24)).drew from (below_then (below_alloc wj (.cells #[] 5)) (below_alloc _ (.cells #[.slice none 0 0] 24))).drew)
        have HB3 := Lib.hid (show Below wj.heap.size wj ((wj.alloc (.cells #[.slice none 0 0] 24)).alloc (.cells #[] 5)).drew from (below_then (below_alloc wj (.cells #[.slice none 0 0] 24)) (below_alloc _ (.cells #[] 5))).drew)
        have HO1 := Lib.hid (show (wj.alloc (.cells #[] 5)).drew.ownsRow wj.heap.size 5 1 (.slice (some ⟨wj.heap.size, 0, none⟩) 0 0) 0 [] from own_empty wj 5 wj.heap.size (Nat.le_refl _))
        have HO2 := Lib.hid (show ((wj.alloc (.cells #[] 5)).alloc (.cells #[.slice none 0 0] 24)).drew.ownsRow wj.heap.size 5 1 (.slice (some ⟨wj.heap.size, 0, none⟩) 0 0) 0 [] from own_next (own_empty wj 5 wj.heap.size (Nat.le_refl _)) (below_alloc _ (.cells #[.slice none 0 0] 24)).drew)
        have HO3 := Lib.hid (show ((wj.alloc (.cells #[.slice none 0 0] 24)).alloc (.cells #[] 5)).drew.ownsRow (wj.heap.size + 1) 5 1 (.slice (some ⟨wj.heap.size + 1, 0, none⟩) 0 0) 0 [] from by have h := own_empty (wj.alloc (.cells #[.slice none 0 0] 24)) 5 (wj.heap.size + 1) (by simp); rw [hz1] at h; exact h)
        have HZ2 := Lib.hid (show ((wj.alloc (.cells #[] 5)).alloc (.cells #[.slice none 0 0] 24)).drew.heap[wj.heap.size + 1]? = some (.cells #[.slice none 0 0] 24 (0, 0)) from by have h := heap_alloc_new (wj.alloc (.cells #[] 5)) (.cells #[.slice none 0 0] 24); rw [hz2] at h; exact h)
        have HZ3 := Lib.hid (show ((wj.alloc (.cells #[.slice none 0 0] 24)).alloc (.cells #[] 5)).drew.heap[wj.heap.size]? = some (.cells #[.slice none 0 0] 24 (0, 0)) from ((below_alloc (wj.alloc (.cells #[.slice none 0 0] 24)) (.cells #[] 5)).block _ (by simp)).trans (heap_alloc_new wj (.cells #[.slice none 0 0] 24)))
        have HB3s := Lib.hid (show wj.heap.size + 1 ≤ ((wj.alloc (.cells #[.slice none 0 0] 24)).alloc (.cells #[] 5)).drew.heap.size from by show _ ≤ ((wj.alloc (.cells #[.slice none 0 0] 24)).alloc (.cells #[] 5)).heap.size; simp)
        clear hz1 hz2
        have HL1 := Lib.hid (HBB.out _ (below_then HDA6.out.bl HB1.out))
        have HL2 := Lib.hid (HBB.out _ (below_then HDA6.out.bl HB2.out))
        have HL3 := Lib.hid (HBB.out _ (below_then HDA6.out.bl HB3.out))
        go_cut [15, 16] (fun s1 s2 W => Px w wj (putE d s.toList (b ++ b2)) (putD d s.toList (b ++ b2)) s1 s2 W)
        case first =>
          as_aux_lemma =>
            go_region_law (first | (refine step_own1 rfl _ _ 31 rfl wj.heap.size 5 jv _ 1 1 Try.underlying31 JV.out ZJ.out SJ.out BJ.out rfl (by decide) A9 b.length c9 (bc b) (by simp [Act.eval]) HO9.out _ CA b2.length ccap (bc b2) (by simp [Act.eval]) HC9.out (bc_one _) (by have := HSB.out; unfold maxLen; omega) (by have := HSB.out; omega) HB9.out.size ?_; intro A10 c10 w10 ho10 hb10 hg10; have HB10 := Lib.hid (HB9.out.trans hb10); have HZ10 := Lib.hid ((hg10.block _ (lt_of_block HZ9.out) (fun e1 => own_ne HO9.out HZ9.out (by decide) e1.symm)).trans HZ9.out); have HL10 := Lib.hid (show Lies w10 w10.heap.size 1 A10 (b.length + b2.length) (bc (b ++ b2)) by rw [bc_append]; exact Lies.of_own ho10); have HK10 := Lib.hid (own_cap ho10); have x9 := (HDA6.out.next HB10.out).c0; have x8 : (w10.alloc (.cells #[.slice none 0 0] 24)).cell? ⟨bx, 0, none⟩ = some (.slice A ls.length c) := ((HDA6.out.next HB10.out).next (below_alloc w10 (.cells #[.slice none 0 0] 24))).c0; clear ho10 hb10 hg10) | (refine step_own1 rfl _ _ 31 rfl wj.heap.size 5 jv _ 1 1 Try.underlying31 JV.out ZJ.out SJ.out BJ.out rfl (by decide) A9 b.length c9 (bc b) (by simp [Act.eval]) HO9.out _ CA b2.length ccap (bc b2) (by simp [Act.eval]) HC9.out (bc_one _) (by have := HSB.out; unfold maxLen; omega) (by have := HSB.out; omega) HB9.out.size ?_; intro A10 c10 w10 ho10 hb10 hg10; have HB10 := Lib.hid (HB9.out.trans hb10); have HL10 := Lib.hid (show Lies w10 w10.heap.size 1 A10 (b.length + b2.length) (bc (b ++ b2)) by rw [bc_append]; exact Lies.of_own ho10); have HK10 := Lib.hid (own_cap ho10); have x9 := (HDA6.out.next HB10.out).c0; have x8 : (w10.alloc (.cells #[.slice none 0 0] 24)).cell? ⟨bx, 0, none⟩ = some (.slice A ls.length c) := ((HDA6.out.next HB10.out).next (below_alloc w10 (.cells #[.slice none 0 0] 24))).c0; clear ho10 hb10 hg10) | (refine step_own1 rfl _ _ 31 rfl wj.heap.size 5 jv _ 1 1 Try.underlying31 JV.out ZJ.out SJ.out BJ.out rfl (by decide) A9 b.length c9 (bc b) (by simp [Act.eval]) (own_next HO9.out (below_alloc w9 (.cells #[.slice none 0 0] 24))) _ CA b2.length ccap (bc b2) (by simp [Act.eval]) HC8.out (bc_one _) (by have := HSB.out; unfold maxLen; omega) (by have := HSB.out; omega) (Nat.le_trans HB9.out.size (below_alloc w9 (.cells #[.slice none 0 0] 24)).size) ?_; intro A10 c10 w10 ho10 hb10 hg10; have HB10 := Lib.hid ((HB9.out.trans ((below_alloc w9 (.cells #[.slice none 0 0] 24)).mono HB9.out.size)).trans hb10); have HZ10 := Lib.hid ((hg10.block _ (lt_of_block (heap_alloc_new w9 (.cells #[.slice none 0 0] 24))) (fun e1 => own_ne (own_next HO9.out (below_alloc w9 (.cells #[.slice none 0 0] 24))) (heap_alloc_new w9 (.cells #[.slice none 0 0] 24)) (by decide) e1.symm)).trans (heap_alloc_new w9 (.cells #[.slice none 0 0] 24))); have HL10 := Lib.hid (show Lies w10 w10.heap.size 1 A10 (b.length + b2.length) (bc (b ++ b2)) by rw [bc_append]; exact Lies.of_own ho10); have HK10 := Lib.hid (own_cap ho10); have x9 := (HDA6.out.next HB10.out).c0; have x8 : (w10.alloc (.cells #[.slice none 0 0] 24)).cell? ⟨bx, 0, none⟩ = some (.slice A ls.length c) := ((HDA6.out.next HB10.out).next (below_alloc w10 (.cells #[.slice none 0 0] 24))).c0; clear ho10 hb10 hg10) | (refine step_own1 rfl _ _ 31 rfl wj.heap.size 5 jv _ 1 1 Try.underlying31 JV.out ZJ.out SJ.out BJ.out rfl (by decide) (some ⟨wj.heap.size, 0, none⟩) 0 0 [] (by simp [Act.eval]) HO1.out _ BA b.length bcap (bc b) (by simp [Act.eval]) HL1.out (bc_one _) (by have := HSB.out; unfold maxLen; omega) (by have := HSB.out; omega) HB1.out.size ?_; intro A9 c9 w9 ho9 hb9 hg9; rw [Nat.zero_add] at ho9 ⊢; have HB9 := Lib.hid (HB1.out.trans hb9); have HO9 := Lib.hid (show w9.ownsRow wj.heap.size 5 1 (.slice A9 b.length c9) b.length (bc b) from ho9); have y9 := (HDA6.out.next HB9.out).c0; have y8 : (w9.alloc (.cells #[.slice none 0 0] 24)).cell? ⟨bx, 0, none⟩ = some (.slice A ls.length c) := ((HDA6.out.next HB9.out).next (below_alloc w9 (.cells #[.slice none 0 0] 24))).c0; have HC9 := Lib.hid (HCC.out _ (below_then HDA6.out.bl HB9.out)); have HC8 := Lib.hid ((HC9.out.next (below_alloc w9 (.cells #[.slice none 0 0] 24)))); clear ho9 hb9 hg9) | (refine step_own1 rfl _ _ 31 rfl wj.heap.size 5 jv _ 1 1 Try.underlying31 JV.out ZJ.out SJ.out BJ.out rfl (by decide) (some ⟨wj.heap.size, 0, none⟩) 0 0 [] (by simp [Act.eval]) HO2.out _ BA b.length bcap (bc b) (by simp [Act.eval]) HL2.out (bc_one _) (by have := HSB.out; unfold maxLen; omega) (by have := HSB.out; omega) HB2.out.size ?_; intro A9 c9 w9 ho9 hb9 hg9; rw [Nat.zero_add] at ho9 ⊢; have HB9 := Lib.hid (HB2.out.trans hb9); have HZ9 := Lib.hid ((hg9.block _ (lt_of_block HZ2.out) (by simp [Value.ownBlock])).trans HZ2.out); have HO9 := Lib.hid (show w9.ownsRow wj.heap.size 5 1 (.slice A9 b.length c9) b.length (bc b) from ho9); have y9 := (HDA6.out.next HB9.out).c0; have y8 : (w9.alloc (.cells #[.slice none 0 0] 24)).cell? ⟨bx, 0, none⟩ = some (.slice A ls.length c) := ((HDA6.out.next HB9.out).next (below_alloc w9 (.cells #[.slice none 0 0] 24))).c0; have HC9 := Lib.hid (HCC.out _ (below_then HDA6.out.bl HB9.out)); have HC8 := Lib.hid ((HC9.out.next (below_alloc w9 (.cells #[.slice none 0 0] 24)))); clear ho9 hb9 hg9) | (refine step_own1 rfl _ _ 31 rfl (wj.heap.size + 1) 5 jv _ 1 1 Try.underlying31 JV.out ZJ.out SJ.out BJ.out rfl (by decide) (some ⟨wj.heap.size + 1, 0, none⟩) 0 0 [] (by simp [Act.eval]) HO3.out _ BA b.length bcap (bc b) (by simp [Act.eval]) HL3.out (bc_one _) (by have := HSB.out; unfold maxLen; omega) (by have := HSB.out; omega) HB3s.out ?_; intro A9 c9 w9 ho9 hb9 hg9; rw [Nat.zero_add] at ho9 ⊢; have HB9 := Lib.hid (HB3.out.trans (hb9.mono (Nat.le_succ _))); have HZ9 := Lib.hid ((hb9.block _ (Nat.lt_succ_self _)).trans HZ3.out); have HO9 := Lib.hid (show w9.ownsRow wj.heap.size 5 1 (.slice A9 b.length c9) b.length (bc b) from (ho9.lower (Nat.le_succ _))); have y9 := (HDA6.out.next HB9.out).c0; have y8 : (w9.alloc (.cells #[.slice none 0 0] 24)).cell? ⟨bx, 0, none⟩ = some (.slice A ls.length c) := ((HDA6.out.next HB9.out).next (below_alloc w9 (.cells #[.slice none 0 0] 24))).c0; have HC9 := Lib.hid (HCC.out _ (below_then HDA6.out.bl HB9.out)); have HC8 := Lib.hid ((HC9.out.next (below_alloc w9 (.cells #[.slice none 0 0] 24)))); clear ho9 hb9 hg9) | (go_simp; go_at_call 24; (with_reducible refine (CP.out _ (HDA6.out.next HB10.out).L _ _ HL10.out HK10.out).mono ?_); rintro e w4 ⟨hb4, X4, x4, lx4, rfl, hL4, hx4⟩; have HB4 := Lib.hid (HB10.out.trans (hb4.mono HB10.out.size)); have HL4 := Lib.hid hL4; have HX4 := Lib.hid hx4; have z4 := (hb4.block _ (lt_of_block HZ10.out)).trans HZ10.out; have HZ4 := Lib.hid z4; have q1 := cell_of_row w4 _ 0 _ 24 (0, 0) z4; have q2 := unfrozen z4 0; clear hb4 hL4 hx4 z4) | (go_simp; go_at_call 24; (with_reducible refine (CP.out _ (HDA6.out.next HB10.out).L _ _ HL10.out HK10.out).mono ?_); rintro e w4 ⟨hb4, X4, x4, lx4, rfl, hL4, hx4⟩; have HB4 := Lib.hid (HB10.out.trans (hb4.mono HB10.out.size)); have HL4 := Lib.hid hL4; have HX4 := Lib.hid hx4; clear hb4 hL4 hx4) | (go_simp; go_at_call 24; (with_reducible refine (CP.out _ ((HDA6.out.next HB10.out).next (below_alloc _ _)).L _ _ (HL10.out.next (below_alloc _ _)) HK10.out).mono ?_); rintro e w4 ⟨hb4, X4, x4, lx4, rfl, hL4, hx4⟩; have HB4 := Lib.hid (HB10.out.trans (((below_alloc w10 (.cells #[.slice none 0 0] 24)).trans (hb4.mono (below_alloc w10 (.cells #[.slice none 0 0] 24)).size)).mono HB10.out.size)); have HL4 := Lib.hid hL4; have HX4 := Lib.hid hx4; have z4 := (hb4.block _ (lt_of_block (heap_alloc_new w10 (.cells #[.slice none 0 0] 24)))).trans (heap_alloc_new w10 (.cells #[.slice none 0 0] 24)); have HZ4 := Lib.hid z4; have q1 := cell_of_row w4 _ 0 _ 24 (0, 0) z4; have q2 := unfrozen z4 0; clear hb4 hL4 hx4 z4) | fail)
            all_goals
              go_wp2_with fail
              go_meet
              first | exact px_new HDA6.out.bl HB4.out HL4.out HX4.out | exact px_put HDA6.out.bl HB4.out HL4.out HX4.out HZ4.out (by first | omega | exact HB9.out.size | exact HB10.out.size)
        case rest =>
          obtain ⟨b7, X7, x7, lx7, rfl, rfl, HD7, HX7, HB7⟩ := hcut
          have HDY := Lib.hid (HD6.out.next HB7.out)
          have HGL7 := Lib.hid (HGL6.out.next HB7.out)
          have HYE := Lib.hid (show putE d s.toList b = 0 → putE (putD d s.toList b) s.toList b2 = 0 → putE d s.toList (b ++ b2) = 0 ∧ xs lx7 = xs lx6 ∧ getF (xs lx6) s.toList = gb ++ b ++ b2 ∧ syncE (xs lx6) s.toList = 0 from fun h1 h2 => by
            obtain ⟨h3, h4, h5⟩ := put_put HGD.out h1 h2
            refine ⟨h3, by rw [HX7.out, HX6.out, h4], by rw [HX6.out, h5, HGB.out], ?_⟩
            rw [HX6.out]
            unfold syncE
            rw [(get_put (HGD.out.put s.toList b) h2).2]
            rfl)
          have HNE := Lib.hid (show putE d s.toList b ≠ 0 ∨ putE (putD d s.toList b) s.toList b2 ≠ 0 → putE d s.toList (b ++ b2) ≠ 0 from fun h => put_no HGD.out h)
          generalize putE d s.toList b = E1 at *
          generalize putE (putD d s.toList b) s.toList b2 = E2 at *
          generalize putE d s.toList (b ++ b2) = E3 at *
          generalize hwk : wc = wz at *
          clear hwk z0
          clear v1 v2 v3 v4 HB1 HB2 HB3 HO1 HO2 HO3 HZ2 HZ3 HB3s HL1 HL2 HL3 CP CPL
          by_cases h1 : E1 = 0
          · by_cases h2 : E2 = 0
            · subst h1 h2
              obtain ⟨h3, h4, h5, h6⟩ := HYE.out rfl rfl
              subst h3
              have HXZ := Lib.hid h4
              have HGY := Lib.hid h5
              have HSY := Lib.hid h6
              clear h4 h5 h6
              have z0 := HDY.out.c0
              go_wp2_with fail
              refine (dget_any X6 x6 lx6 wz HDY.out.L (mod_good HG6.out) s HSB.out.1).mono ?_
              rintro e w8 ⟨hb8, H, hc, hb, rfl, hhb, hhl⟩
              rw [goodOf_self HG6.out, HGY.out] at hhb
              rw [goodOf_self HG6.out, HSY.out]
              have HY8 := Lib.hid (HDY.out.next hb8)
              have HZ8 := Lib.hid (HD7.out.next hb8)
              have HBL := Lib.hid (HBB.out _ HY8.out.bl)
              have HCL := Lib.hid (HCC.out _ HY8.out.bl)
              have HGL8 := Lib.hid (HGL7.out.next hb8)
              have HHL := Lib.hid hhl
              have HHB := Lib.hid hhb
              clear hb8 hhl hhb z0
              have KK := Lib.hid (show ∀ W : World, Below w8.heap.size w8 W → (convert 31 9 (.slice H hb.length hc)).run Try.prog W = .ok (.string ⟨(gb ++ b ++ b2).toArray⟩) W ∧ (convert 31 9 (.slice G gb.length gc)).run Try.prog W = .ok (.string ⟨gb.toArray⟩) W ∧ (convert 31 9 (.slice BA b.length bcap)).run Try.prog W = .ok (.string ⟨b.toArray⟩) W ∧ (convert 31 9 (.slice CA b2.length ccap)).run Try.prog W = .ok (.string ⟨b2.toArray⟩) W from fun W hbw => by
                refine ⟨?_, run_str _ _ 31 9 5 _ _ _ _ Try.underlying31 Try.underlying5 Try.underlying9 (HGL8.out.next hbw), run_str _ _ 31 9 5 _ _ _ _ Try.underlying31 Try.underlying5 Try.underlying9 (HBL.out.next hbw), run_str _ _ 31 9 5 _ _ _ _ Try.underlying31 Try.underlying5 Try.underlying9 (HCL.out.next hbw)⟩
                have h := run_str (P := Try.prog) W W.heap.size 31 9 5 H hb.length hc hb Try.underlying31 Try.underlying5 Try.underlying9 (HHL.out.next hbw)
                rw [show (⟨(gb ++ b ++ b2).toArray⟩ : ByteArray) = ⟨hb.toArray⟩ by rw [HHB.out]]
                exact h)
              have hgb20 : gb.length ≤ 20000 := by rw [HGB.out]; exact (HGD.out.getLen _).1
              have S1 : ∀ W, (Op.stringOp .add ⟨gb.toArray⟩ ⟨b.toArray⟩).run Try.prog W = .ok (.string ⟨(gb ++ b).toArray⟩) W := fun W => run_string_add_bytes _ _ W (by have := HSB.out; omega) (by have := HSB.out; omega)
              have S2 : ∀ W, (Op.stringOp .add ⟨(gb ++ b).toArray⟩ ⟨b2.toArray⟩).run Try.prog W = .ok (.string ⟨(gb ++ b ++ b2).toArray⟩) W := fun W => run_string_add_bytes _ _ W (by have := HSB.out; rw [List.length_append]; omega) (by have := HSB.out; omega)
              have HF := Lib.hid (show ∀ W : World, Below w8.heap.size w8 W → W.cell? ⟨b6, 0, none⟩ = some (.slice X6 lx6.length x6) ∧ W.cell? ⟨b7, 0, none⟩ = some (.slice X7 lx7.length x7) ∧ Below w8.heap.size w8 W ∧ (convert 31 9 (.slice H hb.length hc)).run Try.prog W = .ok (.string ⟨(gb ++ b ++ b2).toArray⟩) W ∧ (convert 31 9 (.slice G gb.length gc)).run Try.prog W = .ok (.string ⟨gb.toArray⟩) W ∧ (convert 31 9 (.slice BA b.length bcap)).run Try.prog W = .ok (.string ⟨b.toArray⟩) W ∧ (convert 31 9 (.slice CA b2.length ccap)).run Try.prog W = .ok (.string ⟨b2.toArray⟩) W from fun W hbw => ⟨(HY8.out.next hbw).c0, (HZ8.out.next hbw).c0, hbw, KK.out W hbw⟩)
              have HLN := Lib.hid (show lx6.length ≤ 40 by have := HG6.out.len; rwa [xs_len] at this)
              have HLM := Lib.hid (show lx7.length ≤ 40 by have := congrArg List.length HXZ.out; rw [xs_len, xs_len] at this; have := HLN.out; omega)
              have CY := Lib.hid (fun (W : World) (hb : Below w8.heap.size w8 W) => as_any X6 x6 lx6 W (HY8.out.next hb).L (by have := HLN.out; omega))
              have CZ := Lib.hid (fun (W : World) (hb : Below w8.heap.size w8 W) => as_any X7 x7 lx7 W (HZ8.out.next hb).L (by have := HLM.out; omega))
              have CS := Lib.hid (fun (P : Option Addr) (pc : Nat) (lp : List Fe) (Q : Option Addr) (qc : Nat) (lq : List Fe) (W : World) (h : Fls W W.heap.size P pc lp) (hp : xs lp = xs lx6) (h2 : Fls W W.heap.size Q qc lq) (hq : xs lq = xs lx6) => (show Calls Try.prog 17 #[.slice P lp.length pc, .slice Q lq.length qc] W fun e w' => e = .returned (.bool true) ∧ Below W.heap.size W w' by
                have h := same_any P pc lp Q qc lq W h h2 (by have := congrArg List.length hp; rw [xs_len, xs_len] at this; have := HLN.out; omega) (by have := congrArg List.length hq; rw [xs_len, xs_len] at this; have := HLN.out; omega)
                rw [decide_eq_true (hp.trans hq.symm)] at h
                exact h))
              have q1 := HF.out w8.drew (Below.refl _ _).drew
              go_upto_region 10 with fail
              go_region_held3 (fun w' => w'.cell? ⟨b6, 0, none⟩ = some (.slice X6 lx6.length x6) ∧ w'.cell? ⟨b7, 0, none⟩ = some (.slice X7 lx7.length x7) ∧ Below w8.heap.size w8 w' ∧ (convert 31 9 (.slice H hb.length hc)).run Try.prog w' = .ok (.string ⟨(gb ++ b ++ b2).toArray⟩) w' ∧ (convert 31 9 (.slice G gb.length gc)).run Try.prog w' = .ok (.string ⟨gb.toArray⟩) w' ∧ (convert 31 9 (.slice BA b.length bcap)).run Try.prog w' = .ok (.string ⟨b.toArray⟩) w' ∧ (convert 31 9 (.slice CA b2.length ccap)).run Try.prog w' = .ok (.string ⟨b2.toArray⟩) w')
                (exact q1)
                (first | ((go_at_call 11); (with_reducible refine (CY.out _ q1.2.2.1).mono ?_); rintro e w9 ⟨hb9, X9, x9, l9, rfl, hL9, hx9⟩; have J1 := Lib.hid hL9; have X1 := Lib.hid hx9; have q1 := HF.out w9 (q1.2.2.1.trans (hb9.mono q1.2.2.1.size)); clear hb9 hL9 hx9) | ((go_at_call 11); (with_reducible refine (CZ.out _ q1.2.2.1).mono ?_); rintro e w9 ⟨hb9, Y9, y9, m9, rfl, hL9, hx9⟩; have J2 := Lib.hid hL9; have X2 := Lib.hid (hx9.trans HXZ.out); have J1 := Lib.hid (J1.out.next hb9); have q1 := HF.out w9 (q1.2.2.1.trans (hb9.mono q1.2.2.1.size)); clear hb9 hL9 hx9) | ((go_at_call 17); (with_reducible refine (CS.out _ _ _ _ _ _ _ J1.out X1.out J2.out X2.out).mono ?_); rintro e w9 ⟨rfl, hb9⟩; have q1 := HF.out w9 (q1.2.2.1.trans (hb9.mono q1.2.2.1.size)); clear hb9) | ((go_at_call 10); (with_reducible refine (knows_any _).mono ?_); rintro e w9 ⟨rfl, hb9⟩; have q1 := HF.out w9 (q1.2.2.1.trans (hb9.mono q1.2.2.1.size)); clear hb9))
              all_goals
                go_wp2_with fail
                go_ret
                exact ⟨rfl, below_then HY8.out.bl q1.2.2.1⟩
            · have h3 := HNE.out (.inr h2)
              have h2' : (E2 != 0) = true := by simpa using h2
              have h3' : (E3 != 0) = true := by simpa using h3
              subst h1
              clear h2 h3
              go_wp2_with fail
              refine (knows_any _).mono ?_
              rintro e w99 ⟨rfl, hb99⟩
              have HB99 := Lib.hid (below_then HDY.out.bl hb99)
              clear hb99
              go_wp2_with fail
              go_ret
              exact ⟨rfl, HB99.out⟩
          · have h3 := HNE.out (.inl h1)
            have h1' : (E1 != 0) = true := by simpa using h1
            have h3' : (E3 != 0) = true := by simpa using h3
            clear h1 h3
            go_wp2_with fail
            refine (knows_any _).mono ?_
            rintro e w99 ⟨rfl, hb99⟩
            have HB99 := Lib.hid (below_then HDY.out.bl hb99)
            clear hb99
            go_wp2_with fail
            go_ret
            exact ⟨rfl, HB99.out⟩
end Go.Proofs.Ytdpmlpclhojcjaa
