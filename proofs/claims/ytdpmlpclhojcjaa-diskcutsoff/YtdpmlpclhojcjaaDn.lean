import Derived.Test.YtdpmlpclhojcjaaDl
/-
  What is done to a disk, by the document and by the program. No condition but that there are not too many files, bytes and numbers.
-/
namespace Go.Proofs.Ytdpmlpclhojcjaa
open Go.ChangeShapes Go.WideShapes Go.ChangeAt Go.RowKit
set_option linter.unusedVariables false

def actD (d : List Fl) (kd n : Int) (nm b : By) (l : List Int) : List Fl := if kd = 0 then putD d nm b else if kd = 1 then syncD d nm else if kd = 2 then cutD d nm n else if kd = 3 then dropF d nm else crash d l
def actE (d : List Fl) (kd n : Int) (nm b : By) : Int := if kd = 0 then putE d nm b else if kd = 1 then syncE d nm else if kd = 2 then cutE d nm n else if kd = 3 then dropE d nm else 0
/-- An act's lists lie in memory. -/
structure Ak (W : World) (B : Nat) (BA : Option Addr) (bcap : Nat) (b : List UInt8) (KA : Option Addr) (kc : Nat) (l : List Int) : Prop where
  lb : Lies W B 1 BA b.length (bc b)
  lk : Lies W B 1 KA l.length (vc l)
  cb : b.length ≤ bcap
  ck : l.length ≤ kc
theorem Ak.next {w w' : World} {BA : Option Addr} {bcap : Nat} {b : List UInt8} {KA : Option Addr} {kc : Nat} {l : List Int} (h : Ak w w.heap.size BA bcap b KA kc l) (hb : Below w.heap.size w w') : Ak w' w'.heap.size BA bcap b KA kc l := ⟨h.lb.next hb, h.lk.next hb, h.cb, h.ck⟩
/-- What of an act's numbers is asked. -/
structure An (n : Int) (nm : ByteArray) (b : List UInt8) (l : List Int) : Prop where
  n1 : -9223372036854775808 ≤ n
  n2 : n ≤ 9223372036854775807
  hs : nm.size ≤ 100000
  hb : b.length ≤ 100000
  hl : l.length ≤ 100000
  hx : ∀ x ∈ l, -9223372036854775808 ≤ x ∧ x ≤ 9223372036854775807
set_option maxHeartbeats 4000000 in
theorem does_any (A : Option Addr) (c : Nat) (ls : List Fe) (kd n : Int) (nm : ByteArray) (BA : Option Addr) (bcap : Nat) (b : List UInt8) (KA : Option Addr) (kc : Nat) (l : List Int) (w : World) (hA : Fls w w.heap.size A c ls) (hn : ls.length ≤ 1000) (hK : Ak w w.heap.size BA bcap b KA kc l) (hN : An n nm b l) :
    Calls Try.prog 16 #[.slice A ls.length c, .agg #[.int .i64 kd, .int .i64 n, .string nm, .slice BA b.length bcap, .slice KA l.length kc]] w (FePost (actD (goodOf (xs ls)) kd n nm.toList b l) (actE (goodOf (xs ls)) kd n nm.toList b) w) := by
  have HB0 := Lib.hid (below_alloc w (.cells #[.int .i64 kd, .int .i64 n, .string nm, .slice BA b.length bcap, .slice KA l.length kc] 34))
  have HA := Lib.hid (hA.next HB0.out)
  have HK := Lib.hid (hK.next HB0.out)
  have HN := Lib.hid hN
  have HLN := Lib.hid hn
  clear hA hK hN hn
  by_cases g0 : kd = 0
  · skip
    have HT := Lib.hid (show actD (goodOf (xs ls)) kd n nm.toList b l = putD (goodOf (xs ls)) nm.toList b ∧ actE (goodOf (xs ls)) kd n nm.toList b = putE (goodOf (xs ls)) nm.toList b by
      rw [g0]; exact ⟨rfl, rfl⟩)
    have k0 : (kd == 0) = true := by simpa using g0
    clear g0
    go_enter Try.func16, Try.ntmps16
    go_wp2_with fail
    refine (rput_any A c ls nm BA bcap b _ HA.out HK.out.lb (by have := HLN.out; omega) HN.out.hs HN.out.hb).mono ?_
    rintro e w1 ⟨hb1, A1, c1, l1, rfl, hL1, hx1⟩
    have HB1 := Lib.hid (below_then HB0.out hb1)
    have HL1 := Lib.hid hL1
    have HX1 := Lib.hid hx1
    clear hb1 hL1 hx1
    go_wp2_with fail
    go_ret2
    exact fe_post HT.out.2.symm HB1.out HL1.out (HX1.out.trans HT.out.1.symm)
  by_cases g1 : kd = 1
  · skip
    have HT := Lib.hid (show actD (goodOf (xs ls)) kd n nm.toList b l = syncD (goodOf (xs ls)) nm.toList ∧ actE (goodOf (xs ls)) kd n nm.toList b = syncE (goodOf (xs ls)) nm.toList by
      rw [g1]; exact ⟨rfl, rfl⟩)
    have k1 : (kd == 1) = true := by simpa using g1
    have k0 : (kd == 0) = false := by simp; omega
    clear g1 g0
    go_enter Try.func16, Try.ntmps16
    go_wp2_with fail
    refine (rsync_any A c ls nm _ HA.out (by have := HLN.out; omega)).mono ?_
    rintro e w1 ⟨hb1, A1, c1, l1, rfl, hL1, hx1⟩
    have HB1 := Lib.hid (below_then HB0.out hb1)
    have HL1 := Lib.hid hL1
    have HX1 := Lib.hid hx1
    clear hb1 hL1 hx1
    go_wp2_with fail
    go_ret2
    exact fe_post HT.out.2.symm HB1.out HL1.out (HX1.out.trans HT.out.1.symm)
  by_cases g2 : kd = 2
  · skip
    have HT := Lib.hid (show actD (goodOf (xs ls)) kd n nm.toList b l = cutD (goodOf (xs ls)) nm.toList n ∧ actE (goodOf (xs ls)) kd n nm.toList b = cutE (goodOf (xs ls)) nm.toList n by
      rw [g2]; exact ⟨rfl, rfl⟩)
    have k2 : (kd == 2) = true := by simpa using g2
    have k0 : (kd == 0) = false := by simp; omega
    have k1 : (kd == 1) = false := by simp; omega
    clear g2 g0 g1
    go_enter Try.func16, Try.ntmps16
    go_wp2_with fail
    refine (rcut_any A c ls nm n _ HA.out (by have := HLN.out; omega) HN.out.n1 HN.out.n2).mono ?_
    rintro e w1 ⟨hb1, A1, c1, l1, rfl, hL1, hx1⟩
    have HB1 := Lib.hid (below_then HB0.out hb1)
    have HL1 := Lib.hid hL1
    have HX1 := Lib.hid hx1
    clear hb1 hL1 hx1
    go_wp2_with fail
    go_ret2
    exact fe_post HT.out.2.symm HB1.out HL1.out (HX1.out.trans HT.out.1.symm)
  by_cases g3 : kd = 3
  · skip
    have HT := Lib.hid (show actD (goodOf (xs ls)) kd n nm.toList b l = dropF (goodOf (xs ls)) nm.toList ∧ actE (goodOf (xs ls)) kd n nm.toList b = dropE (goodOf (xs ls)) nm.toList by
      rw [g3]; exact ⟨rfl, rfl⟩)
    have k3 : (kd == 3) = true := by simpa using g3
    have k0 : (kd == 0) = false := by simp; omega
    have k1 : (kd == 1) = false := by simp; omega
    have k2 : (kd == 2) = false := by simp; omega
    clear g3 g0 g1 g2
    go_enter Try.func16, Try.ntmps16
    go_wp2_with fail
    refine (rdrop_any A c ls nm _ HA.out (by have := HLN.out; omega)).mono ?_
    rintro e w1 ⟨hb1, A1, c1, l1, rfl, hL1, hx1⟩
    have HB1 := Lib.hid (below_then HB0.out hb1)
    have HL1 := Lib.hid hL1
    have HX1 := Lib.hid hx1
    clear hb1 hL1 hx1
    go_wp2_with fail
    go_ret2
    exact fe_post HT.out.2.symm HB1.out HL1.out (HX1.out.trans HT.out.1.symm)
  have HT := Lib.hid (show actD (goodOf (xs ls)) kd n nm.toList b l = crash (goodOf (xs ls)) l ∧ actE (goodOf (xs ls)) kd n nm.toList b = 0 by
    unfold actD actE
    rw [if_neg g0, if_neg g1, if_neg g2, if_neg g3, if_neg g0, if_neg g1, if_neg g2, if_neg g3]; exact ⟨rfl, rfl⟩)
  have k0 : (kd == 0) = false := by simpa using g0
  have k1 : (kd == 1) = false := by simpa using g1
  have k2 : (kd == 2) = false := by simpa using g2
  have k3 : (kd == 3) = false := by simpa using g3
  clear g0 g1 g2 g3
  go_enter Try.func16, Try.ntmps16
  go_wp2_with fail
  refine (rcrash_any A c ls KA kc l _ HA.out HK.out.lk (by have := HLN.out; omega) HN.out.hl).mono ?_
  rintro e w1 ⟨hb1, A1, c1, l1, rfl, hL1, hx1⟩
  have HB1 := Lib.hid (below_then HB0.out hb1)
  have HL1 := Lib.hid hL1
  have HX1 := Lib.hid hx1
  clear hb1 hL1 hx1
  go_wp2_with fail
  go_ret2
  exact fe_post HT.out.2.symm HB1.out HL1.out (HX1.out.trans HT.out.1.symm)
theorem de_end {t : List Fl} {n m : Int} {w w' : World} {A : Option Addr} {c : Nat} {ls : List Fe} (hn : n = m) (hb : Below w.heap.size w w') (hL : Fls w' w'.heap.size A c ls) (ht : xs ls = t) : DePost t m w (.returned (.tuple #[.agg #[.slice A ls.length c], .int .i64 n])) w' := by
  subst hn; exact ⟨hb, A, c, ls, rfl, hL, ht⟩
set_option maxHeartbeats 8000000 in
theorem do_any (A : Option Addr) (c : Nat) (ls : List Fe) (kd n : Int) (nm : ByteArray) (BA : Option Addr) (bcap : Nat) (b : List UInt8) (KA : Option Addr) (kc : Nat) (l : List Int) (w : World) (hA : Fls w w.heap.size A c ls) (hm : Mod ls) (hK : Ak w w.heap.size BA bcap b KA kc l) (hN : An n nm b l) :
    Calls Try.prog 15 #[.agg #[.slice A ls.length c], .agg #[.int .i64 kd, .int .i64 n, .string nm, .slice BA b.length bcap, .slice KA l.length kc]] w (DePost (actD (goodOf (xs ls)) kd n nm.toList b l) (actE (goodOf (xs ls)) kd n nm.toList b) w) := by
  obtain ⟨jv, hjv, hzv, hzsv, hzbv⟩ := info_parts (show (Try.prog.info? 5).map (fun i => (i.zero, i.size, i.bytes)) = some (some (.int .u8 0), 1, 1) by kernel_rfl)
  have JV := Lib.hid hjv
  have ZJ := Lib.hid hzv
  have SJ := Lib.hid hzsv
  have BJ := Lib.hid hzbv
  clear hjv hzv hzsv hzbv
  have HM := Lib.hid hm
  have HN := Lib.hid hN
  have HB1 := Lib.hid (below_alloc w (.cells #[.slice A ls.length c] 24))
  obtain ⟨w1, hw1⟩ : ∃ w1, w1 = w.alloc (.cells #[.slice A ls.length c] 24) := ⟨_, rfl⟩
  have HB2 := Lib.hid (below_alloc w1 (.cells #[.int .i64 kd, .int .i64 n, .string nm, .slice BA b.length bcap, .slice KA l.length kc] 34))
  obtain ⟨w2, hw2⟩ : ∃ w2, w2 = w1.alloc (.cells #[.int .i64 kd, .int .i64 n, .string nm, .slice BA b.length bcap, .slice KA l.length kc] 34) := ⟨_, rfl⟩
  have HB3 := Lib.hid (below_alloc w2 (.cells #[.slice none 0 0] 24))
  obtain ⟨w3, hw3⟩ : ∃ w3, w3 = w2.alloc (.cells #[.slice none 0 0] 24) := ⟨_, rfl⟩
  have hs1 : w1.heap.size = w.heap.size + 1 := by rw [hw1]; simp
  have hs2 : w2.heap.size = w.heap.size + 1 + 1 := by rw [hw2, ← hs1]; simp
  have hn1 : w1.heap[w.heap.size]? = some (.cells #[.slice A ls.length c] 24 (0, 0)) := by rw [hw1]; exact heap_alloc_new _ _
  have hn2 : w2.heap[w.heap.size + 1]? = some (.cells #[.int .i64 kd, .int .i64 n, .string nm, .slice BA b.length bcap, .slice KA l.length kc] 34 (0, 0)) := by rw [hw2, ← hs1]; exact heap_alloc_new _ _
  have hn3 : w3.heap[w.heap.size + 1 + 1]? = some (.cells #[.slice none 0 0] 24 (0, 0)) := by rw [hw3, ← hs2]; exact heap_alloc_new _ _
  rw [← hw1] at HB1
  rw [← hw2] at HB2
  rw [← hw3] at HB3
  have HB := Lib.hid (below_then (below_then HB1.out HB2.out) HB3.out)
  have HA := Lib.hid (((hA.next HB1.out).next HB2.out).next HB3.out)
  have HK := Lib.hid (((hK.next HB1.out).next HB2.out).next HB3.out)
  have CB := Lib.hid (show ∀ W : World, Below w3.heap.size w3 W → W.cell? ⟨w.heap.size, 0, none⟩ = some (.slice A ls.length c) ∧ W.cell? ⟨w.heap.size + 1, 0, none⟩ = some (.int .i64 kd) ∧ W.cell? ⟨w.heap.size + 1, 1, none⟩ = some (.int .i64 n) ∧ W.cell? ⟨w.heap.size + 1, 2, none⟩ = some (.string nm) ∧ W.cell? ⟨w.heap.size + 1, 3, none⟩ = some (.slice BA b.length bcap) ∧ W.cell? ⟨w.heap.size + 1, 4, none⟩ = some (.slice KA l.length kc) ∧ W.heap[w.heap.size + 1 + 1]? = some (.cells #[.slice none 0 0] 24 (0, 0)) from fun W hb => by
    have h3 := (hb.block _ (lt_of_block hn3)).trans hn3
    have k2 := (HB3.out.block _ (lt_of_block hn2)).trans hn2
    have h2 := (hb.block _ (lt_of_block k2)).trans k2
    have k1 := ((HB2.out.trans (HB3.out.mono HB2.out.size)).block _ (lt_of_block hn1)).trans hn1
    have h1 := (hb.block _ (lt_of_block k1)).trans k1
    exact ⟨cell_of_row W _ 0 _ 24 (0, 0) h1, cell_of_row W _ 0 _ 34 (0, 0) h2, cell_of_row W _ 1 _ 34 (0, 0) h2, cell_of_row W _ 2 _ 34 (0, 0) h2, cell_of_row W _ 3 _ 34 (0, 0) h2, cell_of_row W _ 4 _ 34 (0, 0) h2, h3⟩)
  have hw : w3 = ((w.alloc (.cells #[.slice A ls.length c] 24)).alloc (.cells #[.int .i64 kd, .int .i64 n, .string nm, .slice BA b.length bcap, .slice KA l.length kc] 34)).alloc (.cells #[.slice none 0 0] 24) := by rw [hw3, hw2, hw1]
  clear hA hm hK hN hs1 hs2 hn1 hn2 hn3 hw3 hw2 hw1 HB1 HB2 HB3
  have HLT := Lib.hid (show w.heap.size ≤ w3.heap.size ∧ w.heap.size + 1 + 1 < w3.heap.size from ⟨HB.out.size, lt_of_block (CB.out w3 (Below.refl _ _)).2.2.2.2.2.2⟩)
  by_cases g0 : kd = 0
  · skip
    have HT := Lib.hid (show actD (goodOf (xs ls)) kd n nm.toList b l = putD (goodOf (xs ls)) nm.toList b ∧ actE (goodOf (xs ls)) kd n nm.toList b = putE (goodOf (xs ls)) nm.toList b by
      rw [g0]; exact ⟨rfl, rfl⟩)
    have k0 : (kd == 0) = true := by simpa using g0
    clear g0
    obtain ⟨z1, z2, z3, z4, z5, z6, z7⟩ := CB.out w3 (Below.refl _ _)
    have q1 := cell_of_row w3 _ 0 _ 24 (0, 0) z7
    have q2 := unfrozen z7 0
    clear z7
    go_enter Try.func15, Try.ntmps15
    go_upto_region 1 with fail
    rw [← hw]
    clear hw
    clear q1 q2
    go_upto_region 3 with fail
    have v1 : (w3.alloc (.cells #[] 5)).cell? ⟨w.heap.size, 0, none⟩ = some (.slice A ls.length c) := (World.cell?_alloc_lt w3 _ _ (World.block_lt_of_cell? w3 _ z1)).trans z1
    have v4 : (w3.alloc (.cells #[] 5)).cell? ⟨w.heap.size + 1, 2, none⟩ = some (.string nm) := (World.cell?_alloc_lt w3 _ _ (World.block_lt_of_cell? w3 _ z4)).trans z4
    have v5 : (w3.alloc (.cells #[] 5)).cell? ⟨w.heap.size + 1, 3, none⟩ = some (.slice BA b.length bcap) := (World.cell?_alloc_lt w3 _ _ (World.block_lt_of_cell? w3 _ z5)).trans z5
    have HBA := Lib.hid (show Below w3.heap.size w3 (w3.alloc (.cells #[] 5)).drew from (below_alloc w3 (.cells #[] 5)).drew)
    have HO7 := Lib.hid (show (w3.alloc (.cells #[] 5)).drew.ownsRow w3.heap.size 5 1 (.slice (some ⟨w3.heap.size, 0, none⟩) 0 0) 0 [] from own_empty w3 5 w3.heap.size (Nat.le_refl _))
    have HL7 := Lib.hid (HK.out.lb.next HBA.out)
    have CP := Lib.hid (fun (W : World) (hb : Below w3.heap.size w3 W) (A9 : Option Addr) (c9 : Nat) (ho : W.ownsRow w3.heap.size 5 1 (.slice A9 b.length c9) b.length (bc b)) => dput_any A c ls W (HA.out.next hb) HM.out nm HN.out.hs A9 c9 b (Lies.of_own ho) HN.out.hb (own_cap ho))
    have HBL := Lib.hid HN.out.hb
    go_region_law (first | (refine step_own2 rfl _ _ 31 rfl w3.heap.size 5 jv _ 1 1 Try.underlying31 JV.out ZJ.out SJ.out BJ.out rfl (by decide) (some ⟨w3.heap.size, 0, none⟩) 0 0 [] (by simp [Act.eval]) HO7.out _ BA b.length bcap (bc b) (by simp [Act.eval]) HL7.out (bc_one _) b.length (by omega) (by have := HBL.out; unfold maxLen; omega) (by have := HBL.out; omega) HBA.out.size ?_; intro A9 c9 w9 ho9 hb9; have HO9 := Lib.hid ho9; have HB9 := Lib.hid (HBA.out.trans hb9); obtain ⟨y1, y2, y3, y4, y5, y6, y7⟩ := CB.out w9 HB9.out; clear ho9 hb9) | (go_simp; go_at_call 24; (with_reducible refine (CP.out _ HB9.out _ _ HO9.out).mono ?_); rintro e w4 ⟨hb4, A4, c4, l4, rfl, hL4, hx4⟩; have HB4 := Lib.hid (HB9.out.trans (hb4.mono HB9.out.size)); have HX4 := Lib.hid hx4; have z7 := (CB.out w4 HB4.out).2.2.2.2.2.2; have HL4 := Lib.hid (hL4.setBox z7 0 (.slice A4 l4.length c4)); have q1 : w4.cell? ⟨w.heap.size + 1 + 1, 0, none⟩ = some (.slice none 0 0) := cell_of_row w4 _ 0 _ 24 (0, 0) z7; have q2 := unfrozen z7 0; clear hb4 hL4 hx4 z7) | fail)
    all_goals
      go_wp2_with fail
      refine bodyPost_ret (v := .tuple #[.agg #[.slice A4 l4.length c4], .int .i64 (putE (goodOf (xs ls)) nm.toList b)]) (by simp [results, Try.results15, go_sem, q1]) rfl ?_
      exact de_end HT.out.2.symm (HB.out.trans (HB4.out.mono HB.out.size) |>.setCell (p := ⟨w.heap.size + 1 + 1, 0, none⟩) (by show w.heap.size ≤ w.heap.size + 1 + 1; omega) _) (by rw [size_set]; exact HL4.out) (HX4.out.trans HT.out.1.symm)
  by_cases g1 : kd = 1
  · skip
    have HT := Lib.hid (show actD (goodOf (xs ls)) kd n nm.toList b l = syncD (goodOf (xs ls)) nm.toList ∧ actE (goodOf (xs ls)) kd n nm.toList b = syncE (goodOf (xs ls)) nm.toList by
      rw [g1]; exact ⟨rfl, rfl⟩)
    have k1 : (kd == 1) = true := by simpa using g1
    have k0 : (kd == 0) = false := by simp; omega
    clear g1 g0
    obtain ⟨z1, z2, z3, z4, z5, z6, z7⟩ := CB.out w3 (Below.refl _ _)
    have q1 := cell_of_row w3 _ 0 _ 24 (0, 0) z7
    have q2 := unfrozen z7 0
    clear z7
    go_enter Try.func15, Try.ntmps15
    go_upto_region 1 with fail
    rw [← hw]
    clear hw
    clear q1 q2
    go_wp2_with fail
    refine (dsync_any A c ls w3 HA.out HM.out nm HN.out.hs).mono ?_
    rintro e w4 ⟨hb4, A4, c4, l4, rfl, hL4, hx4⟩
    have HB4 := Lib.hid ((HB.out.trans (hb4.mono HB.out.size)).setCell (p := ⟨w.heap.size + 1 + 1, 0, none⟩) (by show w.heap.size ≤ w.heap.size + 1 + 1; omega) (.slice A4 l4.length c4))
    have HX4 := Lib.hid hx4
    have z7 := (CB.out w4 hb4).2.2.2.2.2.2
    have HL4 := Lib.hid (hL4.setBox z7 0 (.slice A4 l4.length c4))
    have q1 : w4.cell? ⟨w.heap.size + 1 + 1, 0, none⟩ = some (.slice none 0 0) := cell_of_row w4 _ 0 _ 24 (0, 0) z7
    have q2 := unfrozen z7 0
    clear hb4 hL4 hx4 z1 z2 z3 z4 z5 z6 z7
    go_wp2_with fail
    refine bodyPost_ret (v := .tuple #[.agg #[.slice A4 l4.length c4], .int .i64 (syncE (goodOf (xs ls)) nm.toList)]) (by simp [results, Try.results15, go_sem, q1]) rfl ?_
    exact de_end HT.out.2.symm HB4.out (by rw [size_set]; exact HL4.out) (HX4.out.trans HT.out.1.symm)
  by_cases g2 : kd = 2
  · skip
    have HT := Lib.hid (show actD (goodOf (xs ls)) kd n nm.toList b l = cutD (goodOf (xs ls)) nm.toList n ∧ actE (goodOf (xs ls)) kd n nm.toList b = cutE (goodOf (xs ls)) nm.toList n by
      rw [g2]; exact ⟨rfl, rfl⟩)
    have k2 : (kd == 2) = true := by simpa using g2
    have k0 : (kd == 0) = false := by simp; omega
    have k1 : (kd == 1) = false := by simp; omega
    clear g2 g0 g1
    obtain ⟨z1, z2, z3, z4, z5, z6, z7⟩ := CB.out w3 (Below.refl _ _)
    have q1 := cell_of_row w3 _ 0 _ 24 (0, 0) z7
    have q2 := unfrozen z7 0
    clear z7
    go_enter Try.func15, Try.ntmps15
    go_upto_region 1 with fail
    rw [← hw]
    clear hw
    clear q1 q2
    go_wp2_with fail
    refine (dcut_any A c ls w3 HA.out HM.out nm HN.out.hs n HN.out.n1 HN.out.n2).mono ?_
    rintro e w4 ⟨hb4, A4, c4, l4, rfl, hL4, hx4⟩
    have HB4 := Lib.hid ((HB.out.trans (hb4.mono HB.out.size)).setCell (p := ⟨w.heap.size + 1 + 1, 0, none⟩) (by show w.heap.size ≤ w.heap.size + 1 + 1; omega) (.slice A4 l4.length c4))
    have HX4 := Lib.hid hx4
    have z7 := (CB.out w4 hb4).2.2.2.2.2.2
    have HL4 := Lib.hid (hL4.setBox z7 0 (.slice A4 l4.length c4))
    have q1 : w4.cell? ⟨w.heap.size + 1 + 1, 0, none⟩ = some (.slice none 0 0) := cell_of_row w4 _ 0 _ 24 (0, 0) z7
    have q2 := unfrozen z7 0
    clear hb4 hL4 hx4 z1 z2 z3 z4 z5 z6 z7
    go_wp2_with fail
    refine bodyPost_ret (v := .tuple #[.agg #[.slice A4 l4.length c4], .int .i64 (cutE (goodOf (xs ls)) nm.toList n)]) (by simp [results, Try.results15, go_sem, q1]) rfl ?_
    exact de_end HT.out.2.symm HB4.out (by rw [size_set]; exact HL4.out) (HX4.out.trans HT.out.1.symm)
  by_cases g3 : kd = 3
  · skip
    have HT := Lib.hid (show actD (goodOf (xs ls)) kd n nm.toList b l = dropF (goodOf (xs ls)) nm.toList ∧ actE (goodOf (xs ls)) kd n nm.toList b = dropE (goodOf (xs ls)) nm.toList by
      rw [g3]; exact ⟨rfl, rfl⟩)
    have k3 : (kd == 3) = true := by simpa using g3
    have k0 : (kd == 0) = false := by simp; omega
    have k1 : (kd == 1) = false := by simp; omega
    have k2 : (kd == 2) = false := by simp; omega
    clear g3 g0 g1 g2
    obtain ⟨z1, z2, z3, z4, z5, z6, z7⟩ := CB.out w3 (Below.refl _ _)
    have q1 := cell_of_row w3 _ 0 _ 24 (0, 0) z7
    have q2 := unfrozen z7 0
    clear z7
    go_enter Try.func15, Try.ntmps15
    go_upto_region 1 with fail
    rw [← hw]
    clear hw
    clear q1 q2
    go_wp2_with fail
    refine (ddrop_any A c ls w3 HA.out HM.out nm HN.out.hs).mono ?_
    rintro e w4 ⟨hb4, A4, c4, l4, rfl, hL4, hx4⟩
    have HB4 := Lib.hid ((HB.out.trans (hb4.mono HB.out.size)).setCell (p := ⟨w.heap.size + 1 + 1, 0, none⟩) (by show w.heap.size ≤ w.heap.size + 1 + 1; omega) (.slice A4 l4.length c4))
    have HX4 := Lib.hid hx4
    have z7 := (CB.out w4 hb4).2.2.2.2.2.2
    have HL4 := Lib.hid (hL4.setBox z7 0 (.slice A4 l4.length c4))
    have q1 : w4.cell? ⟨w.heap.size + 1 + 1, 0, none⟩ = some (.slice none 0 0) := cell_of_row w4 _ 0 _ 24 (0, 0) z7
    have q2 := unfrozen z7 0
    clear hb4 hL4 hx4 z1 z2 z3 z4 z5 z6 z7
    go_wp2_with fail
    refine bodyPost_ret (v := .tuple #[.agg #[.slice A4 l4.length c4], .int .i64 (dropE (goodOf (xs ls)) nm.toList)]) (by simp [results, Try.results15, go_sem, q1]) rfl ?_
    exact de_end HT.out.2.symm HB4.out (by rw [size_set]; exact HL4.out) (HX4.out.trans HT.out.1.symm)
  have HT := Lib.hid (show actD (goodOf (xs ls)) kd n nm.toList b l = crash (goodOf (xs ls)) l ∧ actE (goodOf (xs ls)) kd n nm.toList b = 0 by
    unfold actD actE
    rw [if_neg g0, if_neg g1, if_neg g2, if_neg g3, if_neg g0, if_neg g1, if_neg g2, if_neg g3]; exact ⟨rfl, rfl⟩)
  have k0 : (kd == 0) = false := by simpa using g0
  have k1 : (kd == 1) = false := by simpa using g1
  have k2 : (kd == 2) = false := by simpa using g2
  have k3 : (kd == 3) = false := by simpa using g3
  clear g0 g1 g2 g3
  obtain ⟨z1, z2, z3, z4, z5, z6, z7⟩ := CB.out w3 (Below.refl _ _)
  have q1 := cell_of_row w3 _ 0 _ 24 (0, 0) z7
  have q2 := unfrozen z7 0
  clear z7
  go_enter Try.func15, Try.ntmps15
  go_upto_region 1 with fail
  rw [← hw]
  clear hw
  clear q1 q2
  go_wp2_with fail
  refine (dcrash_any A c ls w3 HA.out HM.out KA kc l HK.out.lk HN.out.hl HN.out.hx).mono ?_
  rintro e w4 ⟨hb4, A4, c4, l4, rfl, hL4, hx4⟩
  have HB4 := Lib.hid ((HB.out.trans (hb4.mono HB.out.size)).setCell (p := ⟨w.heap.size + 1 + 1, 0, none⟩) (by show w.heap.size ≤ w.heap.size + 1 + 1; omega) (.slice A4 l4.length c4))
  have HX4 := Lib.hid hx4
  have z7 := (CB.out w4 hb4).2.2.2.2.2.2
  have HL4 := Lib.hid (hL4.setBox z7 0 (.slice A4 l4.length c4))
  have q1 : w4.cell? ⟨w.heap.size + 1 + 1, 0, none⟩ = some (.slice none 0 0) := cell_of_row w4 _ 0 _ 24 (0, 0) z7
  have q2 := unfrozen z7 0
  clear hb4 hL4 hx4 z1 z2 z3 z4 z5 z6 z7
  go_wp2_with fail
  refine bodyPost_ret (v := .tuple #[.agg #[.slice A4 l4.length c4], .int .i64 0]) (by simp [results, Try.results15, go_sem, q1]) rfl ?_
  exact de_end HT.out.2.symm HB4.out (by rw [size_set]; exact HL4.out) (HX4.out.trans HT.out.1.symm)
end Go.Proofs.Ytdpmlpclhojcjaa
