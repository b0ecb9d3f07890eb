import Derived.Test.YtpgdddjjjfkneaaGreatDoorSdW
import Derived.Test.YtpgdddjjjfkneaaGreatDoorLawA
import Derived.Test.YtpgdddjjjfkneaaGreatDoorLawB
import Derived.Test.YtpgdddjjjfkneaaGreatDoorWd
import Derived.Test.YtpgdddjjjfkneaaGreatDoorWe
import Derived.Test.YtpgdddjjjfkneaaGreatDoorPtE
import Derived.Test.YtpgdddjjjfkneaaGreatDoorSl
import Derived.BigQuiet
import Derived.Deep.RegionHeld3
import Derived.Deep.RegionLaw
import Derived.Deep.DeepCutAuto
/-
  The contract of 'stepped': a superstep of a state in partitions. No condition but that the state is right and no sum below 0.
-/
namespace Go.Proofs.YtpgdddjjjfkneaaGreatDoor
open Go.ChangeShapes Go.WideShapes Go.ChangeAt Go.RowKit
set_option linter.unusedVariables false

theorem lcl_one (l : List Le) : ∀ u ∈ lcl l, u.oneCell' = true := by
  intro u hu; unfold lcl at hu; obtain ⟨x, _, rfl⟩ := List.mem_map.1 hu; rfl
theorem adz (g k : Nat) : (⟨g, 0, none⟩ : Addr).add k = ⟨g, k, none⟩ := by unfold Addr.add; split <;> simp_all
set_option maxRecDepth 20000 in
set_option maxHeartbeats 16000000 in
theorem stepped_any : StepsOk := by
  intro N A n c es p s l q S A1 c1 A2 c2 A3 c3 w hA hnc hn hS hr h40 hnn
  have mixed : Tryz.prog.follows .mixedOrders = true := by kernel_rfl
  obtain ⟨il, hil, hzl, hzsl, hzbl⟩ := info_parts (show (Tryz.prog.info? 37).map (fun i => (i.zero, i.size, i.bytes)) = some (some (.slice none 0 0), 1, 24) by kernel_rfl)
  have IL := Lib.hid hil
  have ZL := Lib.hid hzl
  have SL := Lib.hid hzsl
  have BL := Lib.hid hzbl
  clear hil hzl hzsl hzbl
  have HR := Lib.hid hr
  have H40 := Lib.hid h40
  have HNN := Lib.hid hnn
  have HOK := Lib.hid hS.ok
  have HQ6 := Lib.hid (badJ_not (jchk_zero (right_of hr).1).2)
  have HN24 := Lib.hid (jchk_N (right_of hr).1)
  obtain ⟨w4, hw4⟩ : ∃ w4, w4 = (((w.alloc (.cells #[.int .i64 N, .slice A n c] 27)).alloc (.cells #[.int .i64 p, .int .i64 s, .int .i64 l, .int .i64 q] 23)).alloc (.cells #[.int .i64 S.step, .slice A1 S.vals.length c1, .slice A2 S.rest.length c2, .slice A3 S.inn.length c3] 39)).alloc (.cells #[.int .i64 0, .slice none 0 0, .slice none 0 0, .slice none 0 0] 39) := ⟨_, rfl⟩
  have hbs : Bs w N A n c p s l q S A1 c1 A2 c2 A3 c3 w4 := by rw [hw4]; exact (Bs.init w N A n c p s l q S A1 c1 A2 c2 A3 c3).alloc _
  have H4 := Lib.hid (fun (W : World) (hb : Below w4.heap.size w4 W) => fourth w _ _ _ _ W (by rw [hw4] at hb; exact hb))
  have HBS := Lib.hid hbs
  have HS := Lib.hid (hS.next hbs.x.bl)
  have HA := Lib.hid (hA.next hbs.x.bl)
  have HW4 := Lib.hid hbs.x.bl.size
  clear hbs hS hA hr h40 hnn
  go_enter Tryz.func11, Tryz.ntmps11
  go_wp2_with fail
  rw [← hw4]
  clear hw4
  refine (split_any N A n c es p s l q S A1 c1 A2 c2 A3 c3 _ HA.out hnc hn HS.out).mono ?_
  rw [show splitR N es p s l q S = ((List.range q.toNat).map (cutP N.toNat q.toNat S), 0) by unfold splitR; rw [if_pos (right_of HR.out).1, if_pos HR.out]]
  rintro e w8 ⟨hb8, D, d, ls, rfl, hP, hx, hpsp⟩
  have HLN := Lib.hid (show ls.length = q.toNat by have := congrArg List.length hx; simpa using this)
  have HFR := Lib.hid (show From (cutP N.toNat q.toNat S) 0 ls from fun k h _ => by
    have h2 := congrArg (fun l => l[k]?) hx
    have hk : k < q.toNat := by rw [← HLN.out]; exact h
    have h3 : (ls.map Pe.x)[k]? = some ls[k].x := by rw [List.getElem?_map, List.getElem?_eq_getElem h]; rfl
    rw [h3] at h2
    have h4 : ((List.range q.toNat).map (cutP N.toNat q.toNat S))[k]? = some (cutP N.toNat q.toNat S k) := by rw [List.getElem?_map, List.getElem?_range hk]; rfl
    rw [h4] at h2
    exact Option.some.inj h2)
  obtain ⟨m, hm⟩ : ∃ m : Nat, m = q.toNat := ⟨_, rfl⟩
  have HM := Lib.hid hm
  have HQM := Lib.hid (show q = (m : Int) by have := HQ6.out; omega)
  have hm6 : 1 ≤ m ∧ m ≤ 6 := by have := HQ6.out; omega
  have hlm : ls.length = m := by rw [HLN.out, hm]
  obtain ⟨gl, rfl, hdl, hpsp⟩ := hpsp (fun h => by rw [h] at hlm; simp at hlm; omega)
  have HLW := Lib.hid (show Lw w4 w8.heap.size (some ⟨gl, 0, none⟩) m ls (List.replicate m noLi) (w8.alloc (.cells (madeCells #[.slice none 0 0] m) 65)) by have h := Lw.start2 hpsp m hm6.2; rw [hlm] at h; exact h)
  have HB8 := Lib.hid hb8
  have HX8 := Lib.hid (HBS.out.next hb8)
  have HLM := Lib.hid hlm
  have hlq : ((m : Int) != q) = false := by rw [HQM.out]; simp
  have j3 := HX8.out.x.j3
  have hmk : (Instr.makeSlice 62 (.int .i64 q) (.int .i64 q)).run Tryz.prog w8 = .ok (.slice (some ⟨w8.heap.size, 0, none⟩) m m) (w8.alloc (.cells (madeCells #[.slice none 0 0] m) 65)) := by
    rw [HQM.out]; exact run_make_row' 62 65 (.slice none 0 0) 24 Tryz.underlying62 (by kernel_rfl) rfl .i64 .i64 m (by omega) (by omega) w8
  subst hdl
  rw [hlm]
  clear hm hlm hb8 hP hx hpsp
  go_wp2_with fail
  generalize w8.alloc (.cells (madeCells #[.slice none 0 0] m) 65) = w9 at *
  obtain ⟨g, hgg⟩ : ∃ g, g = w8.heap.size := ⟨_, rfl⟩
  rw [← hgg] at HLW ⊢
  clear hmk j3 hlq hgg HX8
  go_loopw [12] (fun i W => D1Rel2 N es p s l q S m w4 g gl i W) (fun i W => m - (intOf i).toNat)
  case atStart => exact ⟨0, ls, List.replicate m noLi, rfl, Nat.zero_le _, HLM, HFR, Lib.hid (by rw [HM.out]; exact Lm.start), HLW⟩
  case round =>
    clear HLW HFR HLM HLN
    obtain ⟨wo, rfl⟩ : ∃ wo : World, wo = wr := ⟨_, rfl⟩
    obtain ⟨i, cur, L, rfl, hi, HCL, HFR, HLm, HLw⟩ := hrel
    have HBW := Lib.hid HLw.out.mo.bl
    have HXW := Lib.hid (HBS.out.next HBW.out)
    by_cases hlt : i < m
    · have hic : i < cur.length := by rw [HCL.out]; exact hlt
      have him : (i : Int) < (m : Int) := by omega
      have HPW := Lib.hid HLw.out.pls
      obtain ⟨ad, hDD, hadb, x0, x1, x2, x3, x4⟩ := Lies.pe HPW.out.L i hic
      injection hDD with hDD
      subst hDD
      rw [adz] at x0 x1 x2 x3 x4
      have HXI := Lib.hid (HFR.out i hic (Nat.le_refl _))
      have HAT := Lib.hid (HPW.out.at i hic)
      generalize cur[i].P = KP at *
      generalize cur[i].S = KS at *
      generalize cur[i].A1 = K1 at *
      generalize cur[i].A2 = K2 at *
      generalize cur[i].A3 = K3 at *
      generalize cur[i].c1 = k1 at *
      generalize cur[i].c2 = k2 at *
      generalize cur[i].c3 = k3 at *
      have HAW := Lib.hid (HA.out.next HBW.out)
      have CD := Lib.hid (fun (W : World) (hb : Below wo.heap.size wo W) => show Calls Tryz.prog 21 #[.agg #[.int .i64 N, .slice A n c], .agg #[.int .i64 p, .int .i64 s, .int .i64 l, .int .i64 q], .agg #[.int .i64 KP, .int .i64 KS.step, .slice K1 KS.vals.length k1, .slice K2 KS.rest.length k2, .slice K3 KS.inn.length k3]] W (DoPost (dI N es p s l q S i) W) by
        have h := do_any N A n c es p s l q KP KS K1 k1 K2 k2 K3 k3 W (HAW.out.next hb) hnc hn (HAT.out.next hb)
        rw [HXI.out] at h
        exact h)
      obtain ⟨r, hr⟩ : ∃ r, r = dI N es p s l q S i := ⟨_, rfl⟩
      have HRI := Lib.hid hr
      rw [← hr] at CD
      clear hr
      have HF := Lib.hid (show ∀ W : World, Below wo.heap.size wo W → W.cell? ⟨w.heap.size, 0, none⟩ = some (.int .i64 N) ∧ W.cell? ⟨w.heap.size, 1, none⟩ = some (.slice A n c) ∧ W.cell? ⟨w.heap.size + 1, 0, none⟩ = some (.int .i64 p) ∧ W.cell? ⟨w.heap.size + 1, 1, none⟩ = some (.int .i64 s) ∧ W.cell? ⟨w.heap.size + 1, 2, none⟩ = some (.int .i64 l) ∧ W.cell? ⟨w.heap.size + 1, 3, none⟩ = some (.int .i64 q) ∧ W.cell? ⟨gl, i * 5, none⟩ = some (.int .i64 KP) ∧ W.cell? ⟨gl, i * 5 + 1, none⟩ = some (.int .i64 KS.step) ∧ W.cell? ⟨gl, i * 5 + 2, none⟩ = some (.slice K1 KS.vals.length k1) ∧ W.cell? ⟨gl, i * 5 + 3, none⟩ = some (.slice K2 KS.rest.length k2) ∧ W.cell? ⟨gl, i * 5 + 4, none⟩ = some (.slice K3 KS.inn.length k3) by
        intro W hb
        have h := HXW.out.next hb
        have K : ∀ (a : Addr) (v : Value), wo.cell? a = some v → W.cell? a = some v := fun a v h => (hb.cell (p := a) (World.block_lt_of_cell? wo a h)).trans h
        exact ⟨h.x.g0, h.x.g1, h.x.j0, h.x.j1, h.x.j2, h.x.j3, K _ _ x0, K _ _ x1, K _ _ x2, K _ _ x3, K _ _ x4⟩)
      have B0 := Lib.hid (show Below wo.heap.size wo wo.drew from (Below.refl _ _).drew)
      have BZ := Lib.hid (show Below wo.heap.size wo (wo.alloc (.cells #[.int .i64 0, .int .i64 0, .slice none 0 0, .slice none 0 0, .slice none 0 0] 64)).drew from ((Below.refl _ _).alloc (Nat.le_refl _) _).drew)
      have ZB := Lib.hid (show (wo.alloc (.cells #[.int .i64 0, .int .i64 0, .slice none 0 0, .slice none 0 0, .slice none 0 0] 64)).drew.heap[wo.heap.size]? = some (.cells #[.int .i64 0, .int .i64 0, .slice none 0 0, .slice none 0 0, .slice none 0 0] 64) from heap_alloc_new _ _)
      have HB5 := Lib.hid (show ∀ (W : World) (b : Nat) (u0 u1 u2 u3 u4 : Value), Below wo.heap.size wo W → wo.heap.size ≤ b → Below wo.heap.size wo (((((W.setCell ⟨b, 0, none⟩ u0).setCell ⟨b, 1, none⟩ u1).setCell ⟨b, 2, none⟩ u2).setCell ⟨b, 3, none⟩ u3).setCell ⟨b, 4, none⟩ u4) from fun W b u0 u1 u2 u3 u4 h hle => ((((h.setCell (p := ⟨b, 0, none⟩) hle _).setCell (p := ⟨b, 1, none⟩) hle _).setCell (p := ⟨b, 2, none⟩) hle _).setCell (p := ⟨b, 3, none⟩) hle _).setCell (p := ⟨b, 4, none⟩) hle _)
      go_upto_region 8 with fail
      have q0 := HF.out _ B0.out
      clear x0 x1 x2 x3 x4 hadb
      go_cut [13, 14, 15] (fun s14 s15 s16 W => DoCut r wo s14 s15 s16 W)
      case first =>
        go_region_held3 (fun w' => w'.cell? ⟨w.heap.size, 0, none⟩ = some (.int .i64 N) ∧ w'.cell? ⟨w.heap.size, 1, none⟩ = some (.slice A n c) ∧ w'.cell? ⟨w.heap.size + 1, 0, none⟩ = some (.int .i64 p) ∧ w'.cell? ⟨w.heap.size + 1, 1, none⟩ = some (.int .i64 s) ∧ w'.cell? ⟨w.heap.size + 1, 2, none⟩ = some (.int .i64 l) ∧ w'.cell? ⟨w.heap.size + 1, 3, none⟩ = some (.int .i64 q) ∧ w'.cell? ⟨gl, i * 5, none⟩ = some (.int .i64 KP) ∧ w'.cell? ⟨gl, i * 5 + 1, none⟩ = some (.int .i64 KS.step) ∧ w'.cell? ⟨gl, i * 5 + 2, none⟩ = some (.slice K1 KS.vals.length k1) ∧ w'.cell? ⟨gl, i * 5 + 3, none⟩ = some (.slice K2 KS.rest.length k2) ∧ w'.cell? ⟨gl, i * 5 + 4, none⟩ = some (.slice K3 KS.inn.length k3))
          (first | with_reducible exact q1 | with_reducible exact q0 | with_reducible exact HF.out _ BZ.out | with_reducible exact HF.out _ (B7.out.alloc B7.out.size _) | with_reducible exact HF.out _ (HB5.out _ _ _ _ _ _ _ B7.out (Nat.le_refl _)))
          (first | ((go_at_call 21); (with_reducible refine (CD.out _ BZ.out).mono ?_); rintro e w7 ⟨hb7, Q, T, Z1, z1, Z2, z2, Z3, z3, DO, os, rfl, hx, hm, hZ, hDO, t1, t2, t3, t4, t5⟩; have B7 := Lib.hid (BZ.out.trans (hb7.mono BZ.out.size)); have HZ := Lib.hid hZ; have HDO := Lib.hid hDO; have T1 := Lib.hid t1; have T2 := Lib.hid t2; have T3 := Lib.hid t3; have T4 := Lib.hid t4; have T5 := Lib.hid t5; have HXM := Lib.hid hx; have HMM := Lib.hid hm; have q1 := HF.out _ B7.out; have z6 := (hb7.block wo.heap.size (lt_of_block ZB.out)).trans ZB.out; have r0 := cell_of_row w7 _ 0 _ 64 (0, 0) z6; have f0 := unfrozen z6 0; have r1 := cell_of_row w7 _ 1 _ 64 (0, 0) z6; have f1 := unfrozen z6 1; have r2 := cell_of_row w7 _ 2 _ 64 (0, 0) z6; have f2 := unfrozen z6 2; have r3 := cell_of_row w7 _ 3 _ 64 (0, 0) z6; have f3 := unfrozen z6 3; have r4 := cell_of_row w7 _ 4 _ 64 (0, 0) z6; have f4 := unfrozen z6 4; have Z6 := Lib.hid z6; clear hb7 hZ hDO hx hm t1 t2 t3 t4 t5 z6 q0) | ((go_at_call 21); (with_reducible refine (CD.out _ B0.out).mono ?_); rintro e w7 ⟨hb7, Q, T, Z1, z1, Z2, z2, Z3, z3, DO, os, rfl, hx, hm, hZ, hDO, t1, t2, t3, t4, t5⟩; have B7 := Lib.hid (B0.out.trans (hb7.mono B0.out.size)); have HZ := Lib.hid hZ; have HDO := Lib.hid hDO; have T1 := Lib.hid t1; have T2 := Lib.hid t2; have T3 := Lib.hid t3; have T4 := Lib.hid t4; have T5 := Lib.hid t5; have HXM := Lib.hid hx; have HMM := Lib.hid hm; have q1 := HF.out _ B7.out; clear hb7 hZ hDO hx hm t1 t2 t3 t4 t5 q0) | fail)
        all_goals
          go_wp2_with fail
          go_meet
          first
            | exact ⟨_, Q, T, Z1, z1, Z2, z2, Z3, z3, DO, os, rfl, rfl, rfl, B7.out.alloc B7.out.size _, heap_alloc_new _ _, HXM.out, HMM.out, HZ.out.next (below_alloc _ _), HDO.out.next (below_alloc _ _), T1.out, T2.out, T3.out, T4.out, T5.out⟩
            | exact ⟨_, Q, T, Z1, z1, Z2, z2, Z3, z3, DO, os, rfl, rfl, rfl, HB5.out _ _ _ _ _ _ _ B7.out (Nat.le_refl _), set_heap (set_heap (set_heap (set_heap (set_heap Z6.out _) _) _) _) _, HXM.out, HMM.out, HZ.out.five T1.out T2.out T3.out (lt_of_block ZB.out) _ _ _ _ _, HDO.out.five T4.out T5.out (lt_of_block ZB.out) _ _ _ _ _, T1.out.low BZ.out.size, T2.out.low BZ.out.size, T3.out.low BZ.out.size, T4.out.low BZ.out.size, fun e he => (T5.out e he).low BZ.out.size⟩
      case rest =>
        obtain ⟨bz, Q, T, Z1, z1, Z2, z2, Z3, z3, DO, os, rfl, rfl, rfl, hb, hz, hx, hm, hZ, hDO, t1, t2, t3, t4, t5⟩ := hcut
        have HLw1 := Lib.hid (HLw.out.next hb)
        have HBC := Lib.hid (HBW.out.trans (hb.mono HBW.out.size))
        have HFP := Lib.hid (FxP.new (e := ⟨Q, T, Z1, z1, Z2, z2, Z3, z3⟩) HLw.out.mo hZ t1 t2 t3)
        have HLO := Lib.hid (show Lo g (.slice (some ⟨gl, 0, none⟩) cur.length m) L DO os wc from ⟨Fx.new HLw.out.mo hDO.L t4, fun e he => Fx.new HLw.out.mo (hDO.el e he) (t5 e he)⟩)
        have HAZ := Lib.hid hz
        have HXM := Lib.hid hx
        have HMM := Lib.hid hm
        clear hb hz hx hm hZ hDO t1 t2 t3 t4 t5 q0 HF B0 BZ ZB HB5 CD HAW HAT HPW HXW
        by_cases he : r.2.2 = 0
        · have h0 : (doR N es p s l q (mkP KP KS)).2.2 = 0 := by
            rw [HXI.out]
            have := HRI.out
            unfold dI at this
            rw [← this]; exact he
          have hr0 : (dI N es p s l q S i).2.2 = 0 := by rw [← HRI.out]; exact he
          have hg2 := (doR_good h0).2.2.2
          have hol : os.length = m := by
            have h1 := congrArg List.length HMM.out
            rw [List.length_map] at h1
            rw [h1, HRI.out]
            unfold dI
            rw [← HXI.out, hg2, HM.out]
            simp
          have HOL := Lib.hid hol
          have HOM := Lib.hid (show ∀ k (h : k < os.length), os[k].ms = (dI N es p s l q S i).2.1.getD k [] from fun k h => by
            have h2 := HMM.out
            rw [HRI.out] at h2
            rw [← h2]
            simp [List.getD_eq_getElem?_getD, List.getElem?_map, List.getElem?_eq_getElem h])
          have hoq : ((os.length : Int) != q) = false := by rw [HQM.out, hol]; simp
          have HLk0 := Lib.hid (show Lk N es p s l q S i 0 ((cur.set i ⟨Q, T, Z1, z1, Z2, z2, Z3, z3⟩).take (i + 1)) L by
            rw [take_set hic]
            exact HLm.out.done (e := ⟨Q, T, Z1, z1, Z2, z2, Z3, z3⟩) (by show mkP Q T = _; rw [← HRI.out]; exact HXM.out) hr0)
          have HFR2 := Lib.hid (HFR.out.set ⟨Q, T, Z1, z1, Z2, z2, Z3, z3⟩)
          have HCL2 := Lib.hid (show (cur.set i ⟨Q, T, Z1, z1, Z2, z2, Z3, z3⟩).length = m by rw [List.length_set]; exact HCL.out)
          have HLw2 := Lib.hid (HLw1.out.setP i HFP.out)
          have HLO2 := Lib.hid (show Lo g (.slice (some ⟨gl, 0, none⟩) (cur.set i ⟨Q, T, Z1, z1, Z2, z2, Z3, z3⟩).length m) L DO os _ from by rw [List.length_set]; exact HLO.out.setP rfl i ⟨Q, T, Z1, z1, Z2, z2, Z3, z3⟩)
          have j3 := (HBS.out.next HBC.out).x.j3
          have y0 := cell_of_row _ bz 0 _ 64 (0, 0) HAZ.out
          have y1 := cell_of_row _ bz 1 _ 64 (0, 0) HAZ.out
          have y2 := cell_of_row _ bz 2 _ 64 (0, 0) HAZ.out
          have y3 := cell_of_row _ bz 3 _ 64 (0, 0) HAZ.out
          have y4 := cell_of_row _ bz 4 _ 64 (0, 0) HAZ.out
          obtain ⟨HCE, HFZ⟩ := HLw1.out.cells i hic
          obtain ⟨v0, x0⟩ := HCE 0 (by decide)
          obtain ⟨v1, x1⟩ := HCE 1 (by decide)
          obtain ⟨v2, x2⟩ := HCE 2 (by decide)
          obtain ⟨v3, x3⟩ := HCE 3 (by decide)
          obtain ⟨v4, x4⟩ := HCE 4 (by decide)
          rw [Nat.add_zero] at x0
          have f0 := HFZ (i * 5)
          have f1 := HFZ (i * 5 + 1)
          have f2 := HFZ (i * 5 + 2)
          have f3 := HFZ (i * 5 + 3)
          have f4 := HFZ (i * 5 + 4)
          clear HCE HFZ
          dsimp only at HLw2 HLO2
          generalize cur.set i ⟨Q, T, Z1, z1, Z2, z2, Z3, z3⟩ = cur2 at *
          rw [he]
          clear he h0 hr0 hg2 hol HXI HRI HXM HMM HFP HLO HLw1 HLw HLm HFR hic
          go_upto_region 14 with fail
          clear x0 x1 x2 x3 x4 f0 f1 f2 f3 f4 y0 y1 y2 y3 y4 j3 hoq HAZ HBC
          generalize (((((wc.setCell ⟨gl, i * 5, none⟩ (.int .i64 Q)).setCell ⟨gl, i * 5 + 1, none⟩ (.int .i64 T.step)).setCell ⟨gl, i * 5 + 2, none⟩ (.slice Z1 T.vals.length z1)).setCell ⟨gl, i * 5 + 3, none⟩ (.slice Z2 T.rest.length z2)).setCell ⟨gl, i * 5 + 4, none⟩ (.slice Z3 T.inn.length z3)) = w5 at HLw2 HLO2 ⊢
          go_wp2_with fail
          go_loopw [16] (fun i' W => D2Rel2 N es p s l q S m i w4 g gl cur2 DO os i' W) (fun i' W => m - (intOf i').toNat)
          case atStart => exact ⟨0, L, rfl, Nat.zero_le _, HLk0, HLw2, HLO2⟩
          case round =>
            clear HLk0 HLw2 HLO2
            obtain ⟨k, L, rfl, hk, HLk, HLw, HLo⟩ := hrel
            have j3 := (HBS.out.next HLw.out.mo.bl).x.j3
            by_cases hkm : k < m
            · have hkq : (k : Int) < q := by have := HQM.out; omega
              have hkM : (k : Int) < (m : Int) := by omega
              have hkL : k < L.length := by rw [HLk.out.ll, ← HM.out]; exact hkm
              have hko : k < os.length := by rw [HOL.out]; exact hkm
              have hkO : (k : Int) < (os.length : Int) := by omega
              have hosl : os.length ≤ 6 := by rw [HOL.out]; exact hm6.2
              obtain ⟨ad2, hDO, had2, u2⟩ := HLo.out.row.1.2 k _ (lcl_at os k hko)
              subst hDO
              have HXK := Lib.hid (HOM.out k hko)
              have HFX := Lib.hid (HLo.out.el os[k] (List.getElem_mem hko))
              generalize os[k] = x at *
              have HR1 := Lib.hid (HLk.out.row hkL)
              obtain ⟨W8, hW8⟩ : ∃ W8, W8 = (wr.alloc (.cells #[.slice x.A x.ms.length x.c] 37)).drew := ⟨_, rfl⟩
              have HB8' := Lib.hid (show Below wr.heap.size wr W8 by rw [hW8]; exact (below_alloc _ _).drew)
              have HLw8 := Lib.hid (HLw.out.next HB8'.out)
              have HLo8 := Lib.hid (HLo.out.next HB8'.out)
              have HFX8 := Lib.hid (Fx.next HFX.out HB8'.out)
              obtain ⟨RA, hRA⟩ : ∃ RA, RA = L[k].A := ⟨_, rfl⟩
              obtain ⟨Rn, hRn⟩ : ∃ Rn, Rn = L[k].ls.length := ⟨_, rfl⟩
              obtain ⟨Rc, hRc⟩ : ∃ Rc, Rc = L[k].c := ⟨_, rfl⟩
              have hLv : L[k].v = .slice RA Rn Rc := by rw [hRA, hRn, hRc]; rfl
              have u1 : wr.cell? ⟨g, k, none⟩ = some (.slice RA Rn Rc) := by rw [hRA, hRn, hRc]; exact HLw.out.cell k hkL
              have u3 : (wr.alloc (.cells #[.slice x.A x.ms.length x.c] 37)).cell? ⟨g, k, none⟩ = some (.slice RA Rn Rc) := (World.cell?_alloc_lt wr _ _ HLw.out.mo.glt).trans u1
              have u4 : (wr.alloc (.cells #[.slice x.A x.ms.length x.c] 37)).cell? (ad2.add k) = some (.slice x.A x.ms.length x.c) := (World.cell?_alloc_lt wr _ _ (by rw [block_add]; exact had2)).trans u2
              have HR8 := Lib.hid (show W8.ownsRow w4.heap.size 37 1 (.slice RA Rn Rc) Rn (lcl L[k].ls) by rw [hRA, hRn, hRc]; exact HLw8.out.row k hkL)
              have HL7 := Lib.hid (show Lies W8 (wr.heap.size + 1) 1 (some ⟨wr.heap.size, 0, none⟩) 1 (lcl [x]) by rw [hW8]; exact lies_cells wr (lcl [x]) 37 1 1 rfl)
              have hRn6 : Rn ≤ 6 := by rw [hRn, HR1.out]; omega
              have PUT := Lib.hid (show ∀ (A' : Option Addr) (c' : Nat) (w' : World), w'.ownsRow w4.heap.size 37 1 (.slice A' (Rn + 1) c') (Rn + 1) (lcl L[k].ls ++ lcl [x]) → Below w4.heap.size W8 w' → W8.grownBy w' (Value.slice RA Rn Rc).ownBlock → ((Value.slice A' (Rn + 1) c').ownBlock = (Value.slice RA Rn Rc).ownBlock ∨ (Value.slice A' (Rn + 1) c').ownBlock = some W8.heap.size) →
                  (Lw w4 g (some ⟨gl, 0, none⟩) m cur2 (L.set k ⟨A', c', L[k].ls ++ [x]⟩) (w'.setCell ⟨g, k, none⟩ (.slice A' (Rn + 1) c')) ∧ w'.cell? ⟨g, k, none⟩ = some (.slice RA Rn Rc) ∧ w'.frozen? ⟨g, k, none⟩ = false) ∧ Lo g (.slice (some ⟨gl, 0, none⟩) cur2.length m) (L.set k ⟨A', c', L[k].ls ++ [x]⟩) (some ad2) os (w'.setCell ⟨g, k, none⟩ (.slice A' (Rn + 1) c')) from fun A' c' w' ho hb hg hw => by
                rw [← hLv] at hg hw
                have h1 := HLw8.out.put k hkL HFX8.out (n := Rn + 1) (by rw [hRn]) ho hb hg hw
                rw [hLv] at h1
                exact ⟨h1, HLo8.out.put hkL (by rw [hRn]) hg hw⟩)
              have HLKP := Lib.hid (fun (A' : Option Addr) (c' : Nat) => HLk.out.put hkL HXK.out A' c')
              generalize L[k].ls = Rls at *
              have HBB := Lib.hid HLw8.out.mo.bl.size
              rw [hW8] at HR8 HL7 PUT HBB
              clear hW8 HB8' HLw8 HLo8 HFX8 hRA hRn hRc hLv HFX HXK HR1 had2
              go_wp2_with fail
              go_region_law (first | (refine step_own3 rfl _ _ 65 rfl w4.heap.size 37 il _ 1 24 Tryz.underlying65 IL.out ZL.out SL.out BL.out rfl (by decide) RA Rn Rc (lcl Rls) (by simp [Act.eval]) HR8.out (wr.heap.size + 1) (some ⟨wr.heap.size, 0, none⟩) 1 1 (lcl [x]) (by simp [Act.eval]) HL7.out (lcl_one _) (by unfold maxLen; omega) (by omega) HBB.out ?_; intro A9 c9 w9 ho9 hb9 hg9 hw9; obtain ⟨⟨hp9, t9, f9⟩, ho9'⟩ := PUT.out A9 c9 w9 ho9 hb9 hg9 hw9; have HP9 := Lib.hid hp9; have HO9 := Lib.hid ho9'; clear hp9 ho9') | fail)
              all_goals
                clear u1 u2 u3 u4 ho9 hb9 hg9 hw9 t9 f9 HR8 HL7 PUT
                go_wp2_with fail
                go_roundw
                case rel => exact ⟨k + 1, _, by go_num, by omega, Lib.hid (HLKP.out A9 c9), HP9, HO9⟩
                case measure => simp [intOf]; omega
            · have hk' : k = m := by omega
              subst hk'
              have hkq : ¬ (k : Int) < q := by have := HQM.out; omega
              go_wp2_with fail
              go_roundw
              case rel => exact ⟨i + 1, cur2, L, by go_num, by omega, HCL2, HFR2, Lib.hid (HLk.out.all (by rw [HLk.out.ll, ← HM.out]; exact Nat.le_refl _)), HLw⟩
              case measure => simp [intOf]; omega
        · have hbad := do_bad HR.out H40.out HOK.out HNN.out (k := i) (by rw [← HM.out]; exact hlt) (by have := HRI.out; unfold dI at this; rw [← this]; exact he)
          have h8 : r.2.2 = 8 := by rw [HRI.out]; exact hbad.1
          have S8 := Lib.hid hbad.2
          rw [h8]
          clear he hbad h8
          have z2 := H4.out _ HBC.out
          have HBX := Lib.hid (HBS.out.next HBC.out).x.bl
          have r0 := cell_of_row _ (w.heap.size + 1 + 1 + 1) 0 _ 39 (0, 0) z2
          have f0 := unfrozen z2 0
          have r1 := cell_of_row _ (w.heap.size + 1 + 1 + 1) 1 _ 39 (0, 0) z2
          have f1 := unfrozen z2 1
          have r2 := cell_of_row _ (w.heap.size + 1 + 1 + 1) 2 _ 39 (0, 0) z2
          have f2 := unfrozen z2 2
          have r3 := cell_of_row _ (w.heap.size + 1 + 1 + 1) 3 _ 39 (0, 0) z2
          have f3 := unfrozen z2 3
          clear z2
          go_wp2_with fail
          refine bodyPost_ret (v := .tuple #[.agg #[.int .i64 0, .slice none 0 0, .slice none 0 0, .slice none 0 0], .bool true, .bool true]) (by simp [results, Tryz.results11, go_sem, r0, r1, r2, r3]) rfl ?_
          exact ⟨((((HBX.out.setCell (by simp; omega) _).setCell (by simp; omega) _).setCell (by simp; omega) _).setCell (by simp; omega) _), .inr ⟨S8.out, rfl⟩⟩
    · have hi' : i = m := by omega
      have HDID := Lib.hid (do_all HR.out H40.out (fun k hk => HLm.out.ok k (by rw [hi', HM.out]; exact hk)))
      have htk : cur.take i = cur := List.take_of_length_le (by rw [HCL.out]; omega)
      have HLq := Lib.hid (show Lm N es p s l q S q.toNat cur L by rw [← HM.out, ← hi']; have h := HLm.out; rw [htk] at h; exact h)
      have HLL := Lib.hid (show L.length = m by rw [HLq.out.ll, HM.out])
      have HFX0 := Lib.hid (show From (fun j => doX N es p s l q (cutP N.toNat q.toNat S j)) 0 cur from fun j hj _ => HLq.out.did_x HDID.out hj)
      have him : ¬ (i : Int) < (m : Int) := by omega
      clear hlt hi' htk HXW HBW HLm HFR
      go_wp2_with fail
      go_loopw [17] (fun i W => T1Rel2 N es p s l q S m w4 g gl L i W) (fun i W => m - (intOf i).toNat)
      case atStart => exact ⟨0, cur, rfl, Nat.zero_le _, HCL, HFX0, Lib.hid ⟨rfl, fun j h => absurd h (Nat.not_lt_zero _), fun j h => absurd h (Nat.not_lt_zero _)⟩, HLw⟩
      case round =>
        obtain ⟨wo, rfl⟩ : ∃ wo : World, wo = wr := ⟨_, rfl⟩
        clear hi HLw HFX0 HCL
        obtain ⟨i, cur, rfl, hi, HCL, HFR, HLt, HLw⟩ := hrel
        have HBW := Lib.hid HLw.out.mo.bl
        have HXW := Lib.hid (HBS.out.next HBW.out)
        by_cases hlt : i < m
        · have hic : i < cur.length := by rw [HCL.out]; exact hlt
          have him : (i : Int) < (m : Int) := by omega
          have HPW := Lib.hid HLw.out.pls
          obtain ⟨ad, hDD, hadb, x0, x1, x2, x3, x4⟩ := Lies.pe HPW.out.L i hic
          injection hDD with hDD
          subst hDD
          rw [adz] at x0 x1 x2 x3 x4
          have HXI := Lib.hid (show mkP cur[i].P cur[i].S = doX N es p s l q (cutP N.toNat q.toNat S i) from HFR.out i hic (Nat.le_refl _))
          have HAT := Lib.hid (HPW.out.at i hic)
          generalize cur[i].P = KP at *
          generalize cur[i].S = KS at *
          generalize cur[i].A1 = K1 at *
          generalize cur[i].A2 = K2 at *
          generalize cur[i].A3 = K3 at *
          generalize cur[i].c1 = k1 at *
          generalize cur[i].c2 = k2 at *
          generalize cur[i].c3 = k3 at *
          have hiL : i < L.length := by rw [HLL.out]; exact hlt
          have HLS := Lib.hid (HLw.out.lls i hiL)
          have u1 := HLw.out.cell i hiL
          have HIN := Lib.hid (HLq.out.ins HDID.out hiL)
          have HRL := Lib.hid (HLq.out.row hiL)
          have HIF := Lib.hid (insK_facts HR.out HOK.out HNN.out i)
          generalize L[i].A = RA at *
          generalize L[i].c = Rc at *
          generalize L[i].ls = Rls at *
          have HAW := Lib.hid (HA.out.next HBW.out)
          have CD := Lib.hid (fun (W : World) (hb : Below wo.heap.size wo W) => show Calls Tryz.prog 22 #[.agg #[.int .i64 N, .slice A n c], .agg #[.int .i64 p, .int .i64 s, .int .i64 l, .int .i64 q], .agg #[.int .i64 KP, .int .i64 KS.step, .slice K1 KS.vals.length k1, .slice K2 KS.rest.length k2, .slice K3 KS.inn.length k3], .slice RA Rls.length Rc] W (TkPost (tI N es p s l q S i) W) by
            have h := take_any N A n c es p s l q KP KS K1 k1 K2 k2 K3 k3 RA Rc Rls W (HAW.out.next hb) hnc hn (HAT.out.next hb) (HLS.out.next hb) (by have := HRL.out; have := HQ6.out; omega) (by rw [HIN.out]; exact HIF.out.1) (by rw [HIN.out]; exact HIF.out.2)
            rw [HXI.out, HIN.out] at h
            exact h)
          obtain ⟨r, hr⟩ : ∃ r, r = tI N es p s l q S i := ⟨_, rfl⟩
          have HRI := Lib.hid hr
          rw [← hr] at CD
          clear hr
          have HF := Lib.hid (show ∀ W : World, Below wo.heap.size wo W → W.cell? ⟨w.heap.size, 0, none⟩ = some (.int .i64 N) ∧ W.cell? ⟨w.heap.size, 1, none⟩ = some (.slice A n c) ∧ W.cell? ⟨w.heap.size + 1, 0, none⟩ = some (.int .i64 p) ∧ W.cell? ⟨w.heap.size + 1, 1, none⟩ = some (.int .i64 s) ∧ W.cell? ⟨w.heap.size + 1, 2, none⟩ = some (.int .i64 l) ∧ W.cell? ⟨w.heap.size + 1, 3, none⟩ = some (.int .i64 q) ∧ W.cell? ⟨gl, i * 5, none⟩ = some (.int .i64 KP) ∧ W.cell? ⟨gl, i * 5 + 1, none⟩ = some (.int .i64 KS.step) ∧ W.cell? ⟨gl, i * 5 + 2, none⟩ = some (.slice K1 KS.vals.length k1) ∧ W.cell? ⟨gl, i * 5 + 3, none⟩ = some (.slice K2 KS.rest.length k2) ∧ W.cell? ⟨gl, i * 5 + 4, none⟩ = some (.slice K3 KS.inn.length k3) ∧ W.cell? ⟨g, i, none⟩ = some (.slice RA Rls.length Rc) by
            intro W hb
            have h := HXW.out.next hb
            have K : ∀ (a : Addr) (v : Value), wo.cell? a = some v → W.cell? a = some v := fun a v h => (hb.cell (p := a) (World.block_lt_of_cell? wo a h)).trans h
            exact ⟨h.x.g0, h.x.g1, h.x.j0, h.x.j1, h.x.j2, h.x.j3, K _ _ x0, K _ _ x1, K _ _ x2, K _ _ x3, K _ _ x4, K _ _ u1⟩)
          have B0 := Lib.hid (show Below wo.heap.size wo wo.drew from (Below.refl _ _).drew)
          have BZ := Lib.hid (show Below wo.heap.size wo (wo.alloc (.cells #[.int .i64 0, .int .i64 0, .slice none 0 0, .slice none 0 0, .slice none 0 0] 64)).drew from ((Below.refl _ _).alloc (Nat.le_refl _) _).drew)
          have ZB := Lib.hid (show (wo.alloc (.cells #[.int .i64 0, .int .i64 0, .slice none 0 0, .slice none 0 0, .slice none 0 0] 64)).drew.heap[wo.heap.size]? = some (.cells #[.int .i64 0, .int .i64 0, .slice none 0 0, .slice none 0 0, .slice none 0 0] 64) from heap_alloc_new _ _)
          have HB5 := Lib.hid (show ∀ (W : World) (b : Nat) (u0 u1 u2 u3 u4 : Value), Below wo.heap.size wo W → wo.heap.size ≤ b → Below wo.heap.size wo (((((W.setCell ⟨b, 0, none⟩ u0).setCell ⟨b, 1, none⟩ u1).setCell ⟨b, 2, none⟩ u2).setCell ⟨b, 3, none⟩ u3).setCell ⟨b, 4, none⟩ u4) from fun W b u0 u1 u2 u3 u4 h hle => ((((h.setCell (p := ⟨b, 0, none⟩) hle _).setCell (p := ⟨b, 1, none⟩) hle _).setCell (p := ⟨b, 2, none⟩) hle _).setCell (p := ⟨b, 3, none⟩) hle _).setCell (p := ⟨b, 4, none⟩) hle _)
          go_upto_region 21 with fail
          have q0 := HF.out _ B0.out
          clear x0 x1 x2 x3 x4 hadb u1
          go_cut [18, 19] (fun s20 s21 W => TkCut r wo s20 s21 W)
          case first =>
            go_region_held3 (fun w' => w'.cell? ⟨w.heap.size, 0, none⟩ = some (.int .i64 N) ∧ w'.cell? ⟨w.heap.size, 1, none⟩ = some (.slice A n c) ∧ w'.cell? ⟨w.heap.size + 1, 0, none⟩ = some (.int .i64 p) ∧ w'.cell? ⟨w.heap.size + 1, 1, none⟩ = some (.int .i64 s) ∧ w'.cell? ⟨w.heap.size + 1, 2, none⟩ = some (.int .i64 l) ∧ w'.cell? ⟨w.heap.size + 1, 3, none⟩ = some (.int .i64 q) ∧ w'.cell? ⟨gl, i * 5, none⟩ = some (.int .i64 KP) ∧ w'.cell? ⟨gl, i * 5 + 1, none⟩ = some (.int .i64 KS.step) ∧ w'.cell? ⟨gl, i * 5 + 2, none⟩ = some (.slice K1 KS.vals.length k1) ∧ w'.cell? ⟨gl, i * 5 + 3, none⟩ = some (.slice K2 KS.rest.length k2) ∧ w'.cell? ⟨gl, i * 5 + 4, none⟩ = some (.slice K3 KS.inn.length k3) ∧ w'.cell? ⟨g, i, none⟩ = some (.slice RA Rls.length Rc))
              (first | with_reducible exact q1 | with_reducible exact q0 | with_reducible exact HF.out _ BZ.out | with_reducible exact HF.out _ (B7.out.alloc B7.out.size _) | with_reducible exact HF.out _ (HB5.out _ _ _ _ _ _ _ B7.out (Nat.le_refl _)))
              (first | ((go_at_call 22); (with_reducible refine (CD.out _ BZ.out).mono ?_); rintro e w7 ⟨hb7, Q, T, Z1, z1, Z2, z2, Z3, z3, rfl, hx, hZ, t1, t2, t3⟩; have B7 := Lib.hid (BZ.out.trans (hb7.mono BZ.out.size)); have HZ := Lib.hid hZ; have T1 := Lib.hid t1; have T2 := Lib.hid t2; have T3 := Lib.hid t3; have HXM := Lib.hid hx; have q1 := HF.out _ B7.out; have z6 := (hb7.block wo.heap.size (lt_of_block ZB.out)).trans ZB.out; have r0 := cell_of_row w7 _ 0 _ 64 (0, 0) z6; have f0 := unfrozen z6 0; have r1 := cell_of_row w7 _ 1 _ 64 (0, 0) z6; have f1 := unfrozen z6 1; have r2 := cell_of_row w7 _ 2 _ 64 (0, 0) z6; have f2 := unfrozen z6 2; have r3 := cell_of_row w7 _ 3 _ 64 (0, 0) z6; have f3 := unfrozen z6 3; have r4 := cell_of_row w7 _ 4 _ 64 (0, 0) z6; have f4 := unfrozen z6 4; have Z6 := Lib.hid z6; clear hb7 hZ hx t1 t2 t3 z6 q0) | ((go_at_call 22); (with_reducible refine (CD.out _ B0.out).mono ?_); rintro e w7 ⟨hb7, Q, T, Z1, z1, Z2, z2, Z3, z3, rfl, hx, hZ, t1, t2, t3⟩; have B7 := Lib.hid (B0.out.trans (hb7.mono B0.out.size)); have HZ := Lib.hid hZ; have T1 := Lib.hid t1; have T2 := Lib.hid t2; have T3 := Lib.hid t3; have HXM := Lib.hid hx; have q1 := HF.out _ B7.out; clear hb7 hZ hx t1 t2 t3 q0) | fail)
            all_goals
              go_wp2_with fail
              go_meet
              first
                | exact ⟨_, Q, T, Z1, z1, Z2, z2, Z3, z3, rfl, rfl, B7.out.alloc B7.out.size _, heap_alloc_new _ _, HXM.out, HZ.out.next (below_alloc _ _), T1.out, T2.out, T3.out⟩
                | exact ⟨_, Q, T, Z1, z1, Z2, z2, Z3, z3, rfl, rfl, HB5.out _ _ _ _ _ _ _ B7.out (Nat.le_refl _), set_heap (set_heap (set_heap (set_heap (set_heap Z6.out _) _) _) _) _, HXM.out, HZ.out.five T1.out T2.out T3.out (lt_of_block ZB.out) _ _ _ _ _, T1.out.low BZ.out.size, T2.out.low BZ.out.size, T3.out.low BZ.out.size⟩
          case rest =>
            obtain ⟨bz, Q, T, Z1, z1, Z2, z2, Z3, z3, rfl, rfl, hb, hz, hx, hZ, t1, t2, t3⟩ := hcut
            have HLw1 := Lib.hid (HLw.out.next hb)
            have HBC := Lib.hid (HBW.out.trans (hb.mono HBW.out.size))
            have HFP := Lib.hid (FxP.new (e := ⟨Q, T, Z1, z1, Z2, z2, Z3, z3⟩) HLw.out.mo hZ t1 t2 t3)
            have HAZ := Lib.hid hz
            have HXM := Lib.hid hx
            clear hb hz hx hZ t1 t2 t3 q0 HF B0 BZ ZB HB5 CD HAW HAT HPW HXW HLS HIN HIF HXI HRL
            by_cases he : r.2 = 0
            · have hr0 : (tI N es p s l q S i).2 = 0 := by rw [← HRI.out]; exact he
              have HLt2 := Lib.hid (show Lt N es p s l q S (i + 1) ((cur.set i ⟨Q, T, Z1, z1, Z2, z2, Z3, z3⟩).take (i + 1)) by
                rw [take_set hic]
                exact HLt.out.done (e := ⟨Q, T, Z1, z1, Z2, z2, Z3, z3⟩) (by show mkP Q T = _; rw [← HRI.out]; exact HXM.out) hr0)
              have HFR2 := Lib.hid (HFR.out.set ⟨Q, T, Z1, z1, Z2, z2, Z3, z3⟩)
              have HCL2 := Lib.hid (show (cur.set i ⟨Q, T, Z1, z1, Z2, z2, Z3, z3⟩).length = m by rw [List.length_set]; exact HCL.out)
              have HLw2 := Lib.hid (HLw1.out.setP i HFP.out)
              have y0 := cell_of_row _ bz 0 _ 64 (0, 0) HAZ.out
              have y1 := cell_of_row _ bz 1 _ 64 (0, 0) HAZ.out
              have y2 := cell_of_row _ bz 2 _ 64 (0, 0) HAZ.out
              have y3 := cell_of_row _ bz 3 _ 64 (0, 0) HAZ.out
              have y4 := cell_of_row _ bz 4 _ 64 (0, 0) HAZ.out
              obtain ⟨HCE, HFZ⟩ := HLw1.out.cells i hic
              obtain ⟨v0, x0⟩ := HCE 0 (by decide)
              obtain ⟨v1, x1⟩ := HCE 1 (by decide)
              obtain ⟨v2, x2⟩ := HCE 2 (by decide)
              obtain ⟨v3, x3⟩ := HCE 3 (by decide)
              obtain ⟨v4, x4⟩ := HCE 4 (by decide)
              rw [Nat.add_zero] at x0
              have f0 := HFZ (i * 5)
              have f1 := HFZ (i * 5 + 1)
              have f2 := HFZ (i * 5 + 2)
              have f3 := HFZ (i * 5 + 3)
              have f4 := HFZ (i * 5 + 4)
              clear HCE HFZ
              dsimp only at HLw2
              generalize cur.set i ⟨Q, T, Z1, z1, Z2, z2, Z3, z3⟩ = cur2 at *
              rw [he]
              clear he hr0 HXM HFP HLw1 HLw HLt HRI HFR HBC HAZ HBW
              go_wp2_with fail
              go_roundw
              case rel => exact ⟨i + 1, cur2, by go_num, by omega, HCL2, HFR2, HLt2, HLw2⟩
              case measure => simp [intOf]; omega
            · have hbad := take_bad HR.out H40.out HOK.out HNN.out HDID.out (k := i) (by rw [← HM.out]; exact hlt) (by have := HRI.out; unfold tI at this; rw [← this]; exact he)
              have h8 : r.2 = 8 := by rw [HRI.out]; exact hbad.1
              have S8 := Lib.hid hbad.2
              rw [h8]
              clear he hbad h8
              have z2 := H4.out _ HBC.out
              have HBX := Lib.hid (HBS.out.next HBC.out).x.bl
              have r0 := cell_of_row _ (w.heap.size + 1 + 1 + 1) 0 _ 39 (0, 0) z2
              have f0 := unfrozen z2 0
              have r1 := cell_of_row _ (w.heap.size + 1 + 1 + 1) 1 _ 39 (0, 0) z2
              have f1 := unfrozen z2 1
              have r2 := cell_of_row _ (w.heap.size + 1 + 1 + 1) 2 _ 39 (0, 0) z2
              have f2 := unfrozen z2 2
              have r3 := cell_of_row _ (w.heap.size + 1 + 1 + 1) 3 _ 39 (0, 0) z2
              have f3 := unfrozen z2 3
              clear z2
              go_wp2_with fail
              refine bodyPost_ret (v := .tuple #[.agg #[.int .i64 0, .slice none 0 0, .slice none 0 0, .slice none 0 0], .bool true, .bool true]) (by simp [results, Tryz.results11, go_sem, r0, r1, r2, r3]) rfl ?_
              exact ⟨((((HBX.out.setCell (by simp; omega) _).setCell (by simp; omega) _).setCell (by simp; omega) _).setCell (by simp; omega) _), .inr ⟨S8.out, rfl⟩⟩
        · have hi' : i = m := by omega
          have htk : cur.take i = cur := List.take_of_length_le (by rw [HCL.out]; omega)
          have HLtm := Lib.hid (show Lt N es p s l q S m cur by rw [← hi']; have h := HLt.out; rw [htk] at h; exact h)
          obtain ⟨a1, a2, a3⟩ := take_all HR.out H40.out HOK.out HNN.out HDID.out (fun k hk => HLtm.out.ok k (by rw [HM.out]; exact hk))
          have hall : cur.map Pe.x = (List.range q.toNat).map (cutP N.toNat q.toNat (stepR N es p s l q S).1) := by
            have hal : cur.length = q.toNat := by rw [HCL.out, HM.out]
            apply List.ext_getElem
            · rw [List.length_map, List.length_map, List.length_range, hal]
            · intro k h1 h2
              rw [List.length_map] at h1
              rw [List.getElem_map, List.getElem_map, List.getElem_range, HLtm.out.dx k h1]
              exact a3 k (by rw [← hal]; exact h1)
          have CJ := Lib.hid (join_any N A n c es p s l q (some ⟨gl, 0, none⟩) m cur wo (HA.out.next HBW.out) hnc hn HLw.out.pls)
          rw [hall, join_of_split a2, HCL.out] at CJ
          have A1' := Lib.hid a1
          have A2' := Lib.hid a2
          obtain ⟨⟨z1, g0, g1, j0, j1, j2, j3, bl1⟩, z2, s0, s1, s2, s3⟩ := id HXW.out
          obtain ⟨t, ht⟩ : ∃ t, t = (stepR N es p s l q S).1 := ⟨_, rfl⟩
          rw [← ht] at CJ
          have HT := Lib.hid ht
          have him : ¬ (i : Int) < (m : Int) := by omega
          clear z1 bl1 z2 s0 s1 s2 s3 hlt hi' htk a1 a2 a3 hall ht
          go_wp2_with fail
          refine CJ.out.mono ?_
          rintro e w6 ⟨hb6, Y1, y1, Y2, y2, Y3, y3, rfl, hY, F1, F2, F3⟩
          have HBA := Lib.hid (below_alloc w6 (.cells #[.int .i64 t.step, .slice Y1 t.vals.length y1, .slice Y2 t.rest.length y2, .slice Y3 t.inn.length y3] 39))
          have HB7 := Lib.hid (HBW.out.trans ((hb6.trans (HBA.out.mono hb6.size)).mono HBW.out.size))
          have HY7 := Lib.hid (hY.next HBA.out)
          have HV7 := Lib.hid (show BkT w6.heap.size #[.int .i64 t.step, .slice Y1 t.vals.length y1, .slice Y2 t.rest.length y2, .slice Y3 t.inn.length y3] 39 (w6.alloc (.cells #[.int .i64 t.step, .slice Y1 t.vals.length y1, .slice Y2 t.rest.length y2, .slice Y3 t.inn.length y3] 39)) from heap_alloc_new _ _)
          have HFX := Lib.hid (show Fr wo.heap.size Y1 ∧ Fr wo.heap.size Y2 ∧ Fr wo.heap.size Y3 from ⟨F1, F2, F3⟩)
          have HLTX := Lib.hid (show w.heap.size + 1 + 1 + 1 < wo.heap.size from lt_of_block (H4.out wo HBW.out))
          have HLTW := Lib.hid (show w.heap.size ≤ wo.heap.size by have := HLTX.out; omega)
          clear hb6 hY F1 F2 F3 g0 g1 j0 j1 j2 j3 CJ
          go_upto_region 28 with fail
          generalize w6.alloc (.cells #[.int .i64 t.step, .slice Y1 t.vals.length y1, .slice Y2 t.rest.length y2, .slice Y3 t.inn.length y3] 39) = w7 at *
          generalize w6.heap.size = bv at *
          have z2 := H4.out _ HB7.out
          have HBX := Lib.hid (HBS.out.next HB7.out).x.bl
          have v0 := HV7.out.cell 0
          have v1 := HV7.out.cell 1
          have v2 := HV7.out.cell 2
          have v3 := HV7.out.cell 3
          have r0 := cell_of_row _ (w.heap.size + 1 + 1 + 1) 0 _ 39 (0, 0) z2
          have f0 := unfrozen z2 0
          have r1 := cell_of_row _ (w.heap.size + 1 + 1 + 1) 1 _ 39 (0, 0) z2
          have f1 := unfrozen z2 1
          have r2 := cell_of_row _ (w.heap.size + 1 + 1 + 1) 2 _ 39 (0, 0) z2
          have f2 := unfrozen z2 2
          have r3 := cell_of_row _ (w.heap.size + 1 + 1 + 1) 3 _ 39 (0, 0) z2
          have f3 := unfrozen z2 3
          clear z2
          go_wp2_with fail
          refine bodyPost_ret (v := .tuple #[.agg #[.int .i64 t.step, .slice Y1 t.vals.length y1, .slice Y2 t.rest.length y2, .slice Y3 t.inn.length y3], .bool false, .bool true]) (by simp [results, Tryz.results11, go_sem, r0, r1, r2, r3]) rfl ?_
          refine ⟨((((HBX.out.setCell (by simp; omega) _).setCell (by simp; omega) _).setCell (by simp; omega) _).setCell (by simp; omega) _), .inl ⟨A1'.out, A2'.out, ?_⟩⟩
          rw [← HT.out]
          exact ⟨Y1, y1, Y2, y2, Y3, y3, rfl, ((((HY7.out.set (b := w.heap.size + 1 + 1 + 1) (i := 0) HFX.out.1 HFX.out.2.1 HFX.out.2.2 HLTX.out (.int .i64 t.step)).size.set (b := w.heap.size + 1 + 1 + 1) (i := 1) HFX.out.1 HFX.out.2.1 HFX.out.2.2 HLTX.out (.slice Y1 t.vals.length y1)).size.set (b := w.heap.size + 1 + 1 + 1) (i := 2) HFX.out.1 HFX.out.2.1 HFX.out.2.2 HLTX.out (.slice Y2 t.rest.length y2)).size.set (b := w.heap.size + 1 + 1 + 1) (i := 3) HFX.out.1 HFX.out.2.1 HFX.out.2.2 HLTX.out (.slice Y3 t.inn.length y3)).size, HFX.out.1.low HLTW.out, HFX.out.2.1.low HLTW.out, HFX.out.2.2.low HLTW.out⟩
end Go.Proofs.YtpgdddjjjfkneaaGreatDoor
