/-
  The contract of Begin. No condition.
-/
import Derived.Test.YtkmflofokgkekaaSqC
import Derived.Deep.OwnRows
import Derived.BigRegion
import Derived.Deep.DeepCutAuto
import Derived.Deep.Cut
namespace Go.Proofs.Ytkmflofokgkekaa
open Go.ChangeShapes Go.WideShapes Go.ChangeAt Go.RowKit
set_option linter.unusedVariables false

theorem made_v (m : Nat) : (madeCells #[.int .i64 0] m).toList = vc (List.replicate m 0) := by rw [toList_madeCells_one]; simp [vc]
theorem made_r (m : Nat) : (madeCells #[.bool false] m).toList = rc (List.replicate m false) := by rw [toList_madeCells_one]; simp [rc]

theorem three (w5 : World) (a b c : Obj) : (((w5.alloc a).alloc b).alloc c).drew.heap[w5.heap.size]? = some a ∧ (((w5.alloc a).alloc b).alloc c).drew.heap[w5.heap.size + 1]? = some b ∧ (((w5.alloc a).alloc b).alloc c).drew.heap[w5.heap.size + 1 + 1]? = some c ∧ Below w5.heap.size w5 (((w5.alloc a).alloc b).alloc c).drew := by
  have e1 : (w5.alloc a).heap.size = w5.heap.size + 1 := by simp
  have e2 : ((w5.alloc a).alloc b).heap.size = w5.heap.size + 1 + 1 := by simp
  refine ⟨?_, ?_, ?_, ((((Below.refl _ _).alloc (Nat.le_refl _) _).alloc (by simp) _).alloc (by simp; omega) _).drew⟩
  · show (((w5.alloc a).alloc b).alloc c).heap[w5.heap.size]? = some a
    rw [Below.heap_alloc _ _ _ (by omega), Below.heap_alloc _ _ _ (by omega)]
    exact heap_alloc_new _ _
  · show (((w5.alloc a).alloc b).alloc c).heap[w5.heap.size + 1]? = some b
    rw [Below.heap_alloc _ _ _ (by omega), ← e1]
    exact heap_alloc_new _ _
  · show (((w5.alloc a).alloc b).alloc c).heap[w5.heap.size + 1 + 1]? = some c
    rw [← e2]
    exact heap_alloc_new _ _
theorem sp_three {w5 W : World} {m bn gV gR : Nat} {zv zr : Array Value} (hzv : zv.toList = vc (List.replicate m 0)) (hzr : zr.toList = rc (List.replicate m false)) (hm : m ≤ maxLen) (hb : Below w5.heap.size w5 W) (hv : W.heap[gV]? = some (.cells zv 2)) (hr : W.heap[gR]? = some (.cells zr 4))
    (hn : W.heap[bn]? = some (.cells #[.int .i64 0, .slice (some ⟨gV, 0, none⟩) m m, .slice (some ⟨gR, 0, none⟩) m m, .slice none 0 0] 31)) (lv : w5.heap.size ≤ gV) (lr : w5.heap.size ≤ gR) (ln : w5.heap.size ≤ bn) :
    Sp w5 bn 0 gV m gR m m (List.replicate m 0) (List.replicate m false) W := by
  have sv : zv.size = m := by rw [← Array.length_toList, hzv, vc_len]; simp
  have sr : zr.size = m := by rw [← Array.length_toList, hzr, rc_len]; simp
  refine ⟨hb, hn, ⟨by rw [vc_len]; simp, .inr ⟨gV, m, zv, rfl, lv, hv, Nat.le_refl _, hm, by rw [sv, Nat.mul_one], ?_⟩⟩, ⟨by rw [rc_len]; simp, .inr ⟨gR, m, zr, rfl, lr, hr, Nat.le_refl _, hm, by rw [sr, Nat.mul_one], ?_⟩⟩, ln⟩
  · rw [hzv, Nat.mul_one]; exact List.take_of_length_le (by rw [vc_len]; simp)
  · rw [hzr, Nat.mul_one]; exact List.take_of_length_le (by rw [rc_len]; simp)
theorem Sp.setV {w4 : World} {bn : Nat} {st1 : Int} {gV cV gR cR n : Nat} {vs : List Int} {rs : List Bool} {W : World} (h : Sp w4 bn st1 gV cV gR cR n vs rs W) (k : Nat) (x : Int) : Sp w4 bn st1 gV cV gR cR n (vs.set k x) rs (W.setCell ⟨gV, k, none⟩ (.int .i64 x)) := by
  obtain ⟨n1, n2, n3, n4, n5⟩ := h.gr
  have v1 := (h.v.stored k (.int .i64 x)).1
  rw [vc_set] at v1
  refine ⟨h.bl.setCell (p := ⟨gV, k, none⟩) n4 _, ?_, v1, ownsRow_setCell_other h.r (a := ⟨gV, k, none⟩) (fun e => n1 (by simpa [Value.ownBlock] using e.symm)) _, h.hbn⟩
  rw [Below.heap_setCell _ _ _ _ (fun e => n2 e.symm)]
  exact h.nb
/-- The values at the beginning, so far. -/
def bgL (p s : Int) (m k : Nat) : List Int := ((List.range k).map fun (v : Nat) => startI p s v) ++ List.replicate (m - k) 0
theorem bgL_set (p s : Int) (m k : Nat) (h : k < m) : (bgL p s m k).set k (startI p s k) = bgL p s m (k + 1) := by
  unfold bgL
  have e : m - k = (m - (k + 1)) + 1 := by omega
  rw [List.set_append_right _ _ (by simp), List.length_map, List.length_range, Nat.sub_self, e, List.replicate_succ, List.set_cons_zero, List.range_succ, List.map_append, List.append_assoc]
  rfl
def BgRel (w5 : World) (bn gV gR m : Nat) (p s : Int) (i : Value) (W : World) : Prop := ∃ k : Nat, i = .int .i64 k ∧ k ≤ m ∧ Hid (Sp w5 bn 0 gV m gR m m (bgL p s m k) (List.replicate m false) W)

set_option maxRecDepth 20000 in
set_option maxHeartbeats 2000000 in
theorem begin_any (N : Int) (A : Option Addr) (n c : Nat) (es : List Ed) (p s l q : Int) (w : World) (hA : Lies w w.heap.size 3 A n (ec es)) (hnc : n ≤ c) (hn : n ≤ maxLen) :
    Calls Try.prog 17 #[.agg #[.int .i64 N, .slice A n c], .agg #[.int .i64 p, .int .i64 s, .int .i64 l, .int .i64 q]] w (StPost (beginR N es p s l q) w) := by
  have mixed : Try.prog.follows .mixedOrders = true := by kernel_rfl
  have hbx := (Bx.init w N A n c p s l q).alloc (.cells #[.int .i64 0, .slice none 0 0, .slice none 0 0, .slice none 0 0] 31)
  have HA := Lib.hid (hA.next hbx.bl)
  have HBX := Lib.hid hbx
  clear hbx hA
  go_enter Try.func17, Try.ntmps17
  go_wp2_with fail
  refine (jcheck_any N A n c es p s l q _ HA.out hnc hn).mono ?_
  rintro e w5 ⟨rfl, hb5⟩
  have hx := HBX.out.next hb5
  have HT := Lib.hid (fun (W : World) (hb : Below w5.heap.size w5 W) => (hb.block _ (third w N A n c p s l q _ w5 hb5).2).trans (third w N A n c p s l q _ w5 hb5).1)
  have HT0 := Lib.hid (third w N A n c p s l q _ w5 hb5)
  have HB := Lib.hid hx.bl
  have HA5 := Lib.hid (HA.out.next hb5)
  have HX := Lib.hid hx
  clear HA HBX hb5
  by_cases hj : jchk N es p s l q = 0
  · have HJ := Lib.hid hj
    have HN := Lib.hid (jchk_N hj)
    rw [hj]
    clear hj
    obtain ⟨m, hm⟩ : ∃ m : Nat, N = m := ⟨N.toNat, by have := HN.out; omega⟩
    have HM := Lib.hid hm
    have hmk1 : ∀ W : World, (Instr.makeSlice 27 (.int .i64 N) (.int .i64 N)).run Try.prog W = .ok (.slice (some ⟨W.heap.size, 0, none⟩) m m) (W.alloc (.cells (madeCells #[.int .i64 0] m) 2)) := fun W => by
      rw [hm]; exact run_make_row' 27 2 (.int .i64 0) 8 Try.underlying27 (by kernel_rfl) rfl .i64 .i64 m (by have := HN.out; omega) (by have := HN.out; omega) W
    have hmk2 : ∀ W : World, (Instr.makeSlice 28 (.int .i64 N) (.int .i64 N)).run Try.prog W = .ok (.slice (some ⟨W.heap.size, 0, none⟩) m m) (W.alloc (.cells (madeCells #[.bool false] m) 4)) := fun W => by
      rw [hm]; exact run_make_row' 28 4 (.bool false) 1 Try.underlying28 (by kernel_rfl) rfl .i64 .i64 m (by have := HN.out; omega) (by have := HN.out; omega) W
    have HML := Lib.hid (show m ≤ maxLen by have := HN.out; unfold maxLen; omega)
    have HZV := Lib.hid (made_v m)
    have HZR := Lib.hid (made_r m)
    have g0 := hx.g0
    clear hx hm
    obtain ⟨zv, hzv⟩ : ∃ zv, zv = madeCells #[.int .i64 0] m := ⟨_, rfl⟩
    obtain ⟨zr, hzr⟩ : ∃ zr, zr = madeCells #[.bool false] m := ⟨_, rfl⟩
    rw [← hzv] at hmk1 HZV
    rw [← hzr] at hmk2 HZR
    clear hzv hzr
    have ga : ∀ o : Obj, (w5.alloc o).cell? ⟨w.heap.size, 0, none⟩ = some (.int .i64 N) := fun o => (HX.out.alloc o).g0
    have gb : ∀ o o' : Obj, ((w5.alloc o).alloc o').cell? ⟨w.heap.size, 0, none⟩ = some (.int .i64 N) := fun o o' => ((HX.out.alloc o).alloc o').g0
    go_upto_region 4 with fail
    go_cut [7] (fun s7 W => ∃ bn gV gR, s7 = .pointer (some ⟨bn, 0, none⟩) ∧ Sp w5 bn 0 gV m gR m m (List.replicate m 0) (List.replicate m false) W)
    case first =>
      go_region
      all_goals (go_wp2_with fail; go_meet; first | exact ⟨_, w5.heap.size, w5.heap.size + 1, rfl, sp_three HZV.out HZR.out HML.out (three _ _ _ _).2.2.2 (three _ _ _ _).1 (three _ _ _ _).2.1 (three _ _ _ _).2.2.1 (by omega) (by omega) (by omega)⟩ | exact ⟨_, w5.heap.size, w5.heap.size + 1 + 1, rfl, sp_three HZV.out HZR.out HML.out (three _ _ _ _).2.2.2 (three _ _ _ _).1 (three _ _ _ _).2.2.1 (three _ _ _ _).2.1 (by omega) (by omega) (by omega)⟩ | exact ⟨_, w5.heap.size + 1, w5.heap.size, rfl, sp_three HZV.out HZR.out HML.out (three _ _ _ _).2.2.2 (three _ _ _ _).2.1 (three _ _ _ _).1 (three _ _ _ _).2.2.1 (by omega) (by omega) (by omega)⟩ | exact ⟨_, w5.heap.size + 1, w5.heap.size + 1 + 1, rfl, sp_three HZV.out HZR.out HML.out (three _ _ _ _).2.2.2 (three _ _ _ _).2.1 (three _ _ _ _).2.2.1 (three _ _ _ _).1 (by omega) (by omega) (by omega)⟩ | exact ⟨_, w5.heap.size + 1 + 1, w5.heap.size, rfl, sp_three HZV.out HZR.out HML.out (three _ _ _ _).2.2.2 (three _ _ _ _).2.2.1 (three _ _ _ _).1 (three _ _ _ _).2.1 (by omega) (by omega) (by omega)⟩ | exact ⟨_, w5.heap.size + 1 + 1, w5.heap.size + 1, rfl, sp_three HZV.out HZR.out HML.out (three _ _ _ _).2.2.2 (three _ _ _ _).2.2.1 (three _ _ _ _).2.1 (three _ _ _ _).1 (by omega) (by omega) (by omega)⟩)
    case rest =>
      obtain ⟨bn, gV, gR, rfl, hsp⟩ := hcut
      have HSP := Lib.hid hsp
      have g0 := (HX.out.next hsp.bl).g0
      clear hsp ga gb hmk1 hmk2 HZV HZR
      go_wp2_with fail
      go_loopw [27] (fun i W => BgRel w5 bn gV gR m p s i W) (fun i W => m - (intOf i).toNat)
      case atStart => exact ⟨0, rfl, Nat.zero_le _, by have := HSP.out; unfold Hid bgL; simpa using this⟩
      case round =>
        obtain ⟨k, rfl, hk, HSQ⟩ := hrel
        clear HSP g0
        have HXW := Lib.hid (HX.out.next HSQ.out.bl)
        by_cases hkm : k < m
        · have hkN : (k : Int) < N := by have := HM.out; omega
          have hkM : (k : Int) < (m : Int) := by omega
          have hk24 : k < 24 := by have := HM.out; have := HN.out; omega
          have HV := Lib.hid (show vchk N es p s l q k = 0 by unfold vchk; rw [if_pos HJ.out, if_pos ⟨by omega, hkN⟩])
          have HSV := Lib.hid (show stV N es p s l q k = startI p s k by unfold stV; rw [if_pos HV.out])
          obtain ⟨z1, g0, g1, j0, j1, j2, j3, bl1⟩ := id HXW.out
          clear z1 bl1
          go_wp2_with fail
          refine (start_any N A n c es p s l q k _ (HA5.out.next HSQ.out.bl) hnc hn).mono ?_
          rintro e w6 ⟨rfl, hb6⟩
          rw [HV.out, HSV.out]
          have HSP6 := Lib.hid (HSQ.out.next hb6)
          have b1 := cell_of_row w6 bn 1 _ 31 (0, 0) HSP6.out.nb
          obtain ⟨x0, hx0⟩ : ∃ x0, w6.cell? ⟨gV, k, none⟩ = some x0 := ⟨_, (HSP6.out.v.cellAt k (by omega)).trans (vc_at _ k (by unfold bgL; simp; omega))⟩
          have fV := HSP6.out.v.frozenAt k
          have HSP7 := Lib.hid (HSP6.out.setV k (startI p s k))
          rw [bgL_set p s m k hkm] at HSP7
          clear hb6 HSQ HXW g0 g1 j0 j1 j2 j3 HSP6
          generalize startI p s k = x at HSP7 ⊢
          go_wp2_with fail
          go_roundw
          case rel => exact ⟨k + 1, by go_num, by omega, HSP7.out⟩
          case measure => simp [intOf]; omega
        · have hk' : k = m := by omega
          subst hk'
          have hkN : ¬ ((k : Int) < N) := by have := HM.out; omega
          have HR := Lib.hid (show beginR N es p s l q = (⟨0, bgL p s k k, List.replicate k false, []⟩, 0) by
            unfold beginR beginS bgL; rw [if_pos HJ.out, HM.out]; simp)
          have hok : Ok (beginR N es p s l q).1 := by unfold beginR; rw [if_pos HJ.out]; exact begin_ok HN.out.2
          rw [HR.out] at hok
          have HOK := Lib.hid hok
          have nb := HSQ.out.nb
          have b0 := cell_of_row wr bn 0 _ 31 (0, 0) nb
          have b1 := cell_of_row wr bn 1 _ 31 (0, 0) nb
          have b2 := cell_of_row wr bn 2 _ 31 (0, 0) nb
          have b3 := cell_of_row wr bn 3 _ 31 (0, 0) nb
          have z2 := HT.out wr HSQ.out.bl
          have r0 := cell_of_row wr _ 0 _ 31 (0, 0) z2
          have f0 := unfrozen z2 0
          have r1 := cell_of_row wr _ 1 _ 31 (0, 0) z2
          have f1 := unfrozen z2 1
          have r2 := cell_of_row wr _ 2 _ 31 (0, 0) z2
          have f2 := unfrozen z2 2
          have r3 := cell_of_row wr _ 3 _ 31 (0, 0) z2
          have f3 := unfrozen z2 3
          have hlt := HT0.out.2
          have hlen : (bgL p s k k).length = k := by unfold bgL; simp
          clear nb z2 hok hlen
          go_wp2_with fail
          refine bodyPost_ret (v := .tuple #[.agg #[.int .i64 0, .slice (some ⟨gV, 0, none⟩) k k, .slice (some ⟨gR, 0, none⟩) k k, .slice none 0 0], .int .i64 0]) (by simp [results, Try.results17, go_sem, r0, r1, r2, r3]) rfl ?_
          rw [HR.out]
          have hlen : (bgL p s k k).length = k := by unfold bgL; simp
          have hv8 := ownsRow_setCell_below (ownsRow_setCell_below (ownsRow_setCell_below (ownsRow_setCell_below HSQ.out.v (a := ⟨w.heap.size + 1 + 1, 0, none⟩) hlt (.int .i64 0)) (a := ⟨w.heap.size + 1 + 1, 1, none⟩) hlt (.slice (some ⟨gV, 0, none⟩) k k)) (a := ⟨w.heap.size + 1 + 1, 2, none⟩) hlt (.slice (some ⟨gR, 0, none⟩) k k)) (a := ⟨w.heap.size + 1 + 1, 3, none⟩) hlt (.slice none 0 0)
          have hr8 := ownsRow_setCell_below (ownsRow_setCell_below (ownsRow_setCell_below (ownsRow_setCell_below HSQ.out.r (a := ⟨w.heap.size + 1 + 1, 0, none⟩) hlt (.int .i64 0)) (a := ⟨w.heap.size + 1 + 1, 1, none⟩) hlt (.slice (some ⟨gV, 0, none⟩) k k)) (a := ⟨w.heap.size + 1 + 1, 2, none⟩) hlt (.slice (some ⟨gR, 0, none⟩) k k)) (a := ⟨w.heap.size + 1 + 1, 3, none⟩) hlt (.slice none 0 0)
          refine ⟨((((HB.out.trans (HSQ.out.bl.mono HB.out.size)).setCell (by simp; omega) _).setCell (by simp; omega) _).setCell (by simp; omega) _).setCell (by simp; omega) _, some ⟨gV, 0, none⟩, k, some ⟨gR, 0, none⟩, k, none, 0, by dsimp only; rw [hlen]; simp, ?_, (Fr.own HSQ.out.v).low HB.out.size, (Fr.own HSQ.out.r).low HB.out.size, Fr.no _⟩
          refine ⟨?_, ?_, Lies.nil, ?_, ?_, Nat.le_refl _, HOK.out⟩
          · dsimp only; rw [hlen]; exact Lies.of_own hv8
          · dsimp only; rw [List.length_replicate]; exact Lies.of_own hr8
          · dsimp only; rw [hlen]; exact Nat.le_refl _
          · dsimp only; rw [List.length_replicate]; exact Nat.le_refl _
  · have HR := Lib.hid (show beginR N es p s l q = (noSt, jchk N es p s l q) by unfold beginR; rw [if_neg hj])
    have hj1 : (jchk N es p s l q != 0) = true := by simpa using hj
    have z2 := HT0.out.1
    have r0 := cell_of_row w5 _ 0 _ 31 (0, 0) z2
    have f0 := unfrozen z2 0
    have r1 := cell_of_row w5 _ 1 _ 31 (0, 0) z2
    have f1 := unfrozen z2 1
    have r2 := cell_of_row w5 _ 2 _ 31 (0, 0) z2
    have f2 := unfrozen z2 2
    have r3 := cell_of_row w5 _ 3 _ 31 (0, 0) z2
    have f3 := unfrozen z2 3
    clear z2 hj hx
    go_wp2_with fail
    refine bodyPost_ret (v := .tuple #[.agg #[.int .i64 0, .slice none 0 0, .slice none 0 0, .slice none 0 0], .int .i64 (jchk N es p s l q)]) (by simp [results, Try.results17, go_sem, r0, r1, r2, r3]) rfl ?_
    exact st_no HR.out ((((HB.out.setCell (by simp; omega) _).setCell (by simp; omega) _).setCell (by simp; omega) _).setCell (by simp; omega) _)

end Go.Proofs.Ytkmflofokgkekaa
