/-
  The contract of the document's Begin. No condition.
-/
import Derived.Test.YtkmflofokgkekaaSqI
import Derived.Deep.RegionLaw
import Derived.BigRegion
namespace Go.Proofs.Ytkmflofokgkekaa
open Go.ChangeShapes Go.WideShapes Go.ChangeAt Go.RowKit
set_option linter.unusedVariables false

def RbRel (w3 : World) (bo m : Nat) (p s : Int) (i : Value) (W : World) : Prop := ∃ (k : Nat) (V : Option Addr) (cV : Nat) (R : Option Addr) (cR : Nat), i = .int .i64 k ∧ k ≤ m ∧ Hid (Rp w3 bo 0 V cV R cR (bsV p s k) (List.replicate k false) W)

theorem rb_step {w3 W8 w9 : World} {bo k : Nat} {p s : Int} {V : Option Addr} {cV : Nat} {R : Option Addr} {cR : Nat} {A9 : Option Addr} {c9 : Nat} (h : Rp w3 bo 0 V cV R cR (bsV p s k) (List.replicate k false) W8) (ho : w9.ownsRow w3.heap.size 2 1 (.slice A9 (k + 1) c9) (k + 1) (vc (bsV p s k) ++ vc [startI p s k]))
    (hb : Below w3.heap.size W8 w9) (hg : W8.grownBy w9 (Value.slice V k cV).ownBlock) :
    w9.cell? ⟨bo, 1, none⟩ = some (.slice V k cV) ∧ w9.frozen? ⟨bo, 1, none⟩ = false ∧ Rp w3 bo 0 A9 c9 R cR (bsV p s (k + 1)) (List.replicate k false) (w9.setCell ⟨bo, 1, none⟩ (.slice A9 (k + 1) c9)) := by
  have hg' : W8.grownBy w9 (Value.slice V (bsV p s k).length cV).ownBlock := by rw [bsV_len]; exact hg
  have hn := h.blk h.v (by decide) hg'
  have t := cell_of_row w9 bo 1 _ 31 (0, 0) hn
  rw [bsV_len] at t
  have hp := h.putV (x := startI p s k) (by rw [bsV_len]; exact ho) hb hg'
  rw [bsV_len, ← bsV_succ] at hp
  exact ⟨t, unfrozen hn 1, hp⟩

set_option maxRecDepth 20000 in
set_option maxHeartbeats 4000000 in
theorem rbegin_any (N : Int) (A : Option Addr) (n c : Nat) (es : List Ed) (p s l q : Int) (w : World) (hj : jchk N es p s l q = 0) :
    Calls Try.prog 20 #[.agg #[.int .i64 N, .slice A n c], .agg #[.int .i64 p, .int .i64 s, .int .i64 l, .int .i64 q]] w (BePost (beginS N p s) w) := by
  have mixed : Try.prog.follows .mixedOrders = true := by kernel_rfl
  have HN := Lib.hid (jchk_N hj)
  have HP := Lib.hid (badJ_not (jchk_zero hj).2).1
  obtain ⟨m, hm⟩ : ∃ m : Nat, N = m := ⟨N.toNat, by have := HN.out; omega⟩
  have HM := Lib.hid hm
  clear hm hj
  obtain ⟨iv, hiv, hzv, hzsv, hzbv⟩ := info_parts (show (Try.prog.info? 2).map (fun i => (i.zero, i.size, i.bytes)) = some (some (.int .i64 0), 1, 8) by kernel_rfl)
  obtain ⟨ir, hir, hzr, hzsr, hzbr⟩ := info_parts (show (Try.prog.info? 4).map (fun i => (i.zero, i.size, i.bytes)) = some (some (.bool false), 1, 1) by kernel_rfl)
  have IV := Lib.hid hiv
  have ZV := Lib.hid hzv
  have SV := Lib.hid hzsv
  have BV := Lib.hid hzbv
  have IR := Lib.hid hir
  have ZR := Lib.hid hzr
  have SR := Lib.hid hzsr
  have BR := Lib.hid hzbr
  clear hiv hzv hzsv hzbv hir hzr hzsr hzbr
  obtain ⟨w3, hw3⟩ : ∃ w3, w3 = ((w.alloc (.cells #[.int .i64 N, .slice A n c] 24)).alloc (.cells #[.int .i64 p, .int .i64 s, .int .i64 l, .int .i64 q] 26)).alloc (.cells #[.int .i64 0, .slice none 0 0, .slice none 0 0, .slice none 0 0] 31) := ⟨_, rfl⟩
  have hbx : Bx w N A n c p s l q w3 := by rw [hw3]; exact (Bx.init w N A n c p s l q).alloc _
  have HT := Lib.hid (fun (W : World) (hb : Below w3.heap.size w3 W) => third w N A n c p s l q (.cells #[.int .i64 0, .slice none 0 0, .slice none 0 0, .slice none 0 0] 31) W (by rw [hw3] at hb; exact hb))
  have HBX := Lib.hid hbx
  clear hbx
  go_enter Try.func20, Try.ntmps20
  go_upto_region 1 with fail
  rw [← hw3]
  clear hw3
  have HR0 := Lib.hid (Rp.start w3 0)
  go_wp2_with fail
  generalize w3.alloc (.cells #[.int .i64 0, .slice none 0 0, .slice none 0 0, .slice none 0 0] 31) = W4 at HR0 ⊢
  obtain ⟨bo, hbo⟩ : ∃ b, b = w3.heap.size := ⟨_, rfl⟩
  rw [← hbo] at HR0 ⊢
  have HBO := Lib.hid hbo
  clear hbo
  go_loopw [6] (fun i W => RbRel w3 bo m p s i W) (fun i W => m - (intOf i).toNat)
  case atStart => exact ⟨0, none, 0, none, 0, rfl, Nat.zero_le _, HR0⟩
  case round =>
    obtain ⟨k, V, cV, R, cR, rfl, hk, HR⟩ := hrel
    clear HR0
    have HXW := Lib.hid (HBX.out.next HR.out.bl)
    by_cases hkm : k < m
    · have hkN : (k : Int) < N := by have := HM.out; omega
      have hk24 : k < 24 := by have := HM.out; have := HN.out; omega
      have g0 := HXW.out.g0
      have g1 := HXW.out.g1
      have j0 := HXW.out.j0
      have j1 := HXW.out.j1
      have j2 := HXW.out.j2
      have j3 := HXW.out.j3
      have t1 := HR.out.c1
      have hvl := bsV_len p s k
      have hrl : (List.replicate k false).length = k := by simp
      rw [hvl] at t1
      clear hvl hrl
      have HST := Lib.hid (fun W => rstart_any p s l q k W HP.out (by omega) (by omega))
      go_wp2_with fail
      go_region_law (first | (refine step_own1 rfl _ _ 27 rfl w3.heap.size 2 iv _ 1 8 Try.underlying27 IV.out ZV.out SV.out BV.out rfl (by decide) V k cV (vc (bsV p s k)) (by simp [Act.eval]) HV8.out (w7.heap.size + 1) (some ⟨w7.heap.size, 0, none⟩) 1 1 (vc [startI p s k]) (by simp [Act.eval]) (lies_v w7 _) (vc_one _) (by unfold maxLen; omega) (by omega) HRP8.out.bl.size ?_; intro A9 c9 w9 ho9 hb9 hg9; obtain ⟨t9, f9, hp9⟩ := rb_step HRP8.out ho9 hb9 hg9; have HP9 := Lib.hid hp9) | (go_simp; go_at_call 34; refine (HST.out _).mono ?_; rintro e w7 ⟨rfl, hb7⟩; have HRP7 := Lib.hid (HR.out.next (below_of_drew hb7)); have HRP8 := Lib.hid (HRP7.out.next (below_alloc w7 (.cells #[.int .i64 (startI p s k)] 2))); have HV8 := Lib.hid HRP8.out.v; rw [bsV_len] at HV8; have t7 := HRP7.out.c1; rw [bsV_len] at t7; have t8 := HRP8.out.c1; rw [bsV_len] at t8))
      all_goals
        clear hp9 t1 t7 t8 t9 f9 ho9 hb9 hg9 HV8 HRP7 HRP8 hb7 g0 g1 j0 j1 j2 j3
        generalize w9.setCell ⟨bo, 1, none⟩ (.slice A9 (k + 1) c9) = W at HP9 ⊢
        have u2 := HP9.out.c2
        rw [List.length_replicate] at u2
        have ua : (W.alloc (.cells #[.bool false] 4)).cell? ⟨bo, 2, none⟩ = some (.slice R k cR) := (World.cell?_alloc_lt W _ _ HP9.out.lt).trans u2
        have HP8 := Lib.hid (HP9.out.next (below_alloc W (.cells #[.bool false] 4)))
        have HR8 := Lib.hid HP8.out.r
        rw [List.length_replicate] at HR8
        go_wp2_with (at_builtin; go_must (refine wpList_app2 _ rfl (.tmp 22) (.tmp 23) 28 rfl w3.heap.size 4 ir _ 1 1 Try.underlying28 IR.out ZR.out SR.out BR.out rfl (by decide) R k cR (rc (List.replicate k false)) rfl HR8.out (W.heap.size + 1) (some ⟨W.heap.size, 0, none⟩) 1 1 (rc [false]) rfl (lies_r W _) (rc_one _) (k + 1) (rc (List.replicate k false) ++ rc [false]) rfl rfl (by unfold maxLen; omega) (by omega) HP8.out.bl.size ?_))
        intro A5 c5 w5 ho5 hb5 hg5
        have hg5' : (W.alloc (.cells #[.bool false] 4)).grownBy w5 (Value.slice R (List.replicate k false).length cR).ownBlock := by rw [List.length_replicate]; exact hg5
        have HNB := Lib.hid (HP8.out.blk HP8.out.r (by decide) hg5')
        have t9 := cell_of_row w5 bo 2 _ 31 (0, 0) HNB.out
        have f9 := unfrozen HNB.out 2
        have HP5 := Lib.hid (HP8.out.putR (by rw [List.length_replicate]; exact ho5) hb5 hg5')
        rw [List.length_replicate, ← bsR_succ] at HP5
        clear u2 ua ho5 hb5 hg5 hg5' HNB HR8 HP8 HP9
        go_wp2_with fail
        go_roundw
        case rel => exact ⟨k + 1, A9, c9, A5, c5, by go_num, by omega, HP5⟩
        case measure => simp [intOf]; omega
    · have hk' : k = m := by omega
      subst hk'
      have hkN : ¬ ((k : Int) < N) := by have := HM.out; omega
      have HB := Lib.hid (show beginS N p s = ⟨0, bsV p s k, List.replicate k false, []⟩ by unfold beginS bsV; rw [HM.out]; rfl)
      have hok : Ok (beginS N p s) := begin_ok HN.out.2
      rw [HB.out] at hok
      have HOK := Lib.hid hok
      have nb := HR.out.nb
      rw [bsV_len, List.length_replicate] at nb
      have b0 := cell_of_row wr _ 0 _ 31 (0, 0) nb
      have b1 := cell_of_row wr _ 1 _ 31 (0, 0) nb
      have b2 := cell_of_row wr _ 2 _ 31 (0, 0) nb
      have b3 := cell_of_row wr _ 3 _ 31 (0, 0) nb
      have hza := (HT.out wr HR.out.bl).1
      have hlt := (HT.out w3 (Below.refl _ _)).2
      have r0 := cell_of_row wr _ 0 _ 31 (0, 0) hza
      have f0 := unfrozen hza 0
      have r1 := cell_of_row wr _ 1 _ 31 (0, 0) hza
      have f1 := unfrozen hza 1
      have r2 := cell_of_row wr _ 2 _ 31 (0, 0) hza
      have f2 := unfrozen hza 2
      have r3 := cell_of_row wr _ 3 _ 31 (0, 0) hza
      have f3 := unfrozen hza 3
      have g0 := HXW.out.g0
      have hne : ¬ w.heap.size + 1 + 1 = bo := by rw [HBO.out]; omega
      clear nb hza hok
      go_wp2_with fail
      refine bodyPost_ret (v := .agg #[.int .i64 0, .slice V k cV, .slice R k cR, .slice none 0 0]) (by simp [results, Try.results20, go_sem, r0, r1, r2, r3]) rfl ?_
      rw [HB.out]
      have hv8 := ownsRow_setCell_below (ownsRow_setCell_below (ownsRow_setCell_below (ownsRow_setCell_below HR.out.v (a := ⟨w.heap.size + 1 + 1, 0, none⟩) hlt (.int .i64 0)) (a := ⟨w.heap.size + 1 + 1, 1, none⟩) hlt (.slice V k cV)) (a := ⟨w.heap.size + 1 + 1, 2, none⟩) hlt (.slice R k cR)) (a := ⟨w.heap.size + 1 + 1, 3, none⟩) hlt (.slice none 0 0)
      have hr8 := ownsRow_setCell_below (ownsRow_setCell_below (ownsRow_setCell_below (ownsRow_setCell_below HR.out.r (a := ⟨w.heap.size + 1 + 1, 0, none⟩) hlt (.int .i64 0)) (a := ⟨w.heap.size + 1 + 1, 1, none⟩) hlt (.slice V k cV)) (a := ⟨w.heap.size + 1 + 1, 2, none⟩) hlt (.slice R k cR)) (a := ⟨w.heap.size + 1 + 1, 3, none⟩) hlt (.slice none 0 0)
      refine ⟨((((HXW.out.bl.setCell (by simp; omega) _).setCell (by simp; omega) _).setCell (by simp; omega) _).setCell (by simp; omega) _), V, cV, R, cR, none, 0, by dsimp only; rw [bsV_len, List.length_replicate]; rfl, ?_, (Fr.own HR.out.v).low HBX.out.bl.size, (Fr.own HR.out.r).low HBX.out.bl.size, Fr.no _⟩
      exact ⟨Lies.of_own hv8, Lies.of_own hr8, Lies.nil, own_cap hv8, own_cap hr8, Nat.le_refl _, HOK.out⟩
end Go.Proofs.Ytkmflofokgkekaa
