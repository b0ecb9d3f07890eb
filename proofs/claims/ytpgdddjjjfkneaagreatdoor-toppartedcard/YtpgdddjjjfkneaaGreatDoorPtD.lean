import Derived.Test.YtpgdddjjjfkneaaGreatDoorPtC
import Derived.Test.YtpgdddjjjfkneaaGreatDoorPtB
import Derived.Deep.RegionLaw
import Derived.BigRegion
/-
  The contract of part.partition. No condition but that the numbers are not too many.
-/
namespace Go.Proofs.YtpgdddjjjfkneaaGreatDoor
open Go.ChangeShapes Go.WideShapes Go.ChangeAt Go.RowKit
set_option linter.unusedVariables false

/-- The job and the state stand boxed in the first two blocks behind w, an empty partition in the third. -/
structure Jb (w : World) (p s l q : Int) (S : St) (A1 : Option Addr) (c1 : Nat) (A2 : Option Addr) (c2 : Nat) (A3 : Option Addr) (c3 : Nat) (W : World) : Prop where
  z : w.heap.size + 3 ≤ W.heap.size
  j0 : W.cell? ⟨w.heap.size, 0, none⟩ = some (.int .i64 p)
  j1 : W.cell? ⟨w.heap.size, 1, none⟩ = some (.int .i64 s)
  j2 : W.cell? ⟨w.heap.size, 2, none⟩ = some (.int .i64 l)
  j3 : W.cell? ⟨w.heap.size, 3, none⟩ = some (.int .i64 q)
  s0 : W.cell? ⟨w.heap.size + 1, 0, none⟩ = some (.int .i64 S.step)
  s1 : W.cell? ⟨w.heap.size + 1, 1, none⟩ = some (.slice A1 S.vals.length c1)
  s2 : W.cell? ⟨w.heap.size + 1, 2, none⟩ = some (.slice A2 S.rest.length c2)
  s3 : W.cell? ⟨w.heap.size + 1, 3, none⟩ = some (.slice A3 S.inn.length c3)
  rb : W.heap[w.heap.size + 1 + 1]? = some (.cells #[.int .i64 0, .int .i64 0, .slice none 0 0, .slice none 0 0, .slice none 0 0] 64 (0, 0))
  bl : Below w.heap.size w W
section
variable {w : World} {p s l q : Int} {S : St} {A1 : Option Addr} {c1 : Nat} {A2 : Option Addr} {c2 : Nat} {A3 : Option Addr} {c3 : Nat} {W W' : World}
theorem Jb.next (h : Jb w p s l q S A1 c1 A2 c2 A3 c3 W) (hb : Below W.heap.size W W') : Jb w p s l q S A1 c1 A2 c2 A3 c3 W' :=
  have k : ∀ b o, b < w.heap.size + 2 → W'.cell? ⟨b, o, none⟩ = W.cell? ⟨b, o, none⟩ := fun b o hl => hb.cell (p := ⟨b, o, none⟩) (Nat.lt_of_lt_of_le hl (by have := h.z; omega))
  ⟨Nat.le_trans h.z hb.size, (k _ _ (by omega)).trans h.j0, (k _ _ (by omega)).trans h.j1, (k _ _ (by omega)).trans h.j2, (k _ _ (by omega)).trans h.j3, (k _ _ (by omega)).trans h.s0, (k _ _ (by omega)).trans h.s1, (k _ _ (by omega)).trans h.s2, (k _ _ (by omega)).trans h.s3,
    (hb.block _ (by have := h.z; omega)).trans h.rb, h.bl.trans (hb.mono (by have := h.z; omega))⟩
end
theorem Jb.init (w : World) (p s l q : Int) (S : St) (A1 : Option Addr) (c1 : Nat) (A2 : Option Addr) (c2 : Nat) (A3 : Option Addr) (c3 : Nat) :
    Jb w p s l q S A1 c1 A2 c2 A3 c3 (((w.alloc (.cells #[.int .i64 p, .int .i64 s, .int .i64 l, .int .i64 q] 23)).alloc (.cells #[.int .i64 S.step, .slice A1 S.vals.length c1, .slice A2 S.rest.length c2, .slice A3 S.inn.length c3] 39)).alloc (.cells #[.int .i64 0, .int .i64 0, .slice none 0 0, .slice none 0 0, .slice none 0 0] 64)) := by
  refine ⟨by simp, by simp [go_sem], by simp [go_sem], by simp [go_sem], by simp [go_sem], by simp [go_sem], by simp [go_sem], by simp [go_sem], by simp [go_sem], ?_, (((Below.refl _ _).alloc (Nat.le_refl _) _).alloc (by simp) _).alloc (by simp; omega) _⟩
  have e : ((w.alloc (.cells #[.int .i64 p, .int .i64 s, .int .i64 l, .int .i64 q] 23)).alloc (.cells #[.int .i64 S.step, .slice A1 S.vals.length c1, .slice A2 S.rest.length c2, .slice A3 S.inn.length c3] 39)).heap.size = w.heap.size + 1 + 1 := by simp
  rw [← e]
  exact heap_alloc_new _ _
/-- What of the values, of the rests, of the messages is of home P: of the first k. -/
def cv (q P : Int) (S : St) (k : Nat) : List Int := (vertsI k q P).map (vAt S.vals)
def cr (q P : Int) (S : St) (k : Nat) : List Bool := (vertsI k q P).map (rAt S.rest)
def cm (q P : Int) (S : St) (k : Nat) : List Ms := (S.inn.take k).filter fun m => decide (homeI q m.1 = P)
def cutI (q P : Int) (S : St) : St := ⟨S.step, cv q P S S.vals.length, cr q P S S.vals.length, cm q P S S.inn.length⟩
theorem cv_len (q P : Int) (S : St) (k : Nat) : (cv q P S k).length = (vertsI k q P).length := by unfold cv; simp
theorem cr_len (q P : Int) (S : St) (k : Nat) : (cr q P S k).length = (vertsI k q P).length := by unfold cr; simp
theorem cm_len (q P : Int) (S : St) (k : Nat) : (cm q P S k).length ≤ k := by
  unfold cm
  have := List.length_filter_le (fun m : Ms => decide (homeI q m.1 = P)) (S.inn.take k)
  have h2 := List.length_take_le k S.inn
  omega
theorem cv_yes {q P : Int} {S : St} {k : Nat} (h : (k : Int) % q = P) : cv q P S (k + 1) = cv q P S k ++ [vAt S.vals k] := by unfold cv; rw [vertsI_yes h]; simp
theorem cr_yes {q P : Int} {S : St} {k : Nat} (h : (k : Int) % q = P) : cr q P S (k + 1) = cr q P S k ++ [rAt S.rest k] := by unfold cr; rw [vertsI_yes h]; simp
theorem cv_no {q P : Int} {S : St} {k : Nat} (h : ¬ (k : Int) % q = P) : cv q P S (k + 1) = cv q P S k := by unfold cv; rw [vertsI_no h]
theorem cr_no {q P : Int} {S : St} {k : Nat} (h : ¬ (k : Int) % q = P) : cr q P S (k + 1) = cr q P S k := by unfold cr; rw [vertsI_no h]
theorem cm_yes {q P : Int} {S : St} {k : Nat} (hk : k < S.inn.length) (h : homeI q (mAt S.inn k).1 = P) : cm q P S (k + 1) = cm q P S k ++ [mAt S.inn k] := by
  unfold cm; rw [List.take_succ_eq_append_getElem hk, List.filter_append, ← mAt_get _ _ hk]; simp [h]
theorem cm_no {q P : Int} {S : St} {k : Nat} (hk : k < S.inn.length) (h : ¬ homeI q (mAt S.inn k).1 = P) : cm q P S (k + 1) = cm q P S k := by
  unfold cm; rw [List.take_succ_eq_append_getElem hk, List.filter_append, ← mAt_get _ _ hk]; simp [h]
theorem ok_vAt {S : St} (h : Ok S) (k : Nat) : bd (vAt S.vals k) := by
  by_cases hk : k < S.vals.length
  · rw [vAt_get _ _ hk]; exact h.v _ (List.getElem_mem hk)
  · unfold vAt; rw [List.getD_eq_getElem?_getD, List.getElem?_eq_none (by omega)]; exact bd0
theorem cutI_ok {q P : Int} {S : St} (h : Ok S) : Ok (cutI q P S) := by
  have h1 := vertsI_len S.vals.length q P
  refine ⟨h.st, fun x hx => ?_, fun e he => ?_, ?_, ?_, ?_⟩
  · unfold cutI cv at hx
    obtain ⟨v, _, rfl⟩ := List.mem_map.1 hx
    exact ok_vAt h v
  · unfold cutI cm at he
    exact h.m e (List.mem_of_mem_take (List.mem_filter.1 he).1)
  · show (cv q P S _).length ≤ _; rw [cv_len]; have := h.lv; omega
  · show (cr q P S _).length ≤ _; rw [cr_len]; have := h.lv; omega
  · show (cm q P S _).length ≤ _; have := cm_len q P S S.inn.length; have := h.lm; omega
def PaRel (q P : Int) (S : St) (w3 : World) (bo : Nat) (i : Value) (W : World) : Prop := ∃ (k : Nat) (V : Option Addr) (cV : Nat) (R : Option Addr) (cR : Nat), i = .int .i64 k ∧ k ≤ S.vals.length ∧ Hid (Qp w3 bo P S.step V cV R cR none 0 (cv q P S k) (cr q P S k) [] W)
def PmRel (q P : Int) (S : St) (w3 : World) (bo : Nat) (V : Option Addr) (cV : Nat) (R : Option Addr) (cR : Nat) (i : Value) (W : World) : Prop := ∃ (k : Nat) (M : Option Addr) (cM : Nat), i = .int .i64 k ∧ k ≤ S.inn.length ∧ Hid (Qp w3 bo P S.step V cV R cR M cM (cv q P S S.vals.length) (cr q P S S.vals.length) (cm q P S k) W)
set_option maxRecDepth 20000 in
set_option maxHeartbeats 2000000 in
theorem partition_any (p s l q P : Int) (S : St) (A1 : Option Addr) (c1 : Nat) (A2 : Option Addr) (c2 : Nat) (A3 : Option Addr) (c3 : Nat) (w : World) (hS : StL w w.heap.size S A1 c1 A2 c2 A3 c3) (hr : S.rest.length = S.vals.length) (hq1 : 1 ≤ q) (hq6 : q ≤ 6) :
    Calls Tryz.prog 39 #[.agg #[.int .i64 p, .int .i64 s, .int .i64 l, .int .i64 q], .agg #[.int .i64 S.step, .slice A1 S.vals.length c1, .slice A2 S.rest.length c2, .slice A3 S.inn.length c3], .int .i64 P] w (PtPost P (cutI q P S) w) := by
  have mixed : Tryz.prog.follows .mixedOrders = true := by kernel_rfl
  obtain ⟨iv, hiv, hzv, hzsv, hzbv⟩ := info_parts (show (Tryz.prog.info? 2).map (fun i => (i.zero, i.size, i.bytes)) = some (some (.int .i64 0), 1, 8) by kernel_rfl)
  obtain ⟨ir, hir, hzr, hzsr, hzbr⟩ := info_parts (show (Tryz.prog.info? 4).map (fun i => (i.zero, i.size, i.bytes)) = some (some (.bool false), 1, 1) by kernel_rfl)
  obtain ⟨im, him, hzm, hzsm, hzbm⟩ := info_parts (show (Tryz.prog.info? 118).map (fun i => (i.zero, i.size, i.bytes)) = some (some (.agg #[.int .i64 0, .int .i64 0]), 2, 16) by kernel_rfl)
  have IV := Lib.hid hiv
  have ZV := Lib.hid hzv
  have SV := Lib.hid hzsv
  have BV := Lib.hid hzbv
  have IR := Lib.hid hir
  have ZR := Lib.hid hzr
  have SR := Lib.hid hzsr
  have BR := Lib.hid hzbr
  have IM := Lib.hid him
  have ZM := Lib.hid hzm
  have SM := Lib.hid hzsm
  have BM := Lib.hid hzbm
  clear hiv hzv hzsv hzbv hir hzr hzsr hzbr him hzm hzsm hzbm
  obtain ⟨w3, hw3⟩ : ∃ w3, w3 = ((w.alloc (.cells #[.int .i64 p, .int .i64 s, .int .i64 l, .int .i64 q] 23)).alloc (.cells #[.int .i64 S.step, .slice A1 S.vals.length c1, .slice A2 S.rest.length c2, .slice A3 S.inn.length c3] 39)).alloc (.cells #[.int .i64 0, .int .i64 0, .slice none 0 0, .slice none 0 0, .slice none 0 0] 64) := ⟨_, rfl⟩
  have HJB := Lib.hid (show Jb w p s l q S A1 c1 A2 c2 A3 c3 w3 by rw [hw3]; exact Jb.init w p s l q S A1 c1 A2 c2 A3 c3)
  have HSL := Lib.hid (hS.next HJB.out.bl)
  have HRL := Lib.hid hr
  have hlv := hS.ok.lv
  have hlm := hS.ok.lm
  have HOK := Lib.hid hS.ok
  clear hS hr
  go_enter Tryz.func39, Tryz.ntmps39
  go_upto_region 1 with fail
  rw [← hw3]
  clear hw3
  have t0 := HJB.out.s0
  have HQ0 := Lib.hid (Qp.start w3 P S.step)
  go_upto_region 2 with fail
  generalize w3.alloc (.cells #[.int .i64 P, .int .i64 S.step, .slice none 0 0, .slice none 0 0, .slice none 0 0] 64) = W4 at HQ0 ⊢
  obtain ⟨bo, hbo⟩ : ∃ b, b = w3.heap.size := ⟨_, rfl⟩
  rw [← hbo] at HQ0 ⊢
  have HBO := Lib.hid hbo
  clear hbo t0
  have t1 := (HJB.out.next HQ0.out.bl).s1
  go_wp2_with fail
  clear t1
  go_loopw [19] (fun i W => PaRel q P S w3 bo i W) (fun i W => S.vals.length - (intOf i).toNat)
  case atStart => exact ⟨0, none, 0, none, 0, rfl, Nat.zero_le _, HQ0⟩
  case round =>
    obtain ⟨k, V, cV, R, cR, rfl, hk, HQ⟩ := hrel
    clear HQ0
    have HJW := Lib.hid (HJB.out.next HQ.out.bl)
    have HSW := Lib.hid (HSL.out.next HQ.out.bl)
    by_cases hkm : k < S.vals.length
    · have hkN : (k : Int) < (S.vals.length : Int) := by omega
      have hkR : (k : Int) < (S.rest.length : Int) := by have := HRL.out; omega
      obtain ⟨ad1, rfl, hadb1, e1⟩ := HSW.out.v.vs k hkm
      have j0 := HJW.out.j0
      have j1 := HJW.out.j1
      have j2 := HJW.out.j2
      have j3 := HJW.out.j3
      have HHY := Lib.hid (homeI_yes (q := q) (v := (k : Int)) (by omega) (by omega) (by omega))
      go_wp2_with fail
      refine (home_any p s l q k _).mono ?_
      rintro e w2 ⟨rfl, hb2⟩
      rw [HHY.out]
      have HQ2 := Lib.hid (HQ.out.next hb2)
      have HJ2 := Lib.hid (HJW.out.next hb2)
      have HS2 := Lib.hid (HSW.out.next hb2)
      clear j0 j1 j2 j3 e1 hadb1 hb2 HQ HJW HSW
      by_cases he : (k : Int) % q = P
      · have he' : ((k : Int) % q == P) = true := by simpa using he
        have HVY := Lib.hid (cv_yes (S := S) he)
        have HRY := Lib.hid (cr_yes (S := S) he)
        have hvl : (cv q P S k).length ≤ k := by rw [cv_len]; exact vertsI_len k q P
        have hrl : (cr q P S k).length ≤ k := by rw [cr_len]; exact vertsI_len k q P
        clear he
        have u1 := HQ2.out.kV
        have ua : (w2.alloc (.cells #[.int .i64 (vAt S.vals k)] 2)).cell? ⟨bo, 2, none⟩ = some (.slice V (cv q P S k).length cV) := (World.cell?_alloc_lt w2 _ _ HQ2.out.lt).trans u1
        have HP8 := Lib.hid (HQ2.out.next (below_alloc w2 (.cells #[.int .i64 (vAt S.vals k)] 2)))
        have HV8 := Lib.hid HP8.out.v
        generalize hvs : cv q P S k = vs at *
        generalize hrs : cr q P S k = rs at *
        go_wp2_with (at_builtin; go_must (refine wpList_app2 _ rfl (.tmp 30) (.tmp 32) 31 rfl w3.heap.size 2 iv _ 1 8 Tryz.underlying31 IV.out ZV.out SV.out BV.out rfl (by decide) V vs.length cV (vc vs) rfl HV8.out (w2.heap.size + 1) (some ⟨w2.heap.size, 0, none⟩) 1 1 (vc [vAt S.vals k]) rfl (lies_v w2 _) (vc_one _) (vs.length + 1) (vc vs ++ vc [vAt S.vals k]) rfl rfl (by unfold maxLen; omega) (by omega) HP8.out.bl.size ?_))
        intro A5 c5 w5 ho5 hb5 hg5
        obtain ⟨hp5, t9, f9⟩ := HP8.out.putV (ys := [vAt S.vals k]) rfl ho5 hb5 hg5
        have HP5 := Lib.hid hp5
        clear u1 ua ho5 hb5 hg5 hp5 HV8
        go_upto_region 7 with fail
        generalize w5.setCell ⟨bo, 2, none⟩ (.slice A5 (vs.length + 1) c5) = W at HP5 ⊢
        have v1 := HP5.out.kR
        have HJ5 := Lib.hid (HJB.out.next HP5.out.bl)
        have s2 := HJ5.out.s2
        obtain ⟨ad2, rfl, hadb2, e2⟩ := (HSL.out.next HP5.out.bl).r.rs k (by have := HRL.out; omega)
        have HP7 := Lib.hid ((HP5.out.next (below_alloc W (.cells #[.bool (rAt S.rest k)] 4))).next (Below.refl _ (W.alloc (.cells #[.bool (rAt S.rest k)] 4))).drew)
        have HL7 := Lib.hid (show Lies (W.alloc (.cells #[.bool (rAt S.rest k)] 4)).drew (W.heap.size + 1) 1 (some ⟨W.heap.size, 0, none⟩) 1 (rc [rAt S.rest k]) from lies_r W _)
        have HR7 := Lib.hid HP7.out.r
        have v2 : (W.alloc (.cells #[.bool (rAt S.rest k)] 4)).cell? ⟨bo, 3, none⟩ = some (.slice R rs.length cR) := HP7.out.kR
        clear t9 f9 HP8 HQ2 HJ2 HS2 hadb2
        go_region_law (refine step_own1 rfl _ _ 36 rfl w3.heap.size 4 ir _ 1 1 Tryz.underlying36 IR.out ZR.out SR.out BR.out rfl (by decide) R rs.length cR (rc rs) (by simp [Act.eval]) HR7.out (W.heap.size + 1) (some ⟨W.heap.size, 0, none⟩) 1 1 (rc [rAt S.rest k]) (by simp [Act.eval]) HL7.out (rc_one _) (by unfold maxLen; omega) (by omega) HP7.out.bl.size ?_; intro A9 c9 w9 ho9 hb9 hg9; obtain ⟨hp9, t9, f9⟩ := HP7.out.putR (ys := [rAt S.rest k]) rfl ho9 hb9 hg9; have HP9 := Lib.hid hp9)
        all_goals
          clear hp9 v1 v2 s2 e2 ho9 hb9 hg9 t9 f9 HR7 HL7
          go_wp2_with fail
          go_roundw
          case rel => exact ⟨k + 1, A5, c5, A9, c9, by go_num, by omega, by rw [HVY.out, HRY.out]; exact HP9⟩
          case measure => simp [intOf]; omega
      · have he' : ((k : Int) % q == P) = false := by simpa using he
        have HVN := Lib.hid (cv_no (S := S) he)
        have HRN := Lib.hid (cr_no (S := S) he)
        clear he
        go_wp2_with fail
        go_roundw
        case rel => exact ⟨k + 1, V, cV, R, cR, by go_num, by omega, by rw [HVN.out, HRN.out]; exact HQ2⟩
        case measure => simp [intOf]; omega
    · have hk' : k = S.vals.length := by omega
      subst hk'
      have t3 := HJW.out.s3
      clear HSW HJW
      have HVL := Lib.hid (show (cv q P S S.vals.length).length ≤ 1000000 by rw [cv_len]; have := vertsI_len S.vals.length q P; omega)
      have HRL2 := Lib.hid (show (cr q P S S.vals.length).length ≤ 1000000 by rw [cr_len]; have := vertsI_len S.vals.length q P; omega)
      go_wp2_with fail
      clear t3
      go_loopw [49] (fun i W => PmRel q P S w3 bo V cV R cR i W) (fun i W => S.inn.length - (intOf i).toNat)
      case atStart => exact ⟨0, none, 0, rfl, Nat.zero_le _, HQ⟩
      case round =>
        clear HQ
        obtain ⟨k, M, cM, rfl, hk, HQ⟩ := hrel
        have HJW := Lib.hid (HJB.out.next HQ.out.bl)
        have HSW := Lib.hid (HSL.out.next HQ.out.bl)
        by_cases hkm : k < S.inn.length
        · have hkN : (k : Int) < (S.inn.length : Int) := by omega
          obtain ⟨ad3, rfl, hadb3, e0, e1⟩ := HSW.out.m.ms k hkm
          have HQ4 := Lib.hid (HQ.out.next (below_alloc wr (.cells #[.int .i64 (mAt S.inn k).1, .int .i64 (mAt S.inn k).2] 118)))
          have HJ4 := Lib.hid (HJW.out.next (below_alloc wr (.cells #[.int .i64 (mAt S.inn k).1, .int .i64 (mAt S.inn k).2] 118)))
          have d0 : (wr.alloc (.cells #[.int .i64 (mAt S.inn k).1, .int .i64 (mAt S.inn k).2] 118)).cell? ⟨wr.heap.size, 0, none⟩ = some (.int .i64 (mAt S.inn k).1) := by simp [go_sem]
          have d1 : (wr.alloc (.cells #[.int .i64 (mAt S.inn k).1, .int .i64 (mAt S.inn k).2] 118)).cell? ⟨wr.heap.size, 1, none⟩ = some (.int .i64 (mAt S.inn k).2) := by simp [go_sem]
          have HSZ := Lib.hid (show wr.heap.size < (wr.alloc (.cells #[.int .i64 (mAt S.inn k).1, .int .i64 (mAt S.inn k).2] 118)).heap.size by simp)
          go_upto_region 12 with fail
          clear e0 e1 hadb3 HSW
          generalize wr.alloc (.cells #[.int .i64 (mAt S.inn k).1, .int .i64 (mAt S.inn k).2] 118) = w4 at HQ4 HJ4 d0 d1 HSZ ⊢
          have j0 := HJ4.out.j0
          have j1 := HJ4.out.j1
          have j2 := HJ4.out.j2
          have j3 := HJ4.out.j3
          go_wp2_with fail
          refine (home_any p s l q (mAt S.inn k).1 _).mono ?_
          rintro e w5 ⟨rfl, hb5⟩
          have HQ5 := Lib.hid (HQ4.out.next hb5)
          have HD0 := Lib.hid ((hb5.cell (p := ⟨wr.heap.size, 0, none⟩) HSZ.out).trans d0)
          have HD1 := Lib.hid ((hb5.cell (p := ⟨wr.heap.size, 1, none⟩) HSZ.out).trans d1)
          clear d0 d1 j0 j1 j2 j3 hb5 HQ4 HJ4 HQ HJW
          by_cases he : homeI q (mAt S.inn k).1 = P
          · have he' : (homeI q (mAt S.inn k).1 == P) = true := by simpa using he
            have HMY := Lib.hid (cm_yes (S := S) hkm he)
            have hml : (cm q P S k).length ≤ k := cm_len q P S k
            clear he
            have d0 := HD0.out
            have d1 := HD1.out
            have u1 := HQ5.out.kM
            have HP8 := Lib.hid (HQ5.out.next (below_alloc w5 (.cells #[.int .i64 (mAt S.inn k).1, .int .i64 (mAt S.inn k).2] 118)))
            have HM8 := Lib.hid HP8.out.m
            have HL8 := Lib.hid (lies_cells w5 (mc [mAt S.inn k]) 118 1 2 rfl)
            generalize hms : cm q P S k = ms at *
            go_wp2_with (at_builtin; go_must (refine wpList_app2 _ rfl (.tmp 60) (.tmp 62) 37 rfl w3.heap.size 118 im _ 2 16 Tryz.underlying37 IM.out ZM.out SM.out BM.out rfl (by decide) M ms.length cM (mc ms) rfl HM8.out (w5.heap.size + 1) (some ⟨w5.heap.size, 0, none⟩) 1 1 (mc [mAt S.inn k]) rfl HL8.out (mc_one _) (ms.length + 1) (mc ms ++ mc [mAt S.inn k]) rfl rfl (by unfold maxLen; omega) (by omega) HP8.out.bl.size ?_))
            intro A9 c9 w9 ho9 hb9 hg9
            obtain ⟨hp9, t9, f9⟩ := HP8.out.putM (ys := [mAt S.inn k]) rfl ho9 hb9 hg9
            have HP9 := Lib.hid hp9
            clear u1 ho9 hb9 hg9 hp9 d0 d1 HM8 HL8
            go_wp2_with fail
            go_roundw
            case rel => exact ⟨k + 1, A9, c9, by go_num, by omega, by rw [HMY.out]; exact HP9⟩
            case measure => simp [intOf]; omega
          · have he' : (homeI q (mAt S.inn k).1 == P) = false := by simpa using he
            have HMN := Lib.hid (cm_no (S := S) hkm he)
            clear he
            go_wp2_with fail
            go_roundw
            case rel => exact ⟨k + 1, M, cM, by go_num, by omega, by rw [HMN.out]; exact HQ5⟩
            case measure => simp [intOf]; omega
        · have hk' : k = S.inn.length := by omega
          subst hk'
          have HCO := Lib.hid (cutI_ok (q := q) (P := P) HOK.out)
          have b0 := HQ.out.c0
          have b1 := HQ.out.c1
          have b2 := HQ.out.kV
          have b3 := HQ.out.kR
          have b4 := HQ.out.kM
          have hza := HJW.out.rb
          have r0 := cell_of_row wr _ 0 _ 64 (0, 0) hza
          have f0 := unfrozen hza 0
          have r1 := cell_of_row wr _ 1 _ 64 (0, 0) hza
          have f1 := unfrozen hza 1
          have r2 := cell_of_row wr _ 2 _ 64 (0, 0) hza
          have f2 := unfrozen hza 2
          have r3 := cell_of_row wr _ 3 _ 64 (0, 0) hza
          have f3 := unfrozen hza 3
          have r4 := cell_of_row wr _ 4 _ 64 (0, 0) hza
          have f4 := unfrozen hza 4
          have HLT := Lib.hid (show w.heap.size + 1 + 1 < w3.heap.size by have := HJB.out.z; omega)
          have hne : ¬ w.heap.size + 1 + 1 = bo := by rw [HBO.out]; have := HLT.out; omega
          have HBW := Lib.hid HJW.out.bl
          have HVR := Lib.hid HQ.out.v
          have HRR := Lib.hid HQ.out.r
          have HMR := Lib.hid HQ.out.m
          clear hza HJW HSW HQ
          have HCU := Lib.hid (show cutI q P S = ⟨S.step, cv q P S S.vals.length, cr q P S S.vals.length, cm q P S S.inn.length⟩ from rfl)
          generalize cv q P S S.vals.length = vs at *
          generalize cr q P S S.vals.length = rs at *
          generalize cm q P S S.inn.length = ms at *
          go_wp2_with fail
          refine bodyPost_ret (v := .agg #[.int .i64 P, .int .i64 S.step, .slice V vs.length cV, .slice R rs.length cR, .slice M ms.length cM]) (by simp [results, Tryz.results39, go_sem, r0, r1, r2, r3, r4]) rfl ?_
          have st := fun {e z m : Nat} {u : Value} {xs : List Value} (h : wr.ownsRow w3.heap.size e z u m xs) => ownsRow_setCell_below (ownsRow_setCell_below (ownsRow_setCell_below (ownsRow_setCell_below (ownsRow_setCell_below h (a := ⟨w.heap.size + 1 + 1, 0, none⟩) HLT.out (.int .i64 P)) (a := ⟨w.heap.size + 1 + 1, 1, none⟩) HLT.out (.int .i64 S.step)) (a := ⟨w.heap.size + 1 + 1, 2, none⟩) HLT.out (.slice V vs.length cV)) (a := ⟨w.heap.size + 1 + 1, 3, none⟩) HLT.out (.slice R rs.length cR)) (a := ⟨w.heap.size + 1 + 1, 4, none⟩) HLT.out (.slice M ms.length cM)
          rw [HCU.out]
          rw [HCU.out] at HCO
          refine ⟨((((HBW.out.setCell (by simp; omega) _).setCell (by simp; omega) _).setCell (by simp; omega) _).setCell (by simp; omega) _).setCell (by simp; omega) _, V, cV, R, cR, M, cM, rfl, ?_, (Fr.own HVR.out).low HJB.out.bl.size, (Fr.own HRR.out).low HJB.out.bl.size, (Fr.own HMR.out).low HJB.out.bl.size⟩
          exact ⟨Lies.of_own (st HVR.out), Lies.of_own (st HRR.out), Lies.of_own (st HMR.out), own_cap HVR.out, own_cap HRR.out, own_cap HMR.out, HCO.out⟩
end Go.Proofs.YtpgdddjjjfkneaaGreatDoor


