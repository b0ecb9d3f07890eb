/-
  The contract of the document's own Cut. No condition but that the numbers are not too many.
-/
import Derived.Test.YtgfcgeiifinmmaaPtE
import Derived.Deep.RegionLaw
import Derived.BigRegion
import Derived.BigQuiet
namespace Go.Proofs.Ytgfcgeiifinmmaa
open Go.ChangeShapes Go.WideShapes Go.ChangeAt Go.RowKit
set_option linter.unusedVariables false

def nAt (L : List Nat) (k : Nat) : Nat := L.getD k 0
theorem nAt_get (L : List Nat) (k : Nat) (h : k < L.length) : nAt L k = L[k] := by unfold nAt; simp [List.getD, List.getElem?_eq_getElem h]
theorem nv_at (L : List Nat) (k : Nat) (h : k < L.length) : vAt (nv L) k = (nAt L k : Int) := by
  rw [vAt_get _ _ (by rw [nv_len]; exact h), nAt_get _ _ h]; unfold nv; simp
theorem take_next {α : Type} (L : List Nat) (k : Nat) (h : k < L.length) (f : Nat → α) : (L.take (k + 1)).map f = (L.take k).map f ++ [f (nAt L k)] := by
  rw [List.take_succ_eq_append_getElem h, List.map_append, nAt_get _ _ h]; rfl
/-- The messages to one vertex. -/
def msV (S : St) (v : Nat) (j : Nat) : List Ms := (S.inn.take j).filter fun m => m.1 == (v : Int)
def cL (S : St) (L : List Nat) (k : Nat) : List Ms := (L.take k).flatMap fun v => msV S v S.inn.length
theorem cL_next (S : St) (L : List Nat) (k : Nat) (h : k < L.length) : cL S L (k + 1) = cL S L k ++ msV S (nAt L k) S.inn.length := by
  unfold cL; rw [List.take_succ_eq_append_getElem h, List.flatMap_append, nAt_get _ _ h]; simp
theorem msV_yes {S : St} {v j : Nat} (h : j < S.inn.length) (he : (mAt S.inn j).1 = v) : msV S v (j + 1) = msV S v j ++ [mAt S.inn j] := by
  unfold msV; rw [List.take_succ_eq_append_getElem h, List.filter_append, ← mAt_get _ _ h]; simp [he]
theorem msV_no {S : St} {v j : Nat} (h : j < S.inn.length) (he : ¬ (mAt S.inn j).1 = v) : msV S v (j + 1) = msV S v j := by
  unfold msV; rw [List.take_succ_eq_append_getElem h, List.filter_append, ← mAt_get _ _ h]; simp [he]
theorem msV_len (S : St) (v j : Nat) : (msV S v j).length ≤ S.inn.length := by
  unfold msV
  have h1 := List.length_filter_le (fun m : Ms => m.1 == (v : Int)) (S.inn.take j)
  have h2 := List.length_take_le' j S.inn
  omega
theorem cL_len (S : St) (L : List Nat) (k : Nat) (hk : k ≤ L.length) : (cL S L k).length ≤ k * S.inn.length := by
  induction k with
  | zero => unfold cL; simp
  | succ k ih =>
    have h1 := ih (by omega)
    have h2 := msV_len S (nAt L k) S.inn.length
    rw [cL_next S L k (by omega), List.length_append, Nat.succ_mul]
    omega
/-- The partition whose vertices are L. -/
def cutL (S : St) (L : List Nat) : St := ⟨S.step, L.map (vAt S.vals), L.map (rAt S.rest), cL S L L.length⟩
theorem cutL_eq {N : Int} {es : List Ed} {p s l q : Int} {S : St} (h : rightB N es p s l q S = true) {P : Int} (hP : 0 ≤ P) : cutL S (vertsI N.toNat q P) = cutI q P S := by
  obtain ⟨hj, hs, hv, hr, hm⟩ := right_of h
  have hb := badJ_not (jchk_zero hj).2
  have hto := ris_to N (-1) S.inn hm
  have hn : N.toNat = S.vals.length := by omega
  unfold cutL cutI cv cr
  rw [hn]
  congr 1
  unfold cL cm
  rw [List.take_length, List.take_length]
  have h1 := ris_filter N (fun m => decide (homeI q m.1 = P)) S.inn (-1) (-1) (Int.le_refl _) hm
  have h2 := flat_ris (ris_ris N (-1) _ h1) (fun m hmm => by have := hto m (List.mem_filter.1 hmm).1; omega) N.toNat
  have h3 : ((S.inn.filter fun m => decide (homeI q m.1 = P)).filter fun m => decide (m.1 < (N.toNat : Int))) = S.inn.filter fun m => decide (homeI q m.1 = P) := by
    apply List.filter_eq_self.2
    intro m hmm
    have := hto m (List.mem_filter.1 hmm).1
    simp; omega
  rw [← h3, ← h2, ← hn]
  unfold vertsI msV
  rw [List.take_length]
  generalize N.toNat = k
  induction k with
  | zero => rfl
  | succ k ih =>
    rw [List.range_succ, List.filter_append, List.flatMap_append, List.flatMap_append, ih]
    congr 1
    by_cases he : (k : Int) % q = P
    · simp only [he, List.filter_cons_of_pos, decide_true, List.flatMap_cons, List.filter_nil, List.flatMap_nil, List.append_nil]
      rw [List.filter_filter]
      apply List.filter_congr
      intro m _
      by_cases e : m.1 = (k : Int)
      · rw [e, homeI_yes (by omega) (by omega) (by omega), he]; simp
      · simp [e]
    · rw [List.filter_cons_of_neg (by simpa using he)]
      simp only [List.filter_nil, List.flatMap_nil, List.flatMap_cons, List.append_nil]
      rw [List.filter_filter]
      symm
      apply List.filter_eq_nil_iff.2
      intro m _
      simp only [Bool.and_eq_true, beq_iff_eq, decide_eq_true_eq, not_and]
      intro e
      rw [e, homeI_yes (by omega) (by omega) (by omega)]
      exact he
def CuRel (S : St) (L : List Nat) (P : Int) (w4 : World) (bo b0 : Nat) (D : Option Addr) (d : Nat) (i : Value) (W : World) : Prop := ∃ (k : Nat) (V : Option Addr) (cV : Nat) (R : Option Addr) (cR : Nat) (M : Option Addr) (cM : Nat), i = .int .i64 k ∧ k ≤ L.length ∧
  Hid (Qp w4 bo P S.step V cV R cR M cM ((L.take k).map (vAt S.vals)) ((L.take k).map (rAt S.rest)) (cL S L k) W) ∧ Hid (W.ownsRow b0 3 1 (.slice D L.length d) L.length (vc (nv L)))
def CwRel (S : St) (L : List Nat) (k : Nat) (P : Int) (w4 : World) (bo b0 : Nat) (D : Option Addr) (d : Nat) (V : Option Addr) (cV : Nat) (R : Option Addr) (cR : Nat) (vs : List Int) (rs : List Bool) (i : Value) (W : World) : Prop := ∃ (j : Nat) (M : Option Addr) (cM : Nat), i = .int .i64 j ∧ j ≤ S.inn.length ∧
  Hid (Qp w4 bo P S.step V cV R cR M cM vs rs (cL S L k ++ msV S (nAt L k) j) W) ∧ Hid (W.ownsRow b0 3 1 (.slice D L.length d) L.length (vc (nv L)))

set_option maxRecDepth 20000 in
set_option maxHeartbeats 4000000 in
theorem rcut_any (N : Int) (A : Option Addr) (n c : Nat) (es : List Ed) (p s l q P : Int) (S : St) (A1 : Option Addr) (c1 : Nat) (A2 : Option Addr) (c2 : Nat) (A3 : Option Addr) (c3 : Nat) (w : World) (hS : StL w w.heap.size S A1 c1 A2 c2 A3 c3) (hr : rightB N es p s l q S = true) (hP : 0 ≤ P) :
    Calls Try.prog 35 #[.agg #[.int .i64 N, .slice A n c], .agg #[.int .i64 p, .int .i64 s, .int .i64 l, .int .i64 q], .agg #[.int .i64 S.step, .slice A1 S.vals.length c1, .slice A2 S.rest.length c2, .slice A3 S.inn.length c3], .int .i64 P] w (PtPost P (cutI q P S) w) := by
  have mixed : Try.prog.follows .mixedOrders = true := by kernel_rfl
  obtain ⟨iv, hiv, hzv, hzsv, hzbv⟩ := info_parts (show (Try.prog.info? 2).map (fun i => (i.zero, i.size, i.bytes)) = some (some (.int .i64 0), 1, 8) by kernel_rfl)
  obtain ⟨ir, hir, hzr, hzsr, hzbr⟩ := info_parts (show (Try.prog.info? 4).map (fun i => (i.zero, i.size, i.bytes)) = some (some (.bool false), 1, 1) by kernel_rfl)
  obtain ⟨im, him, hzm, hzsm, hzbm⟩ := info_parts (show (Try.prog.info? 61).map (fun i => (i.zero, i.size, i.bytes)) = some (some (.agg #[.int .i64 0, .int .i64 0]), 2, 16) by kernel_rfl)
  have IV := Lib.hid hiv
  have ZV := Lib.hid hzv
  have SV := Lib.hid hzsv
  have BV := Lib.hid hzbv
  have IR := Lib.hid hir
  have ZR := Lib.hid hzr
  have SR := Lib.hid hzsr
  have BR := Lib.hid hzbr
  have IM := Lib.hid him
  have ZM := Lib.hid hzm
  have SM := Lib.hid hzsm
  have BM := Lib.hid hzbm
  clear hiv hzv hzsv hzbv hir hzr hzsr hzbr him hzm hzsm hzbm
  have HCO := Lib.hid (cutI_ok (q := q) (P := P) hS.ok)
  rw [← cutL_eq hr hP] at HCO ⊢
  obtain ⟨hj, hs, hv, hrr, hm⟩ := right_of hr
  have HQ := Lib.hid (badJ_not (jchk_zero hj).2)
  have HN := Lib.hid (jchk_N hj)
  have HVN := Lib.hid hv
  have HRN := Lib.hid hrr
  have hlm := hS.ok.lm
  obtain ⟨w4, hw4⟩ : ∃ w4, w4 = (((w.alloc (.cells #[.int .i64 N, .slice A n c] 24)).alloc (.cells #[.int .i64 p, .int .i64 s, .int .i64 l, .int .i64 q] 26)).alloc (.cells #[.int .i64 S.step, .slice A1 S.vals.length c1, .slice A2 S.rest.length c2, .slice A3 S.inn.length c3] 40)).alloc (.cells #[.int .i64 0, .int .i64 0, .slice none 0 0, .slice none 0 0, .slice none 0 0] 36) := ⟨_, rfl⟩
  have HBS := Lib.hid (show Bs w N A n c p s l q S A1 c1 A2 c2 A3 c3 w4 by rw [hw4]; exact (Bs.init w N A n c p s l q S A1 c1 A2 c2 A3 c3).alloc _)
  have HRB := Lib.hid (show w4.heap[w.heap.size + 1 + 1 + 1]? = some (.cells #[.int .i64 0, .int .i64 0, .slice none 0 0, .slice none 0 0, .slice none 0 0] 36 (0, 0)) by
    have e : (((w.alloc (.cells #[.int .i64 N, .slice A n c] 24)).alloc (.cells #[.int .i64 p, .int .i64 s, .int .i64 l, .int .i64 q] 26)).alloc (.cells #[.int .i64 S.step, .slice A1 S.vals.length c1, .slice A2 S.rest.length c2, .slice A3 S.inn.length c3] 40)).heap.size = w.heap.size + 1 + 1 + 1 := by simp
    rw [hw4, ← e]
    exact heap_alloc_new _ _)
  have HSL := Lib.hid (hS.next HBS.out.x.bl)
  clear hS hr hj hs hv hrr hm
  go_enter Try.func35, Try.ntmps35
  go_upto_region 1 with fail
  rw [← hw4]
  clear hw4
  have t0 := HBS.out.s0
  have HQ0 := Lib.hid (Qp.start w4 P S.step)
  go_upto_region 2 with fail
  generalize w4.alloc (.cells #[.int .i64 P, .int .i64 S.step, .slice none 0 0, .slice none 0 0, .slice none 0 0] 36) = W5 at HQ0 ⊢
  obtain ⟨bo, hbo⟩ : ∃ b, b = w4.heap.size := ⟨_, rfl⟩
  rw [← hbo] at HQ0 ⊢
  have HBO := Lib.hid hbo
  clear hbo t0
  obtain ⟨⟨z1, g0, g1, j0, j1, j2, j3, bl1⟩, z2, s0, s1, s2, s3⟩ := HBS.out.next HQ0.out.bl
  clear z1 bl1 z2
  go_wp2_with fail
  refine (verts_any N A n c p s l q P _ ⟨by have := HN.out; omega, HN.out.2⟩ (by have := HQ.out; omega)).mono ?_
  rintro e w6 ⟨D, d, rfl, ho6, hb6⟩
  have HQ6 := Lib.hid (HQ0.out.next hb6)
  have HO6 := Lib.hid ho6
  have HLV := Lib.hid (show ∀ v ∈ vertsI N.toNat q P, v < N.toNat from fun v hv => by unfold vertsI at hv; simpa using (List.mem_filter.1 hv).1)
  have hvl := vertsI_len N.toNat q P
  have hm24 : N.toNat ≤ 24 := by have := HN.out; omega
  clear g0 g1 j0 j1 j2 j3 s0 s1 s2 s3 ho6 hb6 HQ0
  obtain ⟨b0, hb0⟩ : ∃ b, b = W5.heap.size := ⟨_, rfl⟩
  rw [← hb0] at HO6
  clear hb0
  generalize vertsI N.toNat q P = L at *
  go_wp2_with fail
  go_loopw [11] (fun i W => CuRel S L P w4 bo b0 D d i W) (fun i W => L.length - (intOf i).toNat)
  case atStart => exact ⟨0, none, 0, none, 0, none, 0, rfl, Nat.zero_le _, HQ6, HO6⟩
  case round =>
    obtain ⟨k, V, cV, R, cR, M, cM, rfl, hk, HQW, HOW⟩ := hrel
    clear HQ6 HO6
    have HBW := Lib.hid (HBS.out.next HQW.out.bl)
    by_cases hkm : k < L.length
    · have hkN : (k : Int) < (L.length : Int) := by omega
      have HTV := Lib.hid (take_next L k hkm (vAt S.vals))
      have HTR := Lib.hid (take_next L k hkm (rAt S.rest))
      have HTM := Lib.hid (cL_next S L k hkm)
      have hcl : (cL S L k).length ≤ 24000000 := Nat.le_trans (cL_len S L k (by omega)) (Nat.le_trans (Nat.mul_le_mul (show k ≤ 24 by omega) hlm) (by omega))
      have HML := Lib.hid (fun j => msV_len S (nAt L k) j)
      have hvl1 : ((L.take k).map (vAt S.vals)).length ≤ 24 := by rw [List.length_map, List.length_take]; omega
      have hrl1 : ((L.take k).map (rAt S.rest)).length ≤ 24 := by rw [List.length_map, List.length_take]; omega
      have hx := HLV.out (nAt L k) (by rw [nAt_get _ _ hkm]; exact List.getElem_mem hkm)
      have hxv : nAt L k < S.vals.length := by have := HVN.out; omega
      have hxr : nAt L k < S.rest.length := by have := HRN.out; omega
      have hxv' : ((nAt L k : Nat) : Int) < (S.vals.length : Int) := by omega
      have hxr' : ((nAt L k : Nat) : Int) < (S.rest.length : Int) := by omega
      have HNV := Lib.hid (nv_at L k hkm)
      obtain ⟨x, hxx⟩ : ∃ x, nAt L k = x := ⟨_, rfl⟩
      have HNX := Lib.hid hxx
      rw [hxx] at HTV HTR HTM HML hx hxv hxr hxv' hxr' HNV
      clear hxx
      generalize (L.take k).map (vAt S.vals) = vs at *
      generalize (L.take k).map (rAt S.rest) = rs at *
      obtain ⟨adL, rfl, hadL, cL0⟩ := (Lies.of_own HOW.out).vs k hkm
      rw [HNV.out] at cL0
      have HSW := Lib.hid (HSL.out.next HQW.out.bl)
      obtain ⟨ad1, rfl, hadb1, e1⟩ := HSW.out.v.vs x hxv
      have s1 := HBW.out.s1
      have v1 := HQW.out.kV
      have HP7 := Lib.hid ((HQW.out.next (below_alloc wr (.cells #[.int .i64 (vAt S.vals x)] 2))).next (Below.refl _ (wr.alloc (.cells #[.int .i64 (vAt S.vals x)] 2))).drew)
      have HOW7 := Lib.hid (own_next (own_next HOW.out (below_alloc wr (.cells #[.int .i64 (vAt S.vals x)] 2))) (Below.refl _ (wr.alloc (.cells #[.int .i64 (vAt S.vals x)] 2))).drew)
      have HL7 := Lib.hid (show Lies (wr.alloc (.cells #[.int .i64 (vAt S.vals x)] 2)).drew (wr.heap.size + 1) 1 (some ⟨wr.heap.size, 0, none⟩) 1 (vc [vAt S.vals x]) from lies_v wr _)
      have HV7 := Lib.hid HP7.out.v
      have v2 : (wr.alloc (.cells #[.int .i64 (vAt S.vals x)] 2)).cell? ⟨bo, 2, none⟩ = some (.slice V vs.length cV) := HP7.out.kV
      clear hadL hadb1
      go_upto_region 6 with fail
      go_cut [9] (fun s9 W => s9 = .pointer (some ⟨bo, 0, none⟩) ∧ ∃ A9 c9, Hid (Qp w4 bo P S.step A9 c9 R cR M cM (vs ++ [vAt S.vals x]) rs (cL S L k) W) ∧ Hid (W.ownsRow b0 3 1 (.slice (some adL) L.length d) L.length (vc (nv L))))
      case first =>
        go_region_law (refine step_own1 rfl _ _ 32 rfl w4.heap.size 2 iv _ 1 8 Try.underlying32 IV.out ZV.out SV.out BV.out rfl (by decide) V vs.length cV (vc vs) (by simp [Act.eval]) HV7.out (wr.heap.size + 1) (some ⟨wr.heap.size, 0, none⟩) 1 1 (vc [vAt S.vals x]) (by simp [Act.eval]) HL7.out (vc_one _) (by unfold maxLen; omega) (by omega) HP7.out.bl.size ?_; intro A9 c9 w9 ho9 hb9 hg9; obtain ⟨hp9, t9, f9⟩ := HP7.out.putV (ys := [vAt S.vals x]) rfl ho9 hb9 hg9; have HP9 := Lib.hid hp9; have HO9 := Lib.hid (HP7.out.keepV (i := 2) (y := .slice A9 (vs.length + 1) c9) HOW7.out (by decide) (by decide) hg9))
        all_goals
          go_wp2_with fail
          go_meet
          exact ⟨rfl, A9, c9, HP9, HO9⟩
      case rest =>
        obtain ⟨rfl, A9, c9, HP9, HO9⟩ := hcut
        clear v1 v2 e1 s1 cL0 HP7 HV7 HL7 HOW7 HQW HOW HBW HSW
        have HSW := Lib.hid (HSL.out.next HP9.out.bl)
        have HBW := Lib.hid (HBS.out.next HP9.out.bl)
        obtain ⟨ad2, rfl, hadb2, e2⟩ := HSW.out.r.rs x hxr
        have s2 := HBW.out.s2
        have v1 := HP9.out.kR
        obtain ⟨adL', eaL, hadL, cL0⟩ := (Lies.of_own HO9.out).vs k hkm
        injection eaL with eaL
        subst eaL
        rw [HNV.out] at cL0
        have HP7 := Lib.hid ((HP9.out.next (below_alloc wc (.cells #[.bool (rAt S.rest x)] 4))).next (Below.refl _ (wc.alloc (.cells #[.bool (rAt S.rest x)] 4))).drew)
        have HOW7 := Lib.hid (own_next (own_next HO9.out (below_alloc wc (.cells #[.bool (rAt S.rest x)] 4))) (Below.refl _ (wc.alloc (.cells #[.bool (rAt S.rest x)] 4))).drew)
        have HL7 := Lib.hid (show Lies (wc.alloc (.cells #[.bool (rAt S.rest x)] 4)).drew (wc.heap.size + 1) 1 (some ⟨wc.heap.size, 0, none⟩) 1 (rc [rAt S.rest x]) from lies_r wc _)
        have HR7 := Lib.hid HP7.out.r
        have v2 : (wc.alloc (.cells #[.bool (rAt S.rest x)] 4)).cell? ⟨bo, 3, none⟩ = some (.slice R rs.length cR) := HP7.out.kR
        clear hadL hadb2
        go_upto_region 7 with fail
        go_cut [9] (fun s9 W => s9 = .pointer (some ⟨bo, 0, none⟩) ∧ ∃ A8 c8, Hid (Qp w4 bo P S.step A9 c9 A8 c8 M cM (vs ++ [vAt S.vals x]) (rs ++ [rAt S.rest x]) (cL S L k) W) ∧ Hid (W.ownsRow b0 3 1 (.slice (some adL) L.length d) L.length (vc (nv L))))
        case first =>
          go_region_law (refine step_own1 rfl _ _ 33 rfl w4.heap.size 4 ir _ 1 1 Try.underlying33 IR.out ZR.out SR.out BR.out rfl (by decide) R rs.length cR (rc rs) (by simp [Act.eval]) HR7.out (wc.heap.size + 1) (some ⟨wc.heap.size, 0, none⟩) 1 1 (rc [rAt S.rest x]) (by simp [Act.eval]) HL7.out (rc_one _) (by unfold maxLen; omega) (by omega) HP7.out.bl.size ?_; intro A8 c8 w8 ho8 hb8 hg8; obtain ⟨hp8, t8, f8⟩ := HP7.out.putR (ys := [rAt S.rest x]) rfl ho8 hb8 hg8; have HP8 := Lib.hid hp8; have HO8 := Lib.hid (HP7.out.keepR (i := 3) (y := .slice A8 (rs.length + 1) c8) HOW7.out (by decide) (by decide) hg8))
          all_goals
            go_wp2_with fail
            go_meet
            exact ⟨rfl, A8, c8, HP8, HO8⟩
        case rest =>
          obtain ⟨rfl, A8, c8, HP8, HO8⟩ := hcut
          clear v1 v2 e2 s2 cL0 HP7 HR7 HL7 HOW7 HP9 HO9 HBW HSW
          go_wp2_with fail
          go_loopw [12] (fun i W => CwRel S L k P w4 bo b0 (some adL) d A9 c9 A8 c8 (vs ++ [vAt S.vals x]) (rs ++ [rAt S.rest x]) i W) (fun i W => S.inn.length - (intOf i).toNat)
          case atStart => exact ⟨0, M, cM, rfl, Nat.zero_le _, by rw [show msV S (nAt L k) 0 = [] from rfl, List.append_nil]; exact HP8, HO8⟩
          case round =>
            obtain ⟨j, Y, cY, rfl, hj, HQJ, HOJ⟩ := hrel
            clear HP8 HO8
            rw [HNX.out] at HQJ
            have HBW := Lib.hid (HBS.out.next HQJ.out.bl)
            have HSW := Lib.hid (HSL.out.next HQJ.out.bl)
            have s3 := HBW.out.s3
            by_cases hjm : j < S.inn.length
            · have hjN : (j : Int) < (S.inn.length : Int) := by omega
              obtain ⟨ad3, rfl, hadb3, e3, e4⟩ := HSW.out.m.ms j hjm
              obtain ⟨adL', eaL, hadL, cL0⟩ := (Lies.of_own HOJ.out).vs k hkm
              injection eaL with eaL
              subst eaL
              rw [HNV.out] at cL0
              have hml := HML.out j
              clear hadL hadb3
              by_cases he : (mAt S.inn j).1 = (x : Int)
              · have HY := Lib.hid (msV_yes hjm he)
                have he' : ((mAt S.inn j).1 == (x : Int)) = true := by simpa using he
                clear he
                go_upto_region 11 with fail
                go_quiet (fail)
                obtain ⟨wq, hwq⟩ : ∃ wq, wq = wr.drewN nq := ⟨_, rfl⟩
                have HQD := Lib.hid (show Qp w4 bo P S.step A9 c9 A8 c8 Y cY (vs ++ [vAt S.vals x]) (rs ++ [rAt S.rest x]) (cL S L k ++ msV S x j) wq by rw [hwq]; exact HQJ.out.next (below_to_drewN (Below.refl _ wr) nq))
                have HOD := Lib.hid (show wq.ownsRow b0 3 1 (.slice (some adL) L.length d) L.length (vc (nv L)) by rw [hwq]; exact own_next HOJ.out (below_to_drewN (Below.refl _ wr) nq))
                rw [← hwq]
                clear hwq s3 e3 e4 cL0 HBW HSW HQJ HOJ
                have HBW := Lib.hid (HBS.out.next HQD.out.bl)
                have HSW := Lib.hid (HSL.out.next HQD.out.bl)
                have s3 := HBW.out.s3
                obtain ⟨ad3', ea3, hadb3, e3, e4⟩ := HSW.out.m.ms j hjm
                injection ea3 with ea3
                subst ea3
                clear hadb3
                generalize hms : cL S L k ++ msV S x j = ms at *
                have hmsl : ms.length ≤ 25000000 := by rw [← hms, List.length_append]; omega
                have HMS := Lib.hid hms
                clear hms
                have v1 := HQD.out.kM
                have HP7 := Lib.hid ((HQD.out.next (below_alloc wq (.cells #[.int .i64 (mAt S.inn j).1, .int .i64 (mAt S.inn j).2] 61))).next (Below.refl _ (wq.alloc (.cells #[.int .i64 (mAt S.inn j).1, .int .i64 (mAt S.inn j).2] 61))).drew)
                have HOW7 := Lib.hid (own_next (own_next HOD.out (below_alloc wq (.cells #[.int .i64 (mAt S.inn j).1, .int .i64 (mAt S.inn j).2] 61))) (Below.refl _ (wq.alloc (.cells #[.int .i64 (mAt S.inn j).1, .int .i64 (mAt S.inn j).2] 61))).drew)
                have HL7 := Lib.hid (show Lies (wq.alloc (.cells #[.int .i64 (mAt S.inn j).1, .int .i64 (mAt S.inn j).2] 61)).drew (wq.heap.size + 1) 2 (some ⟨wq.heap.size, 0, none⟩) 1 (mc [mAt S.inn j]) from lies_cells wq (mc [mAt S.inn j]) 61 1 2 rfl)
                have HM7 := Lib.hid HP7.out.m
                have v2 : (wq.alloc (.cells #[.int .i64 (mAt S.inn j).1, .int .i64 (mAt S.inn j).2] 61)).cell? ⟨bo, 4, none⟩ = some (.slice Y ms.length cY) := HP7.out.kM
                go_upto_region 12 with fail
                go_region_law (refine step_own1 rfl _ _ 34 rfl w4.heap.size 61 im _ 2 16 Try.underlying34 IM.out ZM.out SM.out BM.out rfl (by decide) Y ms.length cY (mc ms) (by simp [Act.eval]) HM7.out (wq.heap.size + 1) (some ⟨wq.heap.size, 0, none⟩) 1 1 (mc [mAt S.inn j]) (by simp [Act.eval]) HL7.out (mc_one _) (by unfold maxLen; omega) (by omega) HP7.out.bl.size ?_; intro A7 c7 w7 ho7 hb7 hg7; obtain ⟨hp7, t7, f7⟩ := HP7.out.putM (ys := [mAt S.inn j]) rfl ho7 hb7 hg7; have HP8 := Lib.hid hp7; have HO8 := Lib.hid (HP7.out.keepM (i := 4) (y := .slice A7 (ms.length + 1) c7) HOW7.out (by decide) (by decide) hg7))
                all_goals
                  clear v1 v2 e3 e4 s3 HP7 HM7 HL7 HOW7 HQD HOD HBW HSW hp7 t7 f7 ho7 hb7 hg7
                  go_wp2_with fail
                  go_roundw
                  case rel => exact ⟨j + 1, A7, c7, by go_num, by omega, by rw [HNX.out, HY.out, ← List.append_assoc, HMS.out]; exact HP8, HO8⟩
                  case measure => simp [intOf]; omega
              · have HY := Lib.hid (msV_no hjm he)
                have he' : ((mAt S.inn j).1 == (x : Int)) = false := by simpa using he
                clear he
                go_upto_region 11 with fail
                go_quiet (fail)
                have HQD := Lib.hid (HQJ.out.next (below_to_drewN (Below.refl _ wr) nq))
                have HOD := Lib.hid (own_next HOJ.out (below_to_drewN (Below.refl _ wr) nq))
                clear s3 e3 e4 cL0 HBW HSW HQJ HOJ
                go_wp2_with fail
                go_roundw
                case rel => exact ⟨j + 1, Y, cY, by go_num, by omega, by rw [HNX.out, HY.out]; exact HQD, HOD⟩
                case measure => simp [intOf]; omega
            · have hj' : j = S.inn.length := by omega
              subst hj'
              go_wp2_with fail
              go_roundw
              case rel => exact ⟨k + 1, A9, c9, A8, c8, Y, cY, by go_num, by omega, by rw [HTV.out, HTR.out, HTM.out]; exact HQJ, HOJ⟩
              case measure => simp [intOf]; omega
    · have hk' : k = L.length := by omega
      subst hk'
      have b0 := HQW.out.c0
      have b1 := HQW.out.c1
      have b2 := HQW.out.kV
      have b3 := HQW.out.kR
      have b4 := HQW.out.kM
      have HLT := Lib.hid (show w.heap.size + 1 + 1 + 1 < w4.heap.size from lt_of_block HRB.out)
      have hza := (HQW.out.bl.block _ HLT.out).trans HRB.out
      have r0 := cell_of_row wr _ 0 _ 36 (0, 0) hza
      have f0 := unfrozen hza 0
      have r1 := cell_of_row wr _ 1 _ 36 (0, 0) hza
      have f1 := unfrozen hza 1
      have r2 := cell_of_row wr _ 2 _ 36 (0, 0) hza
      have f2 := unfrozen hza 2
      have r3 := cell_of_row wr _ 3 _ 36 (0, 0) hza
      have f3 := unfrozen hza 3
      have r4 := cell_of_row wr _ 4 _ 36 (0, 0) hza
      have f4 := unfrozen hza 4
      have hne : ¬ w.heap.size + 1 + 1 + 1 = bo := by rw [HBO.out]; have := HLT.out; omega
      have HBL := Lib.hid HBW.out.x.bl
      have HVR := Lib.hid HQW.out.v
      have HRR := Lib.hid HQW.out.r
      have HMR := Lib.hid HQW.out.m
      clear hza HQW HBW HOW
      have HCU := Lib.hid (show cutL S L = ⟨S.step, L.map (vAt S.vals), L.map (rAt S.rest), cL S L L.length⟩ from rfl)
      rw [List.take_length] at b2 b3 HVR HRR
      generalize L.map (vAt S.vals) = vs at *
      generalize L.map (rAt S.rest) = rs at *
      generalize cL S L L.length = ms at *
      go_wp2_with fail
      refine bodyPost_ret (v := .agg #[.int .i64 P, .int .i64 S.step, .slice V vs.length cV, .slice R rs.length cR, .slice M ms.length cM]) (by simp [results, Try.results35, go_sem, r0, r1, r2, r3, r4]) rfl ?_
      have st := fun {e z m : Nat} {u : Value} {xs : List Value} (h : wr.ownsRow w4.heap.size e z u m xs) => ownsRow_setCell_below (ownsRow_setCell_below (ownsRow_setCell_below (ownsRow_setCell_below (ownsRow_setCell_below h (a := ⟨w.heap.size + 1 + 1 + 1, 0, none⟩) HLT.out (.int .i64 P)) (a := ⟨w.heap.size + 1 + 1 + 1, 1, none⟩) HLT.out (.int .i64 S.step)) (a := ⟨w.heap.size + 1 + 1 + 1, 2, none⟩) HLT.out (.slice V vs.length cV)) (a := ⟨w.heap.size + 1 + 1 + 1, 3, none⟩) HLT.out (.slice R rs.length cR)) (a := ⟨w.heap.size + 1 + 1 + 1, 4, none⟩) HLT.out (.slice M ms.length cM)
      rw [HCU.out]
      rw [HCU.out] at HCO
      refine ⟨((((HBL.out.setCell (by simp; omega) _).setCell (by simp; omega) _).setCell (by simp; omega) _).setCell (by simp; omega) _).setCell (by simp; omega) _, V, cV, R, cR, M, cM, rfl, ?_, (Fr.own HVR.out).low HBS.out.x.bl.size, (Fr.own HRR.out).low HBS.out.x.bl.size, (Fr.own HMR.out).low HBS.out.x.bl.size⟩
      exact ⟨Lies.of_own (st HVR.out), Lies.of_own (st HRR.out), Lies.of_own (st HMR.out), own_cap HVR.out, own_cap HRR.out, own_cap HMR.out, HCO.out⟩
end Go.Proofs.Ytgfcgeiifinmmaa
