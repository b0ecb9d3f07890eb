import Derived.Test.YtpgdddjjjfkneaaGreatDoorPtA
import Derived.BigQuiet
import Derived.Deep.RegionHeld3
/-
  Words for partitions in memory; the contracts of rising, part.Right and of the document's own Right. No condition but that the numbers are of 148 bits and not too many.
-/
namespace Go.Proofs.YtpgdddjjjfkneaaGreatDoor
open Go.ChangeShapes Go.WideShapes Go.ChangeAt Go.RowKit
set_option linter.unusedVariables false

/-- A partition, of its P and the rest. -/
def mkP (P : Int) (S : St) : Pt := ⟨P, S.step, S.vals, S.rest, S.inn⟩
/-- Messages to vertices of home P alone, rising. -/
def risP (N q P : Int) : Int → List Ms → Bool
  | _, [] => true
  | a, m :: r => decide (a < m.1) && (decide (m.1 < N) && (decide (homeI q m.1 = P) && risP N q P m.1 r))
theorem toHome_iff {q P : Int} (h1 : 1 ≤ q) (h6 : q ≤ 6) (h0 : 0 ≤ P) (m : Ms) : decide (homeI q m.1 = P) = toHome q.toNat P.toNat m := by
  rw [Bool.eq_iff_iff]
  unfold toHome
  simp only [decide_eq_true_eq, Bool.and_eq_true, beq_iff_eq]
  by_cases hm : m.1 < 0
  · rw [homeI_no (.inl hm)]; omega
  · rw [homeI_yes hm (by omega) (by omega)]
    have := mod_iff h1 h0 m.1.toNat
    rw [show ((m.1.toNat : Nat) : Int) = m.1 by omega] at this
    rw [this]
    omega
theorem risP_eq {N q P : Int} (h1 : 1 ≤ q) (h6 : q ≤ 6) (h0 : 0 ≤ P) (l : List Ms) : ∀ a, risP N q P a l = (risB N a l && l.all (toHome q.toNat P.toNat)) := by
  induction l with
  | nil => intro a; rfl
  | cons m r ih =>
    intro a
    show (decide (a < m.1) && (decide (m.1 < N) && (decide (homeI q m.1 = P) && risP N q P m.1 r))) = ((decide (a < m.1) && (decide (m.1 < N) && risB N m.1 r)) && (toHome q.toNat P.toNat m && r.all (toHome q.toNat P.toNat)))
    rw [ih, toHome_iff h1 h6 h0]
    cases decide (a < m.1) <;> cases decide (m.1 < N) <;> cases toHome q.toNat P.toNat m <;> cases risB N m.1 r <;> simp
theorem risP_step {N q P a : Int} {l : List Ms} {k : Nat} (h : k < l.length) : risP N q P a (l.drop k) = (decide (a < (mAt l k).1) && (decide ((mAt l k).1 < N) && (decide (homeI q (mAt l k).1 = P) && risP N q P (mAt l k).1 (l.drop (k + 1))))) := by
  rw [drop_at l k h]; rfl
theorem rightP_j {N : Int} {es : List Ed} {p s l q P : Int} {S : St} (h : ¬ jchk N es p s l q = 0) : rightP N es p s l q (mkP P S) = false := by unfold rightP; rw [decide_eq_false h]; rfl
theorem rightP_p {N : Int} {es : List Ed} {p s l q P : Int} {S : St} (h : P < 0 ∨ q ≤ P) : rightP N es p s l q (mkP P S) = false := by
  unfold rightP mkP; dsimp only; rw [decide_eq_false (show ¬ (0 ≤ P ∧ P < q) by omega)]; simp
theorem rightP_s {N : Int} {es : List Ed} {p s l q P : Int} {S : St} (h : S.step < 0 ∨ 40 < S.step) : rightP N es p s l q (mkP P S) = false := by
  unfold rightP mkP; dsimp only; rw [decide_eq_false (show ¬ (0 ≤ S.step ∧ S.step ≤ 40) by omega)]; simp
theorem rightP_v {N : Int} {es : List Ed} {p s l q P : Int} {S : St} (hq : 1 ≤ q) (h0 : 0 ≤ P) (h : ¬ (S.vals.length : Int) = ((vertsI N.toNat q P).length : Int)) : rightP N es p s l q (mkP P S) = false := by
  rw [vertsI_eq hq h0] at h
  unfold rightP mkP; dsimp only; rw [decide_eq_false (show ¬ (S.vals.length = (verts N.toNat q.toNat P.toNat).length) by omega)]; simp
theorem rightP_r {N : Int} {es : List Ed} {p s l q P : Int} {S : St} (hq : 1 ≤ q) (h0 : 0 ≤ P) (h : ¬ (S.rest.length : Int) = ((vertsI N.toNat q P).length : Int)) : rightP N es p s l q (mkP P S) = false := by
  rw [vertsI_eq hq h0] at h
  unfold rightP mkP; dsimp only; rw [decide_eq_false (show ¬ (S.rest.length = (verts N.toNat q.toNat P.toNat).length) by omega)]; simp
theorem rightP_m {N : Int} {es : List Ed} {p s l q P : Int} {S : St} (hj : jchk N es p s l q = 0) (h1 : ¬ P < 0) (h2 : ¬ q ≤ P) (h3 : ¬ S.step < 0) (h4 : ¬ 40 < S.step) (h5 : (S.vals.length : Int) = ((vertsI N.toNat q P).length : Int)) (h6 : (S.rest.length : Int) = ((vertsI N.toNat q P).length : Int)) :
    rightP N es p s l q (mkP P S) = risP N q P (-1) S.inn := by
  have hb := badJ_not (jchk_zero hj).2
  rw [vertsI_eq (by omega) (by omega)] at h5 h6
  rw [risP_eq (by omega) (by omega) (by omega)]
  unfold rightP mkP; dsimp only
  rw [decide_eq_true hj, decide_eq_true (show 0 ≤ P ∧ P < q by omega), decide_eq_true (show 0 ≤ S.step ∧ S.step ≤ 40 by omega), decide_eq_true (show S.vals.length = (verts N.toNat q.toNat P.toNat).length by omega), decide_eq_true (show S.rest.length = (verts N.toNat q.toNat P.toNat).length by omega)]
  simp
/-- The graph, the job and the partition stand boxed in the first three blocks behind w; all that lay in w lies there still. -/
structure Bp (w : World) (N : Int) (A : Option Addr) (n c : Nat) (p s l q P : Int) (S : St) (A1 : Option Addr) (c1 : Nat) (A2 : Option Addr) (c2 : Nat) (A3 : Option Addr) (c3 : Nat) (W : World) : Prop where
  x : Bx w N A n c p s l q W
  z : w.heap.size + 3 ≤ W.heap.size
  p0 : W.cell? ⟨w.heap.size + 1 + 1, 0, none⟩ = some (.int .i64 P)
  s0 : W.cell? ⟨w.heap.size + 1 + 1, 1, none⟩ = some (.int .i64 S.step)
  s1 : W.cell? ⟨w.heap.size + 1 + 1, 2, none⟩ = some (.slice A1 S.vals.length c1)
  s2 : W.cell? ⟨w.heap.size + 1 + 1, 3, none⟩ = some (.slice A2 S.rest.length c2)
  s3 : W.cell? ⟨w.heap.size + 1 + 1, 4, none⟩ = some (.slice A3 S.inn.length c3)
section
variable {w : World} {N : Int} {A : Option Addr} {n c : Nat} {p s l q P : Int} {S : St} {A1 : Option Addr} {c1 : Nat} {A2 : Option Addr} {c2 : Nat} {A3 : Option Addr} {c3 : Nat} {W W' : World}
theorem Bp.next (h : Bp w N A n c p s l q P S A1 c1 A2 c2 A3 c3 W) (hb : Below W.heap.size W W') : Bp w N A n c p s l q P S A1 c1 A2 c2 A3 c3 W' :=
  have k : ∀ o, W'.cell? ⟨w.heap.size + 1 + 1, o, none⟩ = W.cell? ⟨w.heap.size + 1 + 1, o, none⟩ := fun o => hb.cell (p := ⟨w.heap.size + 1 + 1, o, none⟩) (Nat.lt_of_lt_of_le (Nat.lt_succ_self _) h.z)
  ⟨h.x.next hb, Nat.le_trans h.z hb.size, (k _).trans h.p0, (k _).trans h.s0, (k _).trans h.s1, (k _).trans h.s2, (k _).trans h.s3⟩
end
theorem Bp.init (w : World) (N : Int) (A : Option Addr) (n c : Nat) (p s l q P : Int) (S : St) (A1 : Option Addr) (c1 : Nat) (A2 : Option Addr) (c2 : Nat) (A3 : Option Addr) (c3 : Nat) :
    Bp w N A n c p s l q P S A1 c1 A2 c2 A3 c3 (((w.alloc (.cells #[.int .i64 N, .slice A n c] 27)).alloc (.cells #[.int .i64 p, .int .i64 s, .int .i64 l, .int .i64 q] 23)).alloc (.cells #[.int .i64 P, .int .i64 S.step, .slice A1 S.vals.length c1, .slice A2 S.rest.length c2, .slice A3 S.inn.length c3] 64)) :=
  ⟨(Bx.init w N A n c p s l q).alloc _, by simp, by simp [go_sem], by simp [go_sem], by simp [go_sem], by simp [go_sem], by simp [go_sem]⟩
def RpRel7 (N q P : Int) (l : List Ms) (w3 : World) (last i : Value) (W : World) : Prop := ∃ (k : Nat) (a : Int), i = .int .i64 k ∧ last = .int .i64 a ∧ k ≤ l.length ∧ risP N q P (-1) l = risP N q P a (l.drop k) ∧ Below w3.heap.size w3 W
set_option maxHeartbeats 1000000 in
theorem prising_any (N : Int) (A : Option Addr) (n c : Nat) (p s l q P : Int) (S : St) (A1 : Option Addr) (c1 : Nat) (A2 : Option Addr) (c2 : Nat) (A3 : Option Addr) (c3 : Nat) (w : World) (hS : StL w w.heap.size S A1 c1 A2 c2 A3 c3) :
    Calls Tryz.prog 81 #[.agg #[.int .i64 N, .slice A n c], .agg #[.int .i64 p, .int .i64 s, .int .i64 l, .int .i64 q], .agg #[.int .i64 P, .int .i64 S.step, .slice A1 S.vals.length c1, .slice A2 S.rest.length c2, .slice A3 S.inn.length c3]] w fun e w' =>
      e = .returned (.bool (risP N q P (-1) S.inn)) ∧ Below w.heap.size w w' := by
  obtain ⟨w3, hw3⟩ : ∃ w3, w3 = ((w.alloc (.cells #[.int .i64 N, .slice A n c] 27)).alloc (.cells #[.int .i64 p, .int .i64 s, .int .i64 l, .int .i64 q] 23)).alloc (.cells #[.int .i64 P, .int .i64 S.step, .slice A1 S.vals.length c1, .slice A2 S.rest.length c2, .slice A3 S.inn.length c3] 64) := ⟨_, rfl⟩
  have HBP := Lib.hid (show Bp w N A n c p s l q P S A1 c1 A2 c2 A3 c3 w3 by rw [hw3]; exact Bp.init w N A n c p s l q P S A1 c1 A2 c2 A3 c3)
  have HM := Lib.hid (hS.m.next HBP.out.x.bl)
  have hlm := hS.ok.lm
  clear hS
  go_enter Tryz.func81, Tryz.ntmps81
  go_upto_region 2 with fail
  rw [← hw3]
  clear hw3
  have t3 := HBP.out.s3
  go_wp2_with fail
  clear t3
  go_loopw [7, 13] (fun a i W => RpRel7 N q P S.inn w3 a i W) (fun a i W => S.inn.length - (intOf i).toNat)
  case atStart => exact ⟨0, -1, rfl, rfl, Nat.zero_le _, rfl, Below.refl _ _⟩
  case round =>
    obtain ⟨k, a, rfl, rfl, hk, hpre, hb⟩ := hrel
    have HP := Lib.hid hpre
    have HBW := Lib.hid hb
    clear hpre
    by_cases hlt : k < S.inn.length
    · obtain ⟨ad, rfl, hadb, e0, e1⟩ := (HM.out.below hb).ms k hlt
      have hkl : (k : Int) < (S.inn.length : Int) := by omega
      have HR := Lib.hid (risP_step (N := N) (q := q) (P := P) (a := a) hlt)
      have HB1 := Lib.hid (hb.alloc hb.size (.cells #[.int .i64 (mAt S.inn k).1, .int .i64 (mAt S.inn k).2] 118))
      have HBL := Lib.hid (HBP.out.next HB1.out).x.bl
      have HX := Lib.hid (HBP.out.next HB1.out)
      have d0 : (wr.alloc (.cells #[.int .i64 (mAt S.inn k).1, .int .i64 (mAt S.inn k).2] 118)).cell? ⟨wr.heap.size, 0, none⟩ = some (.int .i64 (mAt S.inn k).1) := by simp [go_sem]
      have d1 : (wr.alloc (.cells #[.int .i64 (mAt S.inn k).1, .int .i64 (mAt S.inn k).2] 118)).cell? ⟨wr.heap.size, 1, none⟩ = some (.int .i64 (mAt S.inn k).2) := by simp [go_sem]
      clear hb
      go_upto_region 5 with fail
      clear e0 e1
      have HSZ := Lib.hid (show wr.heap.size < (wr.alloc (.cells #[.int .i64 (mAt S.inn k).1, .int .i64 (mAt S.inn k).2] 118)).heap.size by simp)
      generalize wr.alloc (.cells #[.int .i64 (mAt S.inn k).1, .int .i64 (mAt S.inn k).2] 118) = w4 at HB1 HBL HX d0 d1 HSZ ⊢
      by_cases h1 : (mAt S.inn k).1 ≤ a
      · have HF := Lib.hid (show risP N q P (-1) S.inn = false by rw [HP.out, HR.out, decide_eq_false (show ¬ a < (mAt S.inn k).1 by omega)]; rfl)
        go_quiet (fail)
        go_wp2_with fail
        go_ret
        exact ⟨ret_bool HF.out.symm, below_to_drewN HBL.out _⟩
      · have g0 := HX.out.x.g0
        by_cases h2 : N ≤ (mAt S.inn k).1
        · have HF := Lib.hid (show risP N q P (-1) S.inn = false by rw [HP.out, HR.out, decide_eq_false (show ¬ (mAt S.inn k).1 < N by omega)]; simp)
          go_quiet (fail)
          go_wp2_with fail
          go_ret
          exact ⟨ret_bool HF.out.symm, below_to_drewN HBL.out _⟩
        · have CH := Lib.hid (fun (W : World) (hb : Below w4.heap.size w4 W) => home_any p s l q (mAt S.inn k).1 W)
          have HF := Lib.hid (show ∀ W : World, Below w4.heap.size w4 W → W.cell? ⟨w.heap.size, 0, none⟩ = some (.int .i64 N) ∧ W.cell? ⟨w.heap.size + 1, 0, none⟩ = some (.int .i64 p) ∧ W.cell? ⟨w.heap.size + 1, 1, none⟩ = some (.int .i64 s) ∧ W.cell? ⟨w.heap.size + 1, 2, none⟩ = some (.int .i64 l) ∧ W.cell? ⟨w.heap.size + 1, 3, none⟩ = some (.int .i64 q) ∧ W.cell? ⟨w.heap.size + 1 + 1, 0, none⟩ = some (.int .i64 P) ∧ W.cell? ⟨wr.heap.size, 0, none⟩ = some (.int .i64 (mAt S.inn k).1) ∧ W.cell? ⟨wr.heap.size, 1, none⟩ = some (.int .i64 (mAt S.inn k).2) ∧ Below w4.heap.size w4 W by
            intro W hb
            have h := HX.out.next hb
            exact ⟨h.x.g0, h.x.j0, h.x.j1, h.x.j2, h.x.j3, h.p0, (hb.cell (p := ⟨wr.heap.size, 0, none⟩) HSZ.out).trans d0, (hb.cell (p := ⟨wr.heap.size, 1, none⟩) HSZ.out).trans d1, hb⟩)
          have q0 := HF.out w4.drew (Below.refl _ _).drew
          have HU := Lib.hid (fun (W : World) (hb : Below w4.heap.size w4 W) => HX.out.next hb)
          have HT := Lib.hid (show ∀ b, decide (homeI q (mAt S.inn k).1 = P) = b → risP N q P (-1) S.inn = (b && risP N q P (mAt S.inn k).1 (S.inn.drop (k + 1))) by
            intro b hb
            rw [HP.out, HR.out, decide_eq_true (show a < (mAt S.inn k).1 by omega), decide_eq_true (show (mAt S.inn k).1 < N by omega), hb]; rfl)
          generalize homeI q (mAt S.inn k).1 = hm at CH HT
          clear d0 d1 g0
          go_cut [36, 9] (fun s36 s9 W => s36 = .bool (hm != P) ∧ s9 = .pointer (some ⟨wr.heap.size, 0, none⟩) ∧ Below w4.heap.size w4 W)
          case first =>
            go_region_held3 (fun w' => w'.cell? ⟨w.heap.size, 0, none⟩ = some (.int .i64 N) ∧ w'.cell? ⟨w.heap.size + 1, 0, none⟩ = some (.int .i64 p) ∧ w'.cell? ⟨w.heap.size + 1, 1, none⟩ = some (.int .i64 s) ∧ w'.cell? ⟨w.heap.size + 1, 2, none⟩ = some (.int .i64 l) ∧ w'.cell? ⟨w.heap.size + 1, 3, none⟩ = some (.int .i64 q) ∧ w'.cell? ⟨w.heap.size + 1 + 1, 0, none⟩ = some (.int .i64 P) ∧ w'.cell? ⟨wr.heap.size, 0, none⟩ = some (.int .i64 (mAt S.inn k).1) ∧ w'.cell? ⟨wr.heap.size, 1, none⟩ = some (.int .i64 (mAt S.inn k).2) ∧ Below w4.heap.size w4 w')
              (first | exact q1 | exact q0)
              (first | ((go_at_call 79); (with_reducible refine (CH.out _ (by first | exact q1.2.2.2.2.2.2.2.2 | exact q0.2.2.2.2.2.2.2.2)).mono ?_); rintro e w5 ⟨rfl, hb2⟩; have q1 := HF.out w5 (((by first | exact q1.2.2.2.2.2.2.2.2 | exact q0.2.2.2.2.2.2.2.2) : Below w4.heap.size w4 _).trans (hb2.mono (((by first | exact q1.2.2.2.2.2.2.2.2 | exact q0.2.2.2.2.2.2.2.2) : Below w4.heap.size w4 _)).size))))
            go_wp2_with fail
            go_meet
            exact ⟨rfl, rfl, q1.2.2.2.2.2.2.2.2⟩
          case rest =>
            obtain ⟨rfl, rfl, hb⟩ := hcut
            have HB5 := Lib.hid hb
            have HQ := Lib.hid (HF.out _ hb)
            have d0 := (HF.out _ hb).2.2.2.2.2.2.1
            clear hb q0
            by_cases he : hm = P
            · have he' : (hm != P) = false := by simpa using he
              have HE := Lib.hid (HT.out true (by simpa using he))
              go_wp2_with fail
              go_roundw
              case rel => exact ⟨k + 1, _, by go_num, rfl, by omega, by rw [HE.out]; rfl, HB1.out.trans (HB5.out.mono HB1.out.size)⟩
              case measure => simp [intOf]; omega
            · have he' : (hm != P) = true := by simpa using he
              have HE := Lib.hid (HT.out false (by simpa using he))
              go_wp2_with fail
              go_ret
              exact ⟨ret_bool HE.out.symm, (HU.out _ HB5.out).x.bl⟩
    · have hk' : k = S.inn.length := by omega
      subst hk'
      have HF := Lib.hid (show risP N q P (-1) S.inn = true by rw [HP.out, List.drop_length]; rfl)
      have HBL := Lib.hid (HBP.out.next hb).x.bl
      go_wp2_with fail
      go_ret
      exact ⟨ret_bool HF.out.symm, HBL.out⟩
set_option maxHeartbeats 1000000 in
theorem pright_any (N : Int) (A : Option Addr) (n c : Nat) (es : List Ed) (p s l q P : Int) (S : St) (A1 : Option Addr) (c1 : Nat) (A2 : Option Addr) (c2 : Nat) (A3 : Option Addr) (c3 : Nat) (w : World)
    (hA : Lies w w.heap.size 3 A n (ec es)) (hnc : n ≤ c) (hn : n ≤ maxLen) (hS : StL w w.heap.size S A1 c1 A2 c2 A3 c3) :
    Calls Tryz.prog 40 #[.agg #[.int .i64 N, .slice A n c], .agg #[.int .i64 p, .int .i64 s, .int .i64 l, .int .i64 q], .agg #[.int .i64 P, .int .i64 S.step, .slice A1 S.vals.length c1, .slice A2 S.rest.length c2, .slice A3 S.inn.length c3]] w fun e w' =>
      e = .returned (.bool (rightP N es p s l q (mkP P S))) ∧ Below w.heap.size w w' := by
  have hbs := Bp.init w N A n c p s l q P S A1 c1 A2 c2 A3 c3
  have hA1 := hA.next hbs.x.bl
  have HS := Lib.hid (hS.next hbs.x.bl)
  have HBS := Lib.hid hbs
  clear hbs hS
  go_enter Tryz.func40, Tryz.ntmps40
  go_wp2_with fail
  refine (jcheck_any N A n c es p s l q _ hA1 hnc hn).mono ?_
  rintro e w1 ⟨rfl, hb1⟩
  have hs1 := HBS.out.next hb1
  have HB := Lib.hid hs1.x.bl
  have HA1 := Lib.hid (hA1.next hb1)
  have HS1 := Lib.hid (HS.out.next hb1)
  have HX1 := Lib.hid hs1
  by_cases hj : jchk N es p s l q = 0
  · have HJ := Lib.hid hj
    have HQ := Lib.hid (badJ_not (jchk_zero hj).2)
    rw [hj]
    obtain ⟨⟨z1, g0, g1, j0, j1, j2, j3, bl1⟩, z2, p0, s0, s1, s2, s3⟩ := hs1
    clear z1 bl1 z2 hb1 hA1 HBS HS hj
    by_cases h1 : P < 0
    · have HF := Lib.hid (rightP_p (N := N) (es := es) (p := p) (s := s) (l := l) (q := q) (P := P) (S := S) (.inl h1))
      go_wp2_with fail
      go_ret
      exact ⟨ret_bool HF.out.symm, HB.out⟩
    · by_cases h2 : q ≤ P
      · have HF := Lib.hid (rightP_p (N := N) (es := es) (p := p) (s := s) (l := l) (q := q) (P := P) (S := S) (.inr h2))
        go_wp2_with fail
        go_ret
        exact ⟨ret_bool HF.out.symm, HB.out⟩
      · by_cases h3 : S.step < 0
        · have HF := Lib.hid (rightP_s (N := N) (es := es) (p := p) (s := s) (l := l) (q := q) (P := P) (S := S) (.inl h3))
          go_wp2_with fail
          go_ret
          exact ⟨ret_bool HF.out.symm, HB.out⟩
        · by_cases h4 : 40 < S.step
          · have HF := Lib.hid (rightP_s (N := N) (es := es) (p := p) (s := s) (l := l) (q := q) (P := P) (S := S) (.inr h4))
            go_wp2_with fail
            go_ret
            exact ⟨ret_bool HF.out.symm, HB.out⟩
          · have HC := Lib.hid (show cntI N es p s l q P = ((vertsI N.toNat q P).length : Int) by unfold cntI; rw [if_pos HJ.out])
            go_wp2_with fail
            refine (count_any N A n c es p s l q P _ HA1.out hnc hn).mono ?_
            rintro e w2 ⟨rfl, hb2⟩
            rw [HC.out]
            have hs2 := HX1.out.next hb2
            have HB2 := Lib.hid hs2.x.bl
            have HS2 := Lib.hid (HS1.out.next hb2)
            clear g0 g1 j0 j1 j2 j3 p0 s0 s1 s2 s3
            obtain ⟨⟨z1, g0, g1, j0, j1, j2, j3, bl1⟩, z2, p0, s0, s1, s2, s3⟩ := hs2
            clear z1 z2 bl1 hb2 HX1 HS1 HA1 HB
            by_cases h5 : (S.vals.length : Int) = ((vertsI N.toNat q P).length : Int)
            · by_cases h6 : (S.rest.length : Int) = ((vertsI N.toNat q P).length : Int)
              · have HF := Lib.hid (rightP_m HJ.out (by omega) (by omega) (by omega) (by omega) h5 h6)
                have h5' : ((S.vals.length : Int) == ((vertsI N.toNat q P).length : Int)) = true := by simpa using h5
                have h6' : ((S.rest.length : Int) == ((vertsI N.toNat q P).length : Int)) = true := by simpa using h6
                clear h5 h6
                go_wp2_with fail
                refine (prising_any N A n c p s l q P S A1 c1 A2 c2 A3 c3 _ HS2.out).mono ?_
                rintro e w3 ⟨rfl, hb3⟩
                have HB3 := Lib.hid (HB2.out.trans (hb3.mono HB2.out.size))
                clear hb3
                go_wp2_with fail
                go_ret
                exact ⟨ret_bool (by rw [HF.out]), HB3.out⟩
              · have h5' : ((S.vals.length : Int) == ((vertsI N.toNat q P).length : Int)) = true := by simpa using h5
                have h6' : ((S.rest.length : Int) == ((vertsI N.toNat q P).length : Int)) = false := by simpa using h6
                have HF := Lib.hid (rightP_r (es := es) (p := p) (s := s) (l := l) (by omega) (by omega) h6)
                clear h5 h6
                go_wp2_with fail
                go_ret
                exact ⟨ret_bool HF.out.symm, HB2.out⟩
            · have h5' : ((S.vals.length : Int) == ((vertsI N.toNat q P).length : Int)) = false := by simpa using h5
              have HF := Lib.hid (rightP_v (es := es) (p := p) (s := s) (l := l) (by omega) (by omega) h5)
              clear h5
              go_wp2_with fail
              go_ret
              exact ⟨ret_bool HF.out.symm, HB2.out⟩
  · have HF := Lib.hid (rightP_j (P := P) (S := S) hj)
    have h1 : (jchk N es p s l q != 0) = true := by simpa using hj
    clear hb1 hA1 HBS hs1 hj
    go_wp2_with fail
    go_ret
    exact ⟨ret_bool HF.out.symm, HB.out⟩
end Go.Proofs.YtpgdddjjjfkneaaGreatDoor


