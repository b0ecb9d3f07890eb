import Derived.Test.YtgfcgeiifinmmaaPe
import Derived.OneCell
import Derived.Deep.RegionHeld3
import Derived.Test.YtgfcgeiifinmmaaPc
import Derived.Deep.DeepMust
import Derived.Lib.BufferMore
/-
  Words for states in memory; the contracts of slices.Index and Contains at a list of bools, of Quiet and the document's own, of rising. No condition but that the numbers are of 64 bits and not too many.
-/
namespace Go.Proofs.Ytgfcgeiifinmmaa
open Go.RowKit
set_option linter.unusedVariables false

/-- Values, rests as cells. -/
def vc (l : List Int) : List Value := l.map fun x => Value.int .i64 x
def rc (l : List Bool) : List Value := l.map Value.bool
theorem vc_len (l : List Int) : (vc l).length = l.length := by unfold vc; simp
theorem rc_len (l : List Bool) : (rc l).length = l.length := by unfold rc; simp
theorem vc_app (a b : List Int) : vc (a ++ b) = vc a ++ vc b := by unfold vc; simp
theorem rc_app (a b : List Bool) : rc (a ++ b) = rc a ++ rc b := by unfold rc; simp
theorem vc_set (l : List Int) (k : Nat) (x : Int) : (vc l).set k (.int .i64 x) = vc (l.set k x) := by unfold vc; rw [List.map_set]
theorem rc_set (l : List Bool) (k : Nat) (x : Bool) : (rc l).set k (.bool x) = rc (l.set k x) := by unfold rc; rw [List.map_set]
theorem vc_at (l : List Int) (k : Nat) (h : k < l.length) : (vc l)[k]? = some (.int .i64 (vAt l k)) := by unfold vc; rw [vAt_get l k h]; simp [List.getElem?_eq_getElem h]
theorem rc_at (l : List Bool) (k : Nat) (h : k < l.length) : (rc l)[k]? = some (.bool (rAt l k)) := by unfold rc; rw [rAt_get l k h]; simp [List.getElem?_eq_getElem h]
theorem Lies.vs_len {w : World} {B : Nat} {A : Option Addr} {n : Nat} {l : List Int} (h : Lies w B 1 A n (vc l)) : l.length = n := by
  have := h.1; rw [vc_len] at this; omega
theorem Lies.rs_len {w : World} {B : Nat} {A : Option Addr} {n : Nat} {l : List Bool} (h : Lies w B 1 A n (rc l)) : l.length = n := by
  have := h.1; rw [rc_len] at this; omega
theorem Lies.vs {w : World} {B : Nat} {A : Option Addr} {n : Nat} {l : List Int} (h : Lies w B 1 A n (vc l)) (k : Nat) (hk : k < n) : ∃ ad, A = some ad ∧ ad.block < B ∧ w.cell? (ad.add k) = some (.int .i64 (vAt l k)) :=
  h.2 k _ (vc_at l k (by rw [h.vs_len]; exact hk))
theorem Lies.rs {w : World} {B : Nat} {A : Option Addr} {n : Nat} {l : List Bool} (h : Lies w B 1 A n (rc l)) (k : Nat) (hk : k < n) : ∃ ad, A = some ad ∧ ad.block < B ∧ w.cell? (ad.add k) = some (.bool (rAt l k)) :=
  h.2 k _ (rc_at l k (by rw [h.rs_len]; exact hk))
/-- A state's lists lie in memory. -/
structure StL (w : World) (B : Nat) (S : St) (A1 : Option Addr) (c1 : Nat) (A2 : Option Addr) (c2 : Nat) (A3 : Option Addr) (c3 : Nat) : Prop where
  v : Lies w B 1 A1 S.vals.length (vc S.vals)
  r : Lies w B 1 A2 S.rest.length (rc S.rest)
  m : Lies w B 2 A3 S.inn.length (mc S.inn)
  cv : S.vals.length ≤ c1
  cr : S.rest.length ≤ c2
  cm : S.inn.length ≤ c3
  ok : Ok S
section
variable {w w' : World} {B B' : Nat} {S : St} {A1 : Option Addr} {c1 : Nat} {A2 : Option Addr} {c2 : Nat} {A3 : Option Addr} {c3 : Nat}
theorem StL.next (h : StL w w.heap.size S A1 c1 A2 c2 A3 c3) (hb : Below w.heap.size w w') : StL w' w'.heap.size S A1 c1 A2 c2 A3 c3 :=
  ⟨h.v.next hb, h.r.next hb, h.m.next hb, h.cv, h.cr, h.cm, h.ok⟩
theorem StL.below (h : StL w B S A1 c1 A2 c2 A3 c3) (hb : Below B w w') : StL w' B S A1 c1 A2 c2 A3 c3 :=
  ⟨h.v.below hb, h.r.below hb, h.m.below hb, h.cv, h.cr, h.cm, h.ok⟩
theorem StL.more (h : StL w B S A1 c1 A2 c2 A3 c3) (hB : B ≤ B') : StL w B' S A1 c1 A2 c2 A3 c3 :=
  ⟨h.v.more hB, h.r.more hB, h.m.more hB, h.cv, h.cr, h.cm, h.ok⟩
end
theorem StL.no (w : World) (B : Nat) : StL w B noSt none 0 none 0 none 0 := ⟨Lies.nil, Lies.nil, Lies.nil, Nat.le_refl _, Nat.le_refl _, Nat.le_refl _, Ok.no⟩
def RiRel6 (N : Int) (l : List Ms) (w : World) (last i : Value) (W : World) : Prop := ∃ (k : Nat) (a : Int), i = .int .i64 k ∧ last = .int .i64 a ∧ k ≤ l.length ∧ risB N (-1) l = risB N a (l.drop k) ∧ Below w.heap.size w W
theorem ris_step {N a : Int} {l : List Ms} {k : Nat} (h : k < l.length) : risB N a (l.drop k) = (decide (a < (mAt l k).1) && (decide ((mAt l k).1 < N) && risB N (mAt l k).1 (l.drop (k + 1)))) := by
  rw [drop_at l k h]; rfl
set_option maxHeartbeats 1000000 in
theorem rising_any (N : Int) (A : Option Addr) (c : Nat) (l : List Ms) (w : World) (hA : Lies w w.heap.size 2 A l.length (mc l)) (hn : l.length ≤ 1000000) :
    Calls Try.prog 47 #[.int .i64 N, .slice A l.length c] w fun e w' => e = .returned (.bool (risB N (-1) l)) ∧ Below w.heap.size w w' := by
  go_enter Try.func47, Try.ntmps47
  go_wp2_with fail
  go_loopw [5, 10] (fun a i W => RiRel6 N l w a i W) (fun a i W => l.length - (intOf i).toNat)
  case atStart => exact ⟨0, -1, rfl, rfl, Nat.zero_le _, rfl, Below.refl _ _⟩
  case round =>
    obtain ⟨k, a, rfl, rfl, hk, hpre, hb⟩ := hrel
    have HP := Lib.hid hpre
    have HB := Lib.hid (hb.alloc hb.size (.cells #[.int .i64 (mAt l k).1, .int .i64 (mAt l k).2] 61))
    clear hpre
    by_cases hlt : k < l.length
    · obtain ⟨ad, rfl, hadb, e0, e1⟩ := (hA.below hb).ms k hlt
      have hkl : (k : Int) < (l.length : Int) := by omega
      have HR := Lib.hid (ris_step (N := N) (a := a) hlt)
      clear hb
      by_cases h1 : (mAt l k).1 ≤ a
      · have HF := Lib.hid (show risB N (-1) l = false by rw [HP.out, HR.out]; simp; intro h; omega)
        go_wp2_with fail
        go_ret
        exact ⟨ret_bool HF.out.symm, HB.out⟩
      · by_cases h2 : N ≤ (mAt l k).1
        · have HF := Lib.hid (show risB N (-1) l = false by rw [HP.out, HR.out]; simp; intro _ h; omega)
          go_wp2_with fail
          go_ret
          exact ⟨ret_bool HF.out.symm, HB.out⟩
        · have HF := Lib.hid (show risB N (-1) l = risB N (mAt l k).1 (l.drop (k + 1)) by rw [HP.out, HR.out, decide_eq_true (show a < (mAt l k).1 by omega), decide_eq_true (show (mAt l k).1 < N by omega)]; rfl)
          go_wp2_with fail
          go_roundw
          case rel => exact ⟨k + 1, _, by go_num, rfl, by omega, HF.out, HB.out⟩
          case measure => simp [intOf]; omega
    · have hk' : k = l.length := by omega
      subst hk'
      have HF := Lib.hid (show risB N (-1) l = true by rw [HP.out, List.drop_length]; rfl)
      go_wp2_with fail
      go_ret
      exact ⟨ret_bool HF.out.symm, hb⟩
end Go.Proofs.Ytgfcgeiifinmmaa

/-
  The contracts of Right and the document's own. No condition but that the numbers are of 64 bits and not too many.
-/
namespace Go.Proofs.Ytgfcgeiifinmmaa
open Go.ChangeShapes Go.WideShapes Go.ChangeAt Go.RowKit
set_option linter.unusedVariables false

/-- The graph, the job and the state stand boxed in the first three blocks behind w; all that lay in w lies there still. -/
structure Bs (w : World) (N : Int) (A : Option Addr) (n c : Nat) (p s l q : Int) (S : St) (A1 : Option Addr) (c1 : Nat) (A2 : Option Addr) (c2 : Nat) (A3 : Option Addr) (c3 : Nat) (W : World) : Prop where
  x : Bx w N A n c p s l q W
  z : w.heap.size + 3 ≤ W.heap.size
  s0 : W.cell? ⟨w.heap.size + 1 + 1, 0, none⟩ = some (.int .i64 S.step)
  s1 : W.cell? ⟨w.heap.size + 1 + 1, 1, none⟩ = some (.slice A1 S.vals.length c1)
  s2 : W.cell? ⟨w.heap.size + 1 + 1, 2, none⟩ = some (.slice A2 S.rest.length c2)
  s3 : W.cell? ⟨w.heap.size + 1 + 1, 3, none⟩ = some (.slice A3 S.inn.length c3)
section
variable {w : World} {N : Int} {A : Option Addr} {n c : Nat} {p s l q : Int} {S : St} {A1 : Option Addr} {c1 : Nat} {A2 : Option Addr} {c2 : Nat} {A3 : Option Addr} {c3 : Nat} {W W' : World}
theorem Bs.next (h : Bs w N A n c p s l q S A1 c1 A2 c2 A3 c3 W) (hb : Below W.heap.size W W') : Bs w N A n c p s l q S A1 c1 A2 c2 A3 c3 W' :=
  have k : ∀ o, W'.cell? ⟨w.heap.size + 1 + 1, o, none⟩ = W.cell? ⟨w.heap.size + 1 + 1, o, none⟩ := fun o => hb.cell (p := ⟨w.heap.size + 1 + 1, o, none⟩) (Nat.lt_of_lt_of_le (Nat.lt_succ_self _) h.z)
  ⟨h.x.next hb, Nat.le_trans h.z hb.size, (k _).trans h.s0, (k _).trans h.s1, (k _).trans h.s2, (k _).trans h.s3⟩
theorem Bs.alloc (h : Bs w N A n c p s l q S A1 c1 A2 c2 A3 c3 W) (o : Obj) : Bs w N A n c p s l q S A1 c1 A2 c2 A3 c3 (W.alloc o) := h.next (below_alloc W o)
theorem Bs.drew (h : Bs w N A n c p s l q S A1 c1 A2 c2 A3 c3 W) : Bs w N A n c p s l q S A1 c1 A2 c2 A3 c3 W.drew := h.next ⟨rfl, rfl, rfl, Nat.le_refl _, fun _ _ => rfl⟩
end
theorem Bs.init (w : World) (N : Int) (A : Option Addr) (n c : Nat) (p s l q : Int) (S : St) (A1 : Option Addr) (c1 : Nat) (A2 : Option Addr) (c2 : Nat) (A3 : Option Addr) (c3 : Nat) :
    Bs w N A n c p s l q S A1 c1 A2 c2 A3 c3 (((w.alloc (.cells #[.int .i64 N, .slice A n c] 24)).alloc (.cells #[.int .i64 p, .int .i64 s, .int .i64 l, .int .i64 q] 26)).alloc (.cells #[.int .i64 S.step, .slice A1 S.vals.length c1, .slice A2 S.rest.length c2, .slice A3 S.inn.length c3] 40)) :=
  ⟨(Bx.init w N A n c p s l q).alloc _, by simp, by simp [go_sem], by simp [go_sem], by simp [go_sem], by simp [go_sem]⟩
theorem right_j {N : Int} {es : List Ed} {p s l q : Int} {S : St} (h : ¬ jchk N es p s l q = 0) : rightB N es p s l q S = false := by unfold rightB; rw [decide_eq_false h]; rfl
theorem right_s {N : Int} {es : List Ed} {p s l q : Int} {S : St} (h : S.step < 0 ∨ 40 < S.step) : rightB N es p s l q S = false := by
  unfold rightB; rw [decide_eq_false (show ¬ (0 ≤ S.step ∧ S.step ≤ 40) by omega)]; simp
theorem right_v {N : Int} {es : List Ed} {p s l q : Int} {S : St} (h : ¬ (S.vals.length : Int) = N) : rightB N es p s l q S = false := by
  unfold rightB; rw [decide_eq_false h]; simp
theorem right_r {N : Int} {es : List Ed} {p s l q : Int} {S : St} (h : ¬ (S.rest.length : Int) = N) : rightB N es p s l q S = false := by
  unfold rightB; rw [decide_eq_false h]; simp
theorem right_m {N : Int} {es : List Ed} {p s l q : Int} {S : St} (h0 : jchk N es p s l q = 0) (h1 : ¬ S.step < 0) (h2 : ¬ 40 < S.step) (h3 : (S.vals.length : Int) = N) (h4 : (S.rest.length : Int) = N) : rightB N es p s l q S = risB N (-1) S.inn := by
  unfold rightB; rw [decide_eq_true h0, decide_eq_true (show 0 ≤ S.step ∧ S.step ≤ 40 by omega), decide_eq_true h3, decide_eq_true h4]; rfl
set_option maxHeartbeats 1000000 in
theorem right_any (N : Int) (A : Option Addr) (n c : Nat) (es : List Ed) (p s l q : Int) (S : St) (A1 : Option Addr) (c1 : Nat) (A2 : Option Addr) (c2 : Nat) (A3 : Option Addr) (c3 : Nat) (w : World)
    (hA : Lies w w.heap.size 3 A n (ec es)) (hnc : n ≤ c) (hn : n ≤ maxLen) (hS : StL w w.heap.size S A1 c1 A2 c2 A3 c3) :
    Calls Try.prog 33 #[.agg #[.int .i64 N, .slice A n c], .agg #[.int .i64 p, .int .i64 s, .int .i64 l, .int .i64 q], .agg #[.int .i64 S.step, .slice A1 S.vals.length c1, .slice A2 S.rest.length c2, .slice A3 S.inn.length c3]] w fun e w' =>
      e = .returned (.bool (rightB N es p s l q S)) ∧ Below w.heap.size w w' := by
  have hbs := Bs.init w N A n c p s l q S A1 c1 A2 c2 A3 c3
  have hA1 := hA.next hbs.x.bl
  have HM := Lib.hid hS.m
  have hlm := hS.ok.lm
  have HBS := Lib.hid hbs
  clear hbs hS
  go_enter Try.func33, Try.ntmps33
  go_wp2_with fail
  refine (jcheck_any N A n c es p s l q _ hA1 hnc hn).mono ?_
  rintro e w1 ⟨rfl, hb1⟩
  have hs1 := HBS.out.next hb1
  have HB := Lib.hid hs1.x.bl
  by_cases hj : jchk N es p s l q = 0
  · have HJ := Lib.hid hj
    rw [hj]
    have s0 := hs1.s0
    have s1 := hs1.s1
    have s2 := hs1.s2
    have s3 := hs1.s3
    have g0 := hs1.x.g0
    clear hb1 hA1 HBS hs1 hj
    by_cases h1 : S.step < 0
    · have HF := Lib.hid (right_s (N := N) (es := es) (p := p) (s := s) (l := l) (q := q) (.inl h1))
      go_wp2_with fail
      go_ret
      exact ⟨ret_bool HF.out.symm, HB.out⟩
    · by_cases h2 : 40 < S.step
      · have HF := Lib.hid (right_s (N := N) (es := es) (p := p) (s := s) (l := l) (q := q) (.inr h2))
        go_wp2_with fail
        go_ret
        exact ⟨ret_bool HF.out.symm, HB.out⟩
      · by_cases h3 : (S.vals.length : Int) = N
        · by_cases h4 : (S.rest.length : Int) = N
          · have HF := Lib.hid (right_m HJ.out h1 h2 h3 h4)
            have h3' : ((S.vals.length : Int) == N) = true := by simpa using h3
            have h4' : ((S.rest.length : Int) == N) = true := by simpa using h4
            clear h3 h4
            go_wp2_with fail
            refine (rising_any N A3 c3 S.inn _ (HM.out.next HB.out) hlm).mono ?_
            rintro e w2 ⟨rfl, hb2⟩
            have HB2 := Lib.hid (HB.out.trans (hb2.mono HB.out.size))
            clear hb2
            go_wp2_with fail
            go_ret
            exact ⟨ret_bool (by rw [HF.out]), HB2.out⟩
          · have HF := Lib.hid (right_r (es := es) (p := p) (s := s) (l := l) (q := q) h4)
            have h3' : ((S.vals.length : Int) == N) = true := by simpa using h3
            have h4' : ((S.rest.length : Int) == N) = false := by simpa using h4
            clear h3 h4
            go_wp2_with fail
            go_ret
            exact ⟨ret_bool HF.out.symm, HB.out⟩
        · have HF := Lib.hid (right_v (es := es) (p := p) (s := s) (l := l) (q := q) h3)
          have h3' : ((S.vals.length : Int) == N) = false := by simpa using h3
          clear h3
          go_wp2_with fail
          go_ret
          exact ⟨ret_bool HF.out.symm, HB.out⟩
  · have HF := Lib.hid (right_j (S := S) hj)
    have h1 : (jchk N es p s l q != 0) = true := by simpa using hj
    clear hb1 hA1 HBS hs1 hj
    go_wp2_with fail
    go_ret
    exact ⟨ret_bool HF.out.symm, HB.out⟩
/-- The one ahead. -/
def lastM (l : List Ms) (k : Nat) : Int := if k = 0 then -1 else (mAt l (k - 1)).1
def RrRel (N : Int) (l : List Ms) (w1 : World) (i : Value) (W : World) : Prop := ∃ k : Nat, i = .int .i64 k ∧ k ≤ l.length ∧ risB N (-1) l = risB N (lastM l k) (l.drop k) ∧ -1 ≤ lastM l k ∧ W = w1
set_option maxHeartbeats 1000000 in
theorem rright_any (N : Int) (A : Option Addr) (n c : Nat) (es : List Ed) (p s l q : Int) (S : St) (A1 : Option Addr) (c1 : Nat) (A2 : Option Addr) (c2 : Nat) (A3 : Option Addr) (c3 : Nat) (w : World)
    (hA : Lies w w.heap.size 3 A n (ec es)) (hnc : n ≤ c) (hn : n ≤ maxLen) (hS : StL w w.heap.size S A1 c1 A2 c2 A3 c3) :
    Calls Try.prog 25 #[.agg #[.int .i64 N, .slice A n c], .agg #[.int .i64 p, .int .i64 s, .int .i64 l, .int .i64 q], .agg #[.int .i64 S.step, .slice A1 S.vals.length c1, .slice A2 S.rest.length c2, .slice A3 S.inn.length c3]] w fun e w' =>
      e = .returned (.bool (rightB N es p s l q S)) ∧ Below w.heap.size w w' := by
  have hbs := Bs.init w N A n c p s l q S A1 c1 A2 c2 A3 c3
  have hA1 := hA.next hbs.x.bl
  have HM := Lib.hid hS.m
  have hlm := hS.ok.lm
  have HBS := Lib.hid hbs
  clear hbs hS
  go_enter Try.func25, Try.ntmps25
  go_wp2_with fail
  refine (rjcheck_any N A n c es p s l q _ hA1 hnc hn).mono ?_
  rintro e w1 ⟨rfl, hb1⟩
  have hs1 := HBS.out.next hb1
  have HB := Lib.hid hs1.x.bl
  by_cases hj : jchk N es p s l q = 0
  · have HJ := Lib.hid hj
    rw [hj]
    have s0 := hs1.s0
    have s1 := hs1.s1
    have s2 := hs1.s2
    have s3 := hs1.s3
    have g0 := hs1.x.g0
    clear hb1 hA1 HBS hs1 hj
    by_cases h1 : S.step < 0
    · have HF := Lib.hid (right_s (N := N) (es := es) (p := p) (s := s) (l := l) (q := q) (.inl h1))
      go_wp2_with fail
      go_ret
      exact ⟨ret_bool HF.out.symm, HB.out⟩
    · by_cases h2 : 40 < S.step
      · have HF := Lib.hid (right_s (N := N) (es := es) (p := p) (s := s) (l := l) (q := q) (.inr h2))
        go_wp2_with fail
        go_ret
        exact ⟨ret_bool HF.out.symm, HB.out⟩
      · by_cases h3 : (S.vals.length : Int) = N
        · by_cases h4 : (S.rest.length : Int) = N
          · have HF := Lib.hid (right_m HJ.out h1 h2 h3 h4)
            have h3' : ((S.vals.length : Int) != N) = false := by simpa using h3
            have h4' : ((S.rest.length : Int) != N) = false := by simpa using h4
            have HM1 := HM.out.next HB.out
            clear h3 h4 HM
            go_wp2_with fail
            go_loopw [7] (fun i W => RrRel N S.inn w1 i W) (fun i W => S.inn.length - (intOf i).toNat)
            case atStart => exact ⟨0, rfl, Nat.zero_le _, rfl, Int.le_refl _, rfl⟩
            case round =>
              obtain ⟨k, rfl, hk, hpre, hl0, rfl⟩ := hrel
              have HP := Lib.hid hpre
              clear hpre
              by_cases hlt : k < S.inn.length
              · obtain ⟨ad, rfl, hadb, e0, e1⟩ := HM1.ms k hlt
                have hkl : (k : Int) < (S.inn.length : Int) := by omega
                have HR := Lib.hid (ris_step (N := N) (a := lastM S.inn k) hlt)
                have HL := Lib.hid (show lastM S.inn (k + 1) = (mAt S.inn k).1 by unfold lastM; rw [if_neg (by omega)]; rfl)
                by_cases g1 : (mAt S.inn k).1 < 0
                · have HE := Lib.hid (show rightB N es p s l q S = false by rw [HF.out, HP.out, HR.out, decide_eq_false (show ¬ lastM S.inn k < (mAt S.inn k).1 by omega)]; rfl)
                  go_wp2_with fail
                  go_ret
                  exact ⟨ret_bool HE.out.symm, HB.out⟩
                · by_cases g2 : N ≤ (mAt S.inn k).1
                  · have HE := Lib.hid (show rightB N es p s l q S = false by rw [HF.out, HP.out, HR.out, decide_eq_false (show ¬ (mAt S.inn k).1 < N by omega)]; simp)
                    go_wp2_with fail
                    go_ret
                    exact ⟨ret_bool HE.out.symm, HB.out⟩
                  · by_cases k0 : k = 0
                    · have HE := Lib.hid (show risB N (-1) S.inn = risB N (mAt S.inn k).1 (S.inn.drop (k + 1)) by rw [HP.out, HR.out, decide_eq_true (show lastM S.inn k < (mAt S.inn k).1 by rw [k0] at g1 ⊢; show (-1 : Int) < _; omega), decide_eq_true (show (mAt S.inn k).1 < N by omega)]; rfl)
                      have hk3 : ¬ (0 : Int) < (k : Int) := by omega
                      clear k0
                      go_wp2_with fail
                      go_roundw
                      case rel => exact ⟨k + 1, by go_num, by omega, by rw [HL.out]; exact HE.out, by rw [HL.out]; omega, rfl⟩
                      case measure => simp [intOf]; omega
                    · obtain ⟨ad', ea, hadb', e0', e1'⟩ := HM1.ms (k - 1) (by omega)
                      injection ea with ea
                      subst ea
                      have HQ := Lib.hid (show lastM S.inn k = (mAt S.inn (k - 1)).1 by unfold lastM; rw [if_neg k0])
                      have hk1 : ((k : Int) - 1) = ((k - 1 : Nat) : Int) := by omega
                      have hk2 : ((k - 1 : Nat) : Int) < (S.inn.length : Int) := by omega
                      have hk3 : (0 : Int) < (k : Int) := by omega
                      by_cases g3 : (mAt S.inn k).1 ≤ (mAt S.inn (k - 1)).1
                      · have HE := Lib.hid (show rightB N es p s l q S = false by rw [HF.out, HP.out, HR.out, decide_eq_false (show ¬ lastM S.inn k < (mAt S.inn k).1 by rw [HQ.out]; omega)]; rfl)
                        go_wp2_with fail
                        go_ret
                        exact ⟨ret_bool HE.out.symm, HB.out⟩
                      · have HE := Lib.hid (show risB N (-1) S.inn = risB N (mAt S.inn k).1 (S.inn.drop (k + 1)) by rw [HP.out, HR.out, decide_eq_true (show lastM S.inn k < (mAt S.inn k).1 by rw [HQ.out]; omega), decide_eq_true (show (mAt S.inn k).1 < N by omega)]; rfl)
                        go_wp2_with fail
                        go_roundw
                        case rel => exact ⟨k + 1, by go_num, by omega, by rw [HL.out]; exact HE.out, by rw [HL.out]; omega, rfl⟩
                        case measure => simp [intOf]; omega
              · have hk' : k = S.inn.length := by omega
                subst hk'
                have HE := Lib.hid (show rightB N es p s l q S = true by rw [HF.out, HP.out, List.drop_length]; rfl)
                go_wp2_with fail
                go_ret
                exact ⟨ret_bool HE.out.symm, HB.out⟩
          · have HF := Lib.hid (right_r (es := es) (p := p) (s := s) (l := l) (q := q) h4)
            have h3' : ((S.vals.length : Int) != N) = false := by simpa using h3
            have h4' : ((S.rest.length : Int) != N) = true := by simpa using h4
            clear h3 h4
            go_wp2_with fail
            go_ret
            exact ⟨ret_bool HF.out.symm, HB.out⟩
        · have HF := Lib.hid (right_v (es := es) (p := p) (s := s) (l := l) (q := q) h3)
          have h3' : ((S.vals.length : Int) != N) = true := by simpa using h3
          clear h3
          go_wp2_with fail
          go_ret
          exact ⟨ret_bool HF.out.symm, HB.out⟩
  · have HF := Lib.hid (right_j (S := S) hj)
    have h1 : (jchk N es p s l q != 0) = true := by simpa using hj
    clear hb1 hA1 HBS hs1 hj
    go_wp2_with fail
    go_ret
    exact ⟨ret_bool HF.out.symm, HB.out⟩
end Go.Proofs.Ytgfcgeiifinmmaa

/-
  The contracts of slices.Clone at a list of values and at a list of rests; words for the memory of a superstep. No condition but that the numbers are not too many.
-/
namespace Go.Proofs.Ytgfcgeiifinmmaa
open Go.RowKit
set_option linter.unusedVariables false

/-- A row of the call's own lies in no block of another type. -/
theorem own_ne {w : World} {b s n bn : Nat} {e t : TypeId} {v : Value} {xs : List Value} {cs : Array Value} {fr : Nat × Nat} (h : w.ownsRow b e s v n xs) (hb : w.heap[bn]? = some (.cells cs t fr)) (ht : t ≠ e) : v.ownBlock ≠ some bn := by
  intro hv
  rcases h.2 with ⟨rfl, _⟩ | ⟨g, cap, cur, rfl, _, hh, _⟩
  · simp [Value.ownBlock] at hv
  · have : g = bn := by simpa [Value.ownBlock] using hv
    subst this
    rw [hh] at hb
    injection hb with hb
    injection hb with _ h2
    exact ht h2.symm
theorem own_some1 {w : World} {base n : Nat} {e : TypeId} {A : Option Addr} {c : Nat} {xs : List Value} (h : w.ownsRow base e 1 (.slice A n c) n xs) (hn : 0 < n) : ∃ g cur, A = some ⟨g, 0, none⟩ ∧ base ≤ g ∧ g < w.heap.size ∧ w.heap[g]? = some (.cells cur e) := by
  rcases h.2 with ⟨hv, h0⟩ | ⟨g, cap, cur, hv, hb, hg, _⟩
  · omega
  · injection hv with e1 e2 e3
    exact ⟨g, cur, e1, hb, (Array.getElem?_eq_some_iff.1 hg).1, hg⟩
/-- The memory of a superstep under way: the next state stands in block bn, its values and rests in rows of the call's own. -/
structure Sp (w4 : World) (bn : Nat) (st1 : Int) (gV cV gR cR n : Nat) (vs : List Int) (rs : List Bool) (W : World) : Prop where
  bl : Below w4.heap.size w4 W
  nb : W.heap[bn]? = some (.cells #[.int .i64 st1, .slice (some ⟨gV, 0, none⟩) n cV, .slice (some ⟨gR, 0, none⟩) n cR, .slice none 0 0] 40 (0, 0))
  v : W.ownsRow w4.heap.size 2 1 (.slice (some ⟨gV, 0, none⟩) n cV) n (vc vs)
  r : W.ownsRow w4.heap.size 4 1 (.slice (some ⟨gR, 0, none⟩) n cR) n (rc rs)
  hbn : w4.heap.size ≤ bn
section
variable {w4 : World} {bn : Nat} {st1 : Int} {gV cV gR cR n : Nat} {vs : List Int} {rs : List Bool} {W W' : World}
theorem Sp.lt (h : Sp w4 bn st1 gV cV gR cR n vs rs W) : bn < W.heap.size := lt_of_block h.nb
theorem Sp.next (h : Sp w4 bn st1 gV cV gR cR n vs rs W) (hb : Below W.heap.size W W') : Sp w4 bn st1 gV cV gR cR n vs rs W' :=
  ⟨h.bl.trans (hb.mono h.bl.size), (hb.block _ h.lt).trans h.nb, own_next h.v hb, own_next h.r hb, h.hbn⟩
theorem Sp.gr (h : Sp w4 bn st1 gV cV gR cR n vs rs W) : gV ≠ gR ∧ gV ≠ bn ∧ gR ≠ bn ∧ w4.heap.size ≤ gV ∧ w4.heap.size ≤ gR := by
  have h1 := own_ne h.v h.nb (by decide)
  have h2 := own_ne h.r h.nb (by decide)
  have h3 := (h.v.lt gV rfl)
  have h4 := (h.r.lt gR rfl)
  refine ⟨fun e => ?_, fun e => h1 (by rw [e]; rfl), fun e => h2 (by rw [e]; rfl), h3.1, h4.1⟩
  subst e
  rcases h.v.2 with ⟨hv, _⟩ | ⟨g, cap, cur, hv, _, hh, _⟩
  · injection hv with e1; cases e1
  · injection hv with e1
    injection e1 with e1
    injection e1 with e1
    subst e1
    exact own_ne h.r hh (by decide) rfl
theorem Sp.grown {m : Nat} {v : Value} {xs : List Value} (h : Sp w4 bn st1 gV cV gR cR n vs rs W) (ho : W.ownsRow w4.heap.size 61 2 v m xs) (hg : W.grownBy W' v.ownBlock) : Sp w4 bn st1 gV cV gR cR n vs rs W' :=
  ⟨h.bl.grown hg (h.bl.size) (fun k hk => (ho.lt k hk).1), (hg.block _ h.lt (fun e => own_ne ho h.nb (by decide) e.symm)).trans h.nb, own_apart h.v ho hg (by decide), own_apart h.r ho hg (by decide), h.hbn⟩
theorem Sp.set (h : Sp w4 bn st1 gV cV gR cR n vs rs W) (k : Nat) (x : Int) (b : Bool) : Sp w4 bn st1 gV cV gR cR n (vs.set k x) (rs.set k b) ((W.setCell ⟨gV, k, none⟩ (.int .i64 x)).setCell ⟨gR, k, none⟩ (.bool b)) := by
  obtain ⟨n1, n2, n3, n4, n5⟩ := h.gr
  have v1 := (h.v.stored k (.int .i64 x)).1
  rw [vc_set] at v1
  have r1 := (ownsRow_setCell_other h.r (a := ⟨gV, k, none⟩) (fun e => n1 (by simpa [Value.ownBlock] using e.symm)) (.int .i64 x))
  have r2 := (r1.stored k (.bool b)).1
  rw [rc_set] at r2
  refine ⟨(h.bl.setCell (p := ⟨gV, k, none⟩) n4 _).setCell (p := ⟨gR, k, none⟩) n5 _, ?_, ownsRow_setCell_other v1 (a := ⟨gR, k, none⟩) (fun e => n1 (by simpa [Value.ownBlock] using e)) _, r2, h.hbn⟩
  rw [Below.heap_setCell _ _ _ _ (fun e => n3 e.symm), Below.heap_setCell _ _ _ _ (fun e => n2 e.symm)]
  exact h.nb
theorem Sp.own (h : Sp w4 bn st1 gV cV gR cR n vs rs W) {m : Nat} {v : Value} {xs : List Value} (ho : W.ownsRow w4.heap.size 61 2 v m xs) (k : Nat) (x : Int) (b : Bool) : ((W.setCell ⟨gV, k, none⟩ (.int .i64 x)).setCell ⟨gR, k, none⟩ (.bool b)).ownsRow w4.heap.size 61 2 v m xs := by
  have a1 : v.ownBlock ≠ some gV := by
    rcases h.v.2 with ⟨hv, _⟩ | ⟨g, cap, cur, hv, _, hh, _⟩
    · injection hv with e1; cases e1
    · injection hv with e1
      injection e1 with e1
      injection e1 with e1
      subst e1
      exact own_ne ho hh (by decide)
  have a2 : v.ownBlock ≠ some gR := by
    rcases h.r.2 with ⟨hv, _⟩ | ⟨g, cap, cur, hv, _, hh, _⟩
    · injection hv with e1; cases e1
    · injection hv with e1
      injection e1 with e1
      injection e1 with e1
      subst e1
      exact own_ne ho hh (by decide)
  exact ownsRow_setCell_other (ownsRow_setCell_other ho (a := ⟨gV, k, none⟩) a1 _) (a := ⟨gR, k, none⟩) a2 _
end

/-- What lies at or behind block b, if anywhere. -/
def Fr (b : Nat) (A : Option Addr) : Prop := ∀ ad, A = some ad → b ≤ ad.block
theorem Fr.no (b : Nat) : Fr b none := fun _ h => by cases h
theorem Fr.low {b b' : Nat} {A : Option Addr} (h : Fr b A) (hb : b' ≤ b) : Fr b' A := fun ad e => Nat.le_trans hb (h ad e)
theorem Fr.own {w : World} {b s n c : Nat} {e : TypeId} {A : Option Addr} {xs : List Value} (h : w.ownsRow b e s (.slice A n c) n xs) : Fr b A := by
  intro ad e1
  rcases h.2 with ⟨hv, _⟩ | ⟨g, cap, cur, hv, hb, _⟩
  · injection hv with e2; rw [e2] at e1; cases e1
  · injection hv with e2; rw [e2] at e1; injection e1 with e1; rw [← e1]; exact hb
/-- What Step, Begin and their like answer: a state, in memory of the call's own, and a number. -/
def StPost (t : St × Int) (w : World) (r : Ending) (w' : World) : Prop :=
  Below w.heap.size w w' ∧ ∃ A1 c1 A2 c2 A3 c3, r = .returned (.tuple #[.agg #[.int .i64 t.1.step, .slice A1 t.1.vals.length c1, .slice A2 t.1.rest.length c2, .slice A3 t.1.inn.length c3], .int .i64 t.2]) ∧ StL w' w'.heap.size t.1 A1 c1 A2 c2 A3 c3 ∧ Fr w.heap.size A1 ∧ Fr w.heap.size A2 ∧ Fr w.heap.size A3
theorem st_no {t : St × Int} {e : Int} {w w' : World} (h : t = (noSt, e)) (hb : Below w.heap.size w w') : StPost t w (.returned (.tuple #[.agg #[.int .i64 0, .slice none 0 0, .slice none 0 0, .slice none 0 0], .int .i64 e])) w' := by
  subst h
  exact ⟨hb, none, 0, none, 0, none, 0, rfl, StL.no _ _, Fr.no _, Fr.no _, Fr.no _⟩
/-- A state in memory stays while a block is written in which it does not lie. -/
theorem Lies.set {w : World} {B s n : Nat} {A : Option Addr} {xs : List Value} (h : Lies w B s A n xs) {b i b' : Nat} (hb : Fr b' A) (hlt : b < b') (u : Value) : Lies (w.setCell ⟨b, i, none⟩ u) B s A n xs :=
  ⟨h.1, fun j v hj => by
    obtain ⟨ad, e, hB, hc⟩ := h.2 j v hj
    refine ⟨ad, e, hB, ?_⟩
    rw [← hc]
    exact World.cell?_of_block (w := w) (Below.heap_setCell _ _ _ _ (by rw [block_add]; have := hb ad e; simp only; omega))⟩
theorem StL.set {w : World} {B : Nat} {S : St} {A1 : Option Addr} {c1 : Nat} {A2 : Option Addr} {c2 : Nat} {A3 : Option Addr} {c3 : Nat} (h : StL w B S A1 c1 A2 c2 A3 c3) {b i b' : Nat} (h1 : Fr b' A1) (h2 : Fr b' A2) (h3 : Fr b' A3) (hlt : b < b') (u : Value) :
    StL (w.setCell ⟨b, i, none⟩ u) B S A1 c1 A2 c2 A3 c3 := ⟨h.v.set h1 hlt u, h.r.set h2 hlt u, h.m.set h3 hlt u, h.cv, h.cr, h.cm, h.ok⟩
theorem StL.size {w : World} {S : St} {A1 : Option Addr} {c1 : Nat} {A2 : Option Addr} {c2 : Nat} {A3 : Option Addr} {c3 : Nat} {b i : Nat} {u : Value} (h : StL (w.setCell ⟨b, i, none⟩ u) w.heap.size S A1 c1 A2 c2 A3 c3) : StL (w.setCell ⟨b, i, none⟩ u) (w.setCell ⟨b, i, none⟩ u).heap.size S A1 c1 A2 c2 A3 c3 :=
  h.more (by simp [World.setCell])
theorem vset {T : Nat → Int × List Ms × Bool × Int} {l : List Int} {k : Nat} (h : k < l.length) : (valsL T k ++ l.drop k).set k (T k).1 = valsL T (k + 1) ++ l.drop (k + 1) := by
  rw [List.set_append_right _ _ (by rw [valsL_len]; exact Nat.le_refl _), valsL_len, Nat.sub_self, List.drop_eq_getElem_cons h, List.set_cons_zero, valsL_succ, List.append_assoc]; rfl
end Go.Proofs.Ytgfcgeiifinmmaa

