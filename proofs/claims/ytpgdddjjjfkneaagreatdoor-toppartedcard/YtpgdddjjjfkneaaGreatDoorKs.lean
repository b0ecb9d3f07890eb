import Derived.Test.YtpgdddjjjfkneaaGreatDoorKr
import Derived.Test.YtpgdddjjjfkneaaGreatDoorKo
import Derived.OneCell
/-
  Words for states in memory; the contracts of slices.Index and Contains at a list of bools, of Quiet and the document's own, of rising. No condition but that the numbers are of 62 bits and not too many.
-/
namespace Go.Proofs.YtpgdddjjjfkneaaGreatDoor
open Go.RowKit
set_option linter.unusedVariables false

/-- Values, rests as cells. -/
def vc (l : List Int) : List Value := l.map fun x => Value.int .i64 x
def rc (l : List Bool) : List Value := l.map Value.bool
theorem vc_len (l : List Int) : (vc l).length = l.length := by unfold vc; simp
theorem rc_len (l : List Bool) : (rc l).length = l.length := by unfold rc; simp
theorem vc_app (a b : List Int) : vc (a ++ b) = vc a ++ vc b := by unfold vc; simp
theorem rc_app (a b : List Bool) : rc (a ++ b) = rc a ++ rc b := by unfold rc; simp
theorem vc_set (l : List Int) (k : Nat) (x : Int) : (vc l).set k (.int .i64 x) = vc (l.set k x) := by unfold vc; rw [List.map_set]
theorem rc_set (l : List Bool) (k : Nat) (x : Bool) : (rc l).set k (.bool x) = rc (l.set k x) := by unfold rc; rw [List.map_set]
theorem vc_at (l : List Int) (k : Nat) (h : k < l.length) : (vc l)[k]? = some (.int .i64 (vAt l k)) := by unfold vc; rw [vAt_get l k h]; simp [List.getElem?_eq_getElem h]
theorem rc_at (l : List Bool) (k : Nat) (h : k < l.length) : (rc l)[k]? = some (.bool (rAt l k)) := by unfold rc; rw [rAt_get l k h]; simp [List.getElem?_eq_getElem h]
theorem vc_one (l : List Int) : ∀ u ∈ vc l, u.oneCell' = true := by
  intro u hu; unfold vc at hu; obtain ⟨b, _, rfl⟩ := List.mem_map.1 hu; rfl
theorem rc_one (l : List Bool) : ∀ u ∈ rc l, u.oneCell' = true := by
  intro u hu; unfold rc at hu; obtain ⟨b, _, rfl⟩ := List.mem_map.1 hu; rfl
theorem Lies.vs_len {w : World} {B : Nat} {A : Option Addr} {n : Nat} {l : List Int} (h : Lies w B 1 A n (vc l)) : l.length = n := by
  have := h.1; rw [vc_len] at this; omega
theorem Lies.rs_len {w : World} {B : Nat} {A : Option Addr} {n : Nat} {l : List Bool} (h : Lies w B 1 A n (rc l)) : l.length = n := by
  have := h.1; rw [rc_len] at this; omega
theorem Lies.vs {w : World} {B : Nat} {A : Option Addr} {n : Nat} {l : List Int} (h : Lies w B 1 A n (vc l)) (k : Nat) (hk : k < n) : ∃ ad, A = some ad ∧ ad.block < B ∧ w.cell? (ad.add k) = some (.int .i64 (vAt l k)) :=
  h.2 k _ (vc_at l k (by rw [h.vs_len]; exact hk))
theorem Lies.rs {w : World} {B : Nat} {A : Option Addr} {n : Nat} {l : List Bool} (h : Lies w B 1 A n (rc l)) (k : Nat) (hk : k < n) : ∃ ad, A = some ad ∧ ad.block < B ∧ w.cell? (ad.add k) = some (.bool (rAt l k)) :=
  h.2 k _ (rc_at l k (by rw [h.rs_len]; exact hk))
/-- A state's lists lie in memory. -/
structure StL (w : World) (B : Nat) (S : St) (A1 : Option Addr) (c1 : Nat) (A2 : Option Addr) (c2 : Nat) (A3 : Option Addr) (c3 : Nat) : Prop where
  v : Lies w B 1 A1 S.vals.length (vc S.vals)
  r : Lies w B 1 A2 S.rest.length (rc S.rest)
  m : Lies w B 2 A3 S.inn.length (mc S.inn)
  cv : S.vals.length ≤ c1
  cr : S.rest.length ≤ c2
  cm : S.inn.length ≤ c3
  ok : Ok S
section
variable {w w' : World} {B B' : Nat} {S : St} {A1 : Option Addr} {c1 : Nat} {A2 : Option Addr} {c2 : Nat} {A3 : Option Addr} {c3 : Nat}
theorem StL.next (h : StL w w.heap.size S A1 c1 A2 c2 A3 c3) (hb : Below w.heap.size w w') : StL w' w'.heap.size S A1 c1 A2 c2 A3 c3 :=
  ⟨h.v.next hb, h.r.next hb, h.m.next hb, h.cv, h.cr, h.cm, h.ok⟩
theorem StL.below (h : StL w B S A1 c1 A2 c2 A3 c3) (hb : Below B w w') : StL w' B S A1 c1 A2 c2 A3 c3 :=
  ⟨h.v.below hb, h.r.below hb, h.m.below hb, h.cv, h.cr, h.cm, h.ok⟩
theorem StL.more (h : StL w B S A1 c1 A2 c2 A3 c3) (hB : B ≤ B') : StL w B' S A1 c1 A2 c2 A3 c3 :=
  ⟨h.v.more hB, h.r.more hB, h.m.more hB, h.cv, h.cr, h.cm, h.ok⟩
end
theorem StL.no (w : World) (B : Nat) : StL w B noSt none 0 none 0 none 0 := ⟨Lies.nil, Lies.nil, Lies.nil, Nat.le_refl _, Nat.le_refl _, Nat.le_refl _, Ok.no⟩
def RiRel6 (N : Int) (l : List Ms) (w : World) (last i : Value) (W : World) : Prop := ∃ (k : Nat) (a : Int), i = .int .i64 k ∧ last = .int .i64 a ∧ k ≤ l.length ∧ risB N (-1) l = risB N a (l.drop k) ∧ Below w.heap.size w W
theorem ris_step {N a : Int} {l : List Ms} {k : Nat} (h : k < l.length) : risB N a (l.drop k) = (decide (a < (mAt l k).1) && (decide ((mAt l k).1 < N) && risB N (mAt l k).1 (l.drop (k + 1)))) := by
  rw [drop_at l k h]; rfl
set_option maxHeartbeats 1000000 in
theorem rising_any (N : Int) (A : Option Addr) (c : Nat) (l : List Ms) (w : World) (hA : Lies w w.heap.size 2 A l.length (mc l)) (hn : l.length ≤ 1000000) :
    Calls Tryz.prog 78 #[.int .i64 N, .slice A l.length c] w fun e w' => e = .returned (.bool (risB N (-1) l)) ∧ Below w.heap.size w w' := by
  go_enter Tryz.func78, Tryz.ntmps78
  go_wp2_with fail
  go_loopw [5, 10] (fun a i W => RiRel6 N l w a i W) (fun a i W => l.length - (intOf i).toNat)
  case atStart => exact ⟨0, -1, rfl, rfl, Nat.zero_le _, rfl, Below.refl _ _⟩
  case round =>
    obtain ⟨k, a, rfl, rfl, hk, hpre, hb⟩ := hrel
    have HP := Lib.hid hpre
    have HB := Lib.hid (hb.alloc hb.size (.cells #[.int .i64 (mAt l k).1, .int .i64 (mAt l k).2] 118))
    clear hpre
    by_cases hlt : k < l.length
    · obtain ⟨ad, rfl, hadb, e0, e1⟩ := (hA.below hb).ms k hlt
      have hkl : (k : Int) < (l.length : Int) := by omega
      have HR := Lib.hid (ris_step (N := N) (a := a) hlt)
      clear hb
      by_cases h1 : (mAt l k).1 ≤ a
      · have HF := Lib.hid (show risB N (-1) l = false by rw [HP.out, HR.out]; simp; intro h; omega)
        go_wp2_with fail
        go_ret
        exact ⟨ret_bool HF.out.symm, HB.out⟩
      · by_cases h2 : N ≤ (mAt l k).1
        · have HF := Lib.hid (show risB N (-1) l = false by rw [HP.out, HR.out]; simp; intro _ h; omega)
          go_wp2_with fail
          go_ret
          exact ⟨ret_bool HF.out.symm, HB.out⟩
        · have HF := Lib.hid (show risB N (-1) l = risB N (mAt l k).1 (l.drop (k + 1)) by rw [HP.out, HR.out, decide_eq_true (show a < (mAt l k).1 by omega), decide_eq_true (show (mAt l k).1 < N by omega)]; rfl)
          go_wp2_with fail
          go_roundw
          case rel => exact ⟨k + 1, _, by go_num, rfl, by omega, HF.out, HB.out⟩
          case measure => simp [intOf]; omega
    · have hk' : k = l.length := by omega
      subst hk'
      have HF := Lib.hid (show risB N (-1) l = true by rw [HP.out, List.drop_length]; rfl)
      go_wp2_with fail
      go_ret
      exact ⟨ret_bool HF.out.symm, hb⟩
end Go.Proofs.YtpgdddjjjfkneaaGreatDoor

/-
  The contracts of Right and the document's own. No condition but that the numbers are of 62 bits and not too many.
-/
namespace Go.Proofs.YtpgdddjjjfkneaaGreatDoor
open Go.ChangeShapes Go.WideShapes Go.ChangeAt Go.RowKit
set_option linter.unusedVariables false

/-- The graph, the job and the state stand boxed in the first three blocks behind w; all that lay in w lies there still. -/
structure Bs (w : World) (N : Int) (A : Option Addr) (n c : Nat) (p s l q : Int) (S : St) (A1 : Option Addr) (c1 : Nat) (A2 : Option Addr) (c2 : Nat) (A3 : Option Addr) (c3 : Nat) (W : World) : Prop where
  x : Bx w N A n c p s l q W
  z : w.heap.size + 3 ≤ W.heap.size
  s0 : W.cell? ⟨w.heap.size + 1 + 1, 0, none⟩ = some (.int .i64 S.step)
  s1 : W.cell? ⟨w.heap.size + 1 + 1, 1, none⟩ = some (.slice A1 S.vals.length c1)
  s2 : W.cell? ⟨w.heap.size + 1 + 1, 2, none⟩ = some (.slice A2 S.rest.length c2)
  s3 : W.cell? ⟨w.heap.size + 1 + 1, 3, none⟩ = some (.slice A3 S.inn.length c3)
section
variable {w : World} {N : Int} {A : Option Addr} {n c : Nat} {p s l q : Int} {S : St} {A1 : Option Addr} {c1 : Nat} {A2 : Option Addr} {c2 : Nat} {A3 : Option Addr} {c3 : Nat} {W W' : World}
theorem Bs.next (h : Bs w N A n c p s l q S A1 c1 A2 c2 A3 c3 W) (hb : Below W.heap.size W W') : Bs w N A n c p s l q S A1 c1 A2 c2 A3 c3 W' :=
  have k : ∀ o, W'.cell? ⟨w.heap.size + 1 + 1, o, none⟩ = W.cell? ⟨w.heap.size + 1 + 1, o, none⟩ := fun o => hb.cell (p := ⟨w.heap.size + 1 + 1, o, none⟩) (Nat.lt_of_lt_of_le (Nat.lt_succ_self _) h.z)
  ⟨h.x.next hb, Nat.le_trans h.z hb.size, (k _).trans h.s0, (k _).trans h.s1, (k _).trans h.s2, (k _).trans h.s3⟩
theorem Bs.alloc (h : Bs w N A n c p s l q S A1 c1 A2 c2 A3 c3 W) (o : Obj) : Bs w N A n c p s l q S A1 c1 A2 c2 A3 c3 (W.alloc o) := h.next (below_alloc W o)
theorem Bs.drew (h : Bs w N A n c p s l q S A1 c1 A2 c2 A3 c3 W) : Bs w N A n c p s l q S A1 c1 A2 c2 A3 c3 W.drew := h.next ⟨rfl, rfl, rfl, Nat.le_refl _, fun _ _ => rfl⟩
end
theorem Bs.init (w : World) (N : Int) (A : Option Addr) (n c : Nat) (p s l q : Int) (S : St) (A1 : Option Addr) (c1 : Nat) (A2 : Option Addr) (c2 : Nat) (A3 : Option Addr) (c3 : Nat) :
    Bs w N A n c p s l q S A1 c1 A2 c2 A3 c3 (((w.alloc (.cells #[.int .i64 N, .slice A n c] 27)).alloc (.cells #[.int .i64 p, .int .i64 s, .int .i64 l, .int .i64 q] 23)).alloc (.cells #[.int .i64 S.step, .slice A1 S.vals.length c1, .slice A2 S.rest.length c2, .slice A3 S.inn.length c3] 39)) :=
  ⟨(Bx.init w N A n c p s l q).alloc _, by simp, by simp [go_sem], by simp [go_sem], by simp [go_sem], by simp [go_sem]⟩
theorem right_j {N : Int} {es : List Ed} {p s l q : Int} {S : St} (h : ¬ jchk N es p s l q = 0) : rightB N es p s l q S = false := by unfold rightB; rw [decide_eq_false h]; rfl
theorem right_s {N : Int} {es : List Ed} {p s l q : Int} {S : St} (h : S.step < 0 ∨ 40 < S.step) : rightB N es p s l q S = false := by
  unfold rightB; rw [decide_eq_false (show ¬ (0 ≤ S.step ∧ S.step ≤ 40) by omega)]; simp
theorem right_v {N : Int} {es : List Ed} {p s l q : Int} {S : St} (h : ¬ (S.vals.length : Int) = N) : rightB N es p s l q S = false := by
  unfold rightB; rw [decide_eq_false h]; simp
theorem right_r {N : Int} {es : List Ed} {p s l q : Int} {S : St} (h : ¬ (S.rest.length : Int) = N) : rightB N es p s l q S = false := by
  unfold rightB; rw [decide_eq_false h]; simp
theorem right_m {N : Int} {es : List Ed} {p s l q : Int} {S : St} (h0 : jchk N es p s l q = 0) (h1 : ¬ S.step < 0) (h2 : ¬ 40 < S.step) (h3 : (S.vals.length : Int) = N) (h4 : (S.rest.length : Int) = N) : rightB N es p s l q S = risB N (-1) S.inn := by
  unfold rightB; rw [decide_eq_true h0, decide_eq_true (show 0 ≤ S.step ∧ S.step ≤ 40 by omega), decide_eq_true h3, decide_eq_true h4]; rfl
set_option maxHeartbeats 1000000 in
theorem right_any (N : Int) (A : Option Addr) (n c : Nat) (es : List Ed) (p s l q : Int) (S : St) (A1 : Option Addr) (c1 : Nat) (A2 : Option Addr) (c2 : Nat) (A3 : Option Addr) (c3 : Nat) (w : World)
    (hA : Lies w w.heap.size 3 A n (ec es)) (hnc : n ≤ c) (hn : n ≤ maxLen) (hS : StL w w.heap.size S A1 c1 A2 c2 A3 c3) :
    Calls Tryz.prog 38 #[.agg #[.int .i64 N, .slice A n c], .agg #[.int .i64 p, .int .i64 s, .int .i64 l, .int .i64 q], .agg #[.int .i64 S.step, .slice A1 S.vals.length c1, .slice A2 S.rest.length c2, .slice A3 S.inn.length c3]] w fun e w' =>
      e = .returned (.bool (rightB N es p s l q S)) ∧ Below w.heap.size w w' := by
  have hbs := Bs.init w N A n c p s l q S A1 c1 A2 c2 A3 c3
  have hA1 := hA.next hbs.x.bl
  have HM := Lib.hid hS.m
  have hlm := hS.ok.lm
  have HBS := Lib.hid hbs
  clear hbs hS
  go_enter Tryz.func38, Tryz.ntmps38
  go_wp2_with fail
  refine (jcheck_any N A n c es p s l q _ hA1 hnc hn).mono ?_
  rintro e w1 ⟨rfl, hb1⟩
  have hs1 := HBS.out.next hb1
  have HB := Lib.hid hs1.x.bl
  by_cases hj : jchk N es p s l q = 0
  · have HJ := Lib.hid hj
    rw [hj]
    have s0 := hs1.s0
    have s1 := hs1.s1
    have s2 := hs1.s2
    have s3 := hs1.s3
    have g0 := hs1.x.g0
    clear hb1 hA1 HBS hs1 hj
    by_cases h1 : S.step < 0
    · have HF := Lib.hid (right_s (N := N) (es := es) (p := p) (s := s) (l := l) (q := q) (.inl h1))
      go_wp2_with fail
      go_ret
      exact ⟨ret_bool HF.out.symm, HB.out⟩
    · by_cases h2 : 40 < S.step
      · have HF := Lib.hid (right_s (N := N) (es := es) (p := p) (s := s) (l := l) (q := q) (.inr h2))
        go_wp2_with fail
        go_ret
        exact ⟨ret_bool HF.out.symm, HB.out⟩
      · by_cases h3 : (S.vals.length : Int) = N
        · by_cases h4 : (S.rest.length : Int) = N
          · have HF := Lib.hid (right_m HJ.out h1 h2 h3 h4)
            have h3' : ((S.vals.length : Int) == N) = true := by simpa using h3
            have h4' : ((S.rest.length : Int) == N) = true := by simpa using h4
            clear h3 h4
            go_wp2_with fail
            refine (rising_any N A3 c3 S.inn _ (HM.out.next HB.out) hlm).mono ?_
            rintro e w2 ⟨rfl, hb2⟩
            have HB2 := Lib.hid (HB.out.trans (hb2.mono HB.out.size))
            clear hb2
            go_wp2_with fail
            go_ret
            exact ⟨ret_bool (by rw [HF.out]), HB2.out⟩
          · have HF := Lib.hid (right_r (es := es) (p := p) (s := s) (l := l) (q := q) h4)
            have h3' : ((S.vals.length : Int) == N) = true := by simpa using h3
            have h4' : ((S.rest.length : Int) == N) = false := by simpa using h4
            clear h3 h4
            go_wp2_with fail
            go_ret
            exact ⟨ret_bool HF.out.symm, HB.out⟩
        · have HF := Lib.hid (right_v (es := es) (p := p) (s := s) (l := l) (q := q) h3)
          have h3' : ((S.vals.length : Int) == N) = false := by simpa using h3
          clear h3
          go_wp2_with fail
          go_ret
          exact ⟨ret_bool HF.out.symm, HB.out⟩
  · have HF := Lib.hid (right_j (S := S) hj)
    have h1 : (jchk N es p s l q != 0) = true := by simpa using hj
    clear hb1 hA1 HBS hs1 hj
    go_wp2_with fail
    go_ret
    exact ⟨ret_bool HF.out.symm, HB.out⟩
end Go.Proofs.YtpgdddjjjfkneaaGreatDoor


