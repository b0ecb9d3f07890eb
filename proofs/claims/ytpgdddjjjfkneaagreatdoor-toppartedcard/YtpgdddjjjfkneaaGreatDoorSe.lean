import Derived.Test.YtpgdddjjjfkneaaGreatDoorSd
namespace Go.Proofs.YtpgdddjjjfkneaaGreatDoor
open Go.RowKit
open Go.ChangeShapes Go.WideShapes Go.ChangeAt Go.RowKit
set_option linter.unusedVariables false

def allB (l : List Bool) : Bool := l.all fun b => b
def quietB (S : St) : Bool := decide (S.inn.length = 0) && allB S.rest
def beginR (N : Int) (es : List Ed) (p s l q : Int) : St × Int := if jchk N es p s l q = 0 then (beginS N p s, 0) else (noSt, jchk N es p s l q)
/-- The next state and 0, or the kind with which the run ends here. -/
def onwR (N : Int) (es : List Ed) (p s l q : Int) (S : St) : St × Int :=
  if quietB S = true then (noSt, 1) else if S.step = l then (noSt, 3) else if (stepR N es p s l q S).2 = 0 then ((stepR N es p s l q S).1, 0) else (noSt, 2)
/-- The run's state of Step k. -/
def stAt (N : Int) (es : List Ed) (p s l q : Int) : Nat → Option St
  | 0 => some (beginS N p s)
  | k + 1 => match stAt N es p s l q k with
    | some S => if (onwR N es p s l q S).2 = 0 then some (onwR N es p s l q S).1 else none
    | none => none
theorem startI_bd (p s v : Int) (h : bd v) : bd (startI p s v) := by
  unfold startI
  split
  · exact h
  · split
    · unfold markI
      have := wrap64_bd (wrap64 (wrap64 (31 * v) * v) + 7)
      unfold bd
      have h1 := Int.tmod_lt_of_pos (wrap64 (wrap64 (wrap64 (31 * v) * v) + 7)) (show (0 : Int) < 1009 by decide)
      have h2 := Int.lt_tmod_of_pos (wrap64 (wrap64 (wrap64 (31 * v) * v) + 7)) (show (0 : Int) < 1009 by decide)
      omega
    · split
      · exact ⟨by decide, by decide⟩
      · split
        · exact bd0
        · exact ⟨by decide, by decide⟩
theorem begin_ok {N p s : Int} (hN : N ≤ 24) : Ok (beginS N p s) := by
  refine ⟨bd0, ?_, fun e he => by simp [beginS] at he, ?_, ?_, by simp [beginS]⟩
  · intro x hx
    simp only [beginS, List.mem_map, List.mem_range] at hx
    obtain ⟨v, hv, rfl⟩ := hx
    exact startI_bd _ _ _ ⟨by omega, by omega⟩
  · simp [beginS]; omega
  · simp [beginS]; omega
/-! The run. -/
theorem stAt_next {N : Int} {es : List Ed} {p s l q : Int} {k : Nat} {S : St} (h : stAt N es p s l q k = some S) (h0 : (onwR N es p s l q S).2 = 0) : stAt N es p s l q (k + 1) = some (onwR N es p s l q S).1 := by
  show (match stAt N es p s l q k with | some S => if (onwR N es p s l q S).2 = 0 then some (onwR N es p s l q S).1 else none | none => none) = _
  rw [h]; simp only [h0, if_true]
theorem stAt_end {N : Int} {es : List Ed} {p s l q : Int} {k : Nat} {S : St} (h : stAt N es p s l q k = some S) (h0 : ¬ (onwR N es p s l q S).2 = 0) : ∀ n, k < n → stAt N es p s l q n = none := by
  intro n hn
  induction n with
  | zero => omega
  | succ n ih =>
    show (match stAt N es p s l q n with | some S => if (onwR N es p s l q S).2 = 0 then some (onwR N es p s l q S).1 else none | none => none) = _
    by_cases e : n = k
    · subst e; rw [h]; simp only [h0, if_false]
    · rw [ih (by omega)]
theorem stAt_prev {N : Int} {es : List Ed} {p s l q : Int} {k : Nat} {S : St} (h : stAt N es p s l q (k + 1) = some S) : ∃ S0, stAt N es p s l q k = some S0 ∧ (onwR N es p s l q S0).2 = 0 ∧ S = (onwR N es p s l q S0).1 := by
  have h' : (match stAt N es p s l q k with | some S => if (onwR N es p s l q S).2 = 0 then some (onwR N es p s l q S).1 else none | none => none) = some S := h
  cases hk : stAt N es p s l q k with
  | none => rw [hk] at h'; cases h'
  | some S0 =>
    rw [hk] at h'
    by_cases h0 : (onwR N es p s l q S0).2 = 0
    · simp only [h0, if_true] at h'
      injection h' with h'
      exact ⟨S0, rfl, h0, h'.symm⟩
    · simp only [h0, if_false] at h'
      cases h'
theorem onw_zero {N : Int} {es : List Ed} {p s l q : Int} {S : St} (h : (onwR N es p s l q S).2 = 0) : quietB S = false ∧ ¬ S.step = l ∧ (stepR N es p s l q S).2 = 0 ∧ (onwR N es p s l q S).1 = (stepR N es p s l q S).1 := by
  unfold onwR at h ⊢
  by_cases h1 : quietB S = true
  · rw [if_pos h1] at h; cases h
  · rw [if_neg h1] at h ⊢
    by_cases h2 : S.step = l
    · rw [if_pos h2] at h; cases h
    · rw [if_neg h2] at h ⊢
      by_cases h3 : (stepR N es p s l q S).2 = 0
      · rw [if_pos h3] at h ⊢
        exact ⟨by simpa using h1, h2, h3, rfl⟩
      · rw [if_neg h3] at h; cases h
theorem super_zero {N : Int} {es : List Ed} {p s l q : Int} {S : St} (h : (superR N es p s l q S).2 = 0) :
    errL (turnS N es p s l q S) N.toNat = 0 ∧ fdC p (sentL (turnS N es p s l q S) N.toNat) = 0 ∧
    (superR N es p s l q S).1 = ⟨S.step + 1, valsL (turnS N es p s l q S) N.toNat, restL (turnS N es p s l q S) N.toNat, fdR p (sentL (turnS N es p s l q S) N.toNat)⟩ := by
  unfold superR at h ⊢
  by_cases h1 : errL (turnS N es p s l q S) N.toNat = 0
  · rw [if_pos h1] at h ⊢
    by_cases h2 : fdC p (sentL (turnS N es p s l q S) N.toNat) = 0
    · rw [if_pos h2] at h ⊢
      exact ⟨h1, h2, rfl⟩
    · rw [if_neg h2] at h; exact absurd h h2
  · rw [if_neg h1] at h; exact absurd h h1
theorem onw_next {N : Int} {es : List Ed} {p s l q : Int} {S : St} (h : (onwR N es p s l q S).2 = 0) : (onwR N es p s l q S).1 = (superR N es p s l q S).1 ∧ (superR N es p s l q S).2 = 0 ∧ rightB N es p s l q S = true := by
  obtain ⟨_, _, h3, h4⟩ := onw_zero h
  obtain ⟨_, h5, _, h6⟩ := step_zero h3
  exact ⟨by rw [h4, h6], by rw [← h6]; exact h3, h5⟩
theorem stAt_step {N : Int} {es : List Ed} {p s l q : Int} (k : Nat) : ∀ {S : St}, stAt N es p s l q k = some S → S.step = k := by
  induction k with
  | zero => intro S h; injection h with h; subst h; rfl
  | succ k ih =>
    intro S h
    obtain ⟨S0, h0, h1, rfl⟩ := stAt_prev h
    obtain ⟨h2, h3, _⟩ := onw_next h1
    rw [h2, (super_zero h3).2.2]
    have := ih h0
    simp only [this]; omega
theorem stAt_le {N : Int} {es : List Ed} {p s l q : Int} (hl : 0 ≤ l) (k : Nat) : ∀ {S : St}, stAt N es p s l q k = some S → (k : Int) ≤ l := by
  induction k with
  | zero => intro S h; simpa using hl
  | succ k ih =>
    intro S h
    obtain ⟨S0, h0, h1, rfl⟩ := stAt_prev h
    have h2 := (onw_zero h1).2.1
    have h3 := ih h0
    rw [stAt_step k h0] at h2
    omega
/-- A run ends once. -/
theorem end_uniq {N : Int} {es : List Ed} {p s l q : Int} {k k' : Nat} {S S' : St} (h : stAt N es p s l q k = some S) (h0 : ¬ (onwR N es p s l q S).2 = 0) (h' : stAt N es p s l q k' = some S') (h0' : ¬ (onwR N es p s l q S').2 = 0) : k = k' ∧ S = S' := by
  have e : k = k' := by
    rcases Nat.lt_trichotomy k k' with hl | hl | hl
    · rw [stAt_end h h0 k' hl] at h'; cases h'
    · exact hl
    · rw [stAt_end h' h0' k hl] at h; cases h
  subst e
  rw [h] at h'
  injection h' with h'
  exact ⟨rfl, h'⟩
/-- The value at the beginning, or what is told. -/
def stV (N : Int) (es : List Ed) (p s l q v : Int) : Int := if vchk N es p s l q v = 0 then startI p s v else 0
set_option maxHeartbeats 1000000 in
theorem start_any (N : Int) (A : Option Addr) (n c : Nat) (es : List Ed) (p s l q v : Int) (w : World) (hA : Lies w w.heap.size 3 A n (ec es)) (hnc : n ≤ c) (hn : n ≤ maxLen) :
    Calls Tryz.prog 18 #[.agg #[.int .i64 N, .slice A n c], .agg #[.int .i64 p, .int .i64 s, .int .i64 l, .int .i64 q], .int .i64 v] w fun e w' =>
      e = .returned (.tuple #[.int .i64 (stV N es p s l q v), .int .i64 (vchk N es p s l q v)]) ∧ Below w.heap.size w w' := by
  have hbx := Bx.init w N A n c p s l q
  have hA1 := hA.next hbx.bl
  have HBX := Lib.hid hbx
  clear hbx
  by_cases hv : vchk N es p s l q v = 0
  · have HR := Lib.hid (show stV N es p s l q v = startI p s v by unfold stV; rw [if_pos hv])
    have HV := Lib.hid hv
    clear hv
    go_enter Tryz.func18, Tryz.ntmps18
    go_wp2_with fail
    refine (for_ok N A n c es p s l q v _ hA1 hnc hn HV.out).mono ?_
    rintro e w1 ⟨hb1, k0, k1, k2, k3, k4, k5, y, rfl, hP, hC⟩
    have hx1 := HBX.out.next hb1
    have hx2 := hx1.alloc (.cells #[.func (.func k0) #[] #[], .func (.func k1) #[] #[], .func (.func k2) #[] y, .func (.func k3) #[] #[], .func (.func k4) #[] #[], .func (.func k5) #[] #[]] 94)
    have HPR := Lib.hid hP
    have hc0 := hP.c0
    have H2 := Lib.hid hx2.bl
    have j1 := hx2.j1
    clear hP hC hb1 hx1 hx2 hA1 HBX
    go_wp2_with fail
    refine (HPR.out.start s v _).mono ?_
    rintro e w3 ⟨rfl, rfl⟩
    go_wp2_with fail
    go_ret2
    exact ⟨ret_ii HR.out.symm HV.out.symm, H2.out⟩
  · have HR := Lib.hid (show stV N es p s l q v = 0 by unfold stV; rw [if_neg hv])
    have hv1 : (vchk N es p s l q v != 0) = true := by simpa using hv
    have HV := Lib.hid hv
    clear hv
    go_enter Tryz.func18, Tryz.ntmps18
    go_wp2_with fail
    refine (for_no N A n c es p s l q v _ hA1 hnc hn HV.out).mono ?_
    rintro e w1 ⟨rfl, hb1⟩
    have H2 := Lib.hid ((HBX.out.next hb1).alloc (.cells #[.nilFunc, .nilFunc, .nilFunc, .nilFunc, .nilFunc, .nilFunc] 94)).bl
    clear hb1 hA1 HBX
    go_wp2_with fail
    go_ret2
    exact ⟨ret_ii HR.out.symm rfl, H2.out⟩
section
variable {w w' : World} {B B' : Nat} {S : St} {A1 : Option Addr} {c1 : Nat} {A2 : Option Addr} {c2 : Nat} {A3 : Option Addr} {c3 : Nat}
end
theorem allB_take (l : List Bool) (k : Nat) (h : k < l.length) : allB (l.take (k + 1)) = (allB (l.take k) && rAt l k) := by
  unfold allB
  rw [List.take_succ_eq_append_getElem h, List.all_append, rAt_get l k h]; simp
theorem allB_no (l : List Bool) (k : Nat) (h : k < l.length) (hf : rAt l k = false) : allB l = false := by
  unfold allB
  rw [List.all_eq_false]
  exact ⟨l[k], List.getElem_mem h, by rw [← rAt_get l k h]; simpa using hf⟩
def IxRel (l : List Bool) (w : World) (i : Value) (W : World) : Prop := ∃ k : Nat, i = .int .i64 k ∧ k ≤ l.length ∧ allB (l.take k) = true ∧ W = w
set_option maxHeartbeats 1000000 in
theorem index_any (A : Option Addr) (c : Nat) (l : List Bool) (w : World) (hA : Lies w w.heap.size 1 A l.length (rc l)) (hn : l.length ≤ 1000000) :
    Calls Tryz.prog 100 #[.slice A l.length c, .bool false] w fun e w' => (∃ i : Int, e = .returned (.int .i64 i) ∧ decide (0 ≤ i) = !allB l) ∧ w = w' := by
  go_enter Tryz.func100, Tryz.ntmps100
  go_wp2_with fail
  go_loopw [8] (fun i W => IxRel l w i W) (fun i W => l.length - (intOf i).toNat)
  case atStart => exact ⟨0, rfl, Nat.zero_le _, rfl, rfl⟩
  case round =>
    obtain ⟨k, rfl, hk, hpre, rfl⟩ := hrel
    by_cases hlt : k < l.length
    · obtain ⟨ad, rfl, hadb, e0⟩ := hA.rs k hlt
      have hkl : (k : Int) < (l.length : Int) := by omega
      have HP := Lib.hid hpre
      clear hpre
      cases hr : rAt l k with
      | true =>
        rw [hr] at e0
        have HT := Lib.hid (show allB (l.take (k + 1)) = true by rw [allB_take l k hlt, HP.out, hr]; rfl)
        go_wp2_with fail
        go_roundw
        case rel => exact ⟨k + 1, by go_num, by omega, HT.out, rfl⟩
        case measure => simp [intOf]; omega
      | false =>
        rw [hr] at e0
        have HT := Lib.hid (allB_no l k hlt hr)
        go_wp2_with fail
        go_ret
        exact ⟨⟨k, rfl, by rw [HT.out]; simp⟩, rfl⟩
    · have hk' : k = l.length := by omega
      subst hk'
      have HT := Lib.hid (show allB l = true by rw [List.take_length] at hpre; exact hpre)
      clear hpre
      go_wp2_with fail
      go_ret
      exact ⟨⟨-1, rfl, by rw [HT.out]; rfl⟩, rfl⟩
theorem contains_any (A : Option Addr) (c : Nat) (l : List Bool) (w : World) (hA : Lies w w.heap.size 1 A l.length (rc l)) (hn : l.length ≤ 1000000) :
    Calls Tryz.prog 58 #[.slice A l.length c, .bool false] w fun e w' => e = .returned (.bool (!allB l)) ∧ w = w' := by
  go_enter Tryz.func58, Tryz.ntmps58
  go_wp2_with fail
  refine (index_any A c l _ hA hn).mono ?_
  rintro e w1 ⟨⟨i, rfl, hi⟩, rfl⟩
  have HI := Lib.hid hi
  clear hi
  go_wp2_with fail
  go_ret
  exact ⟨ret_bool HI.out, rfl⟩
theorem quiet_no {S : St} (h : ¬ S.inn.length = 0) : quietB S = false := by unfold quietB; simp; intro h'; exact absurd (by simpa using h') h
theorem quiet_yes {S : St} (h : S.inn.length = 0) : quietB S = allB S.rest := by unfold quietB; rw [decide_eq_true h]; rfl
set_option maxHeartbeats 1000000 in
theorem quiet_any (S : St) (A1 : Option Addr) (c1 : Nat) (A2 : Option Addr) (c2 : Nat) (A3 : Option Addr) (c3 : Nat) (w : World) (hS : StL w w.heap.size S A1 c1 A2 c2 A3 c3) :
    Calls Tryz.prog 32 #[.agg #[.int .i64 S.step, .slice A1 S.vals.length c1, .slice A2 S.rest.length c2, .slice A3 S.inn.length c3]] w fun e w' => e = .returned (.bool (quietB S)) ∧ Below w.heap.size w w' := by
  have hb := below_alloc w (.cells #[.int .i64 S.step, .slice A1 S.vals.length c1, .slice A2 S.rest.length c2, .slice A3 S.inn.length c3] 39)
  have HR := Lib.hid (hS.next hb).r
  have hlr := hS.ok.lr
  have hlm := hS.ok.lm
  by_cases h0 : S.inn.length = 0
  · have HQ := Lib.hid (quiet_yes h0)
    rw [h0] at HR hb ⊢
    clear hS hlm
    go_enter Tryz.func32, Tryz.ntmps32
    go_wp2_with fail
    refine (contains_any A2 c2 S.rest _ HR.out hlr).mono ?_
    rintro e w1 ⟨rfl, rfl⟩
    go_wp2_with fail
    go_ret
    exact ⟨ret_bool (by rw [HQ.out]), hb⟩
  · have HQ := Lib.hid (quiet_no h0)
    have h1 : ((S.inn.length : Int) == 0) = false := by simp; intro h; exact h0 (by rw [h]; rfl)
    clear hS h0
    go_enter Tryz.func32, Tryz.ntmps32
    go_wp2_with fail
    go_ret
    exact ⟨ret_bool HQ.out.symm, hb⟩
def RqRel (l : List Bool) (w1 : World) (i : Value) (W : World) : Prop := ∃ k : Nat, i = .int .i64 k ∧ k ≤ l.length ∧ allB (l.take k) = true ∧ W = w1
set_option maxHeartbeats 1000000 in
theorem rquiet_any (S : St) (A1 : Option Addr) (c1 : Nat) (A2 : Option Addr) (c2 : Nat) (A3 : Option Addr) (c3 : Nat) (w : World) (hS : StL w w.heap.size S A1 c1 A2 c2 A3 c3) :
    Calls Tryz.prog 9 #[.agg #[.int .i64 S.step, .slice A1 S.vals.length c1, .slice A2 S.rest.length c2, .slice A3 S.inn.length c3]] w fun e w' => e = .returned (.bool (quietB S)) ∧ Below w.heap.size w w' := by
  have hb := below_alloc w (.cells #[.int .i64 S.step, .slice A1 S.vals.length c1, .slice A2 S.rest.length c2, .slice A3 S.inn.length c3] 39)
  have hR := (hS.next hb).r
  have hlr := hS.ok.lr
  have hlm := hS.ok.lm
  have s2 : (w.alloc (.cells #[.int .i64 S.step, .slice A1 S.vals.length c1, .slice A2 S.rest.length c2, .slice A3 S.inn.length c3] 39)).cell? ⟨w.heap.size, 2, none⟩ = some (.slice A2 S.rest.length c2) := by simp [go_sem]
  have s3 : (w.alloc (.cells #[.int .i64 S.step, .slice A1 S.vals.length c1, .slice A2 S.rest.length c2, .slice A3 S.inn.length c3] 39)).cell? ⟨w.heap.size, 3, none⟩ = some (.slice A3 S.inn.length c3) := by simp [go_sem]
  clear hS
  go_enter Tryz.func9, Tryz.ntmps9
  go_wp2_with fail
  generalize w.alloc (.cells #[.int .i64 S.step, .slice A1 S.vals.length c1, .slice A2 S.rest.length c2, .slice A3 S.inn.length c3] 39) = w1 at *
  have HB := Lib.hid hb
  clear hb
  go_loopw [3] (fun i W => RqRel S.rest w1 i W) (fun i W => S.rest.length - (intOf i).toNat)
  case atStart => exact ⟨0, rfl, Nat.zero_le _, rfl, rfl⟩
  case round =>
    obtain ⟨k, rfl, hk, hpre, rfl⟩ := hrel
    by_cases hlt : k < S.rest.length
    · obtain ⟨ad, rfl, hadb, e0⟩ := hR.rs k hlt
      have hkl : (k : Int) < (S.rest.length : Int) := by omega
      have HP := Lib.hid hpre
      clear hpre
      cases hr : rAt S.rest k with
      | true =>
        rw [hr] at e0
        have HT := Lib.hid (show allB (S.rest.take (k + 1)) = true by rw [allB_take _ k hlt, HP.out, hr]; rfl)
        go_wp2_with fail
        go_roundw
        case rel => exact ⟨k + 1, by go_num, by omega, HT.out, rfl⟩
        case measure => simp [intOf]; omega
      | false =>
        rw [hr] at e0
        have HT := Lib.hid (show quietB S = false by unfold quietB; rw [allB_no _ k hlt hr]; simp)
        go_wp2_with fail
        go_ret
        exact ⟨ret_bool HT.out.symm, HB.out⟩
    · have hk' : k = S.rest.length := by omega
      subst hk'
      have HT := Lib.hid (show allB S.rest = true by rw [List.take_length] at hpre; exact hpre)
      clear hpre
      go_wp2_with fail
      go_ret
      exact ⟨ret_bool (by unfold quietB; rw [HT.out, Bool.and_true, Bool.eq_iff_iff, beq_iff_eq, decide_eq_true_eq]; omega), HB.out⟩
def SvRel (n : Nat) (w : World) (i : Value) (W : World) : Prop := ∃ k : Nat, i = .int .i64 k ∧ k ≤ n ∧ ∃ q, W = w.drewN q
set_option maxHeartbeats 1000000 in
theorem sameV_yes (A : Option Addr) (c : Nat) (A' : Option Addr) (c' : Nat) (l : List Int) (w : World) (hA : Lies w w.heap.size 1 A l.length (vc l)) (hA' : Lies w w.heap.size 1 A' l.length (vc l)) (hn : l.length ≤ 1000000) :
    Calls Tryz.prog 19 #[.slice A l.length c, .slice A' l.length c'] w fun e w' => e = .returned (.bool true) ∧ Below w.heap.size w w' := by
  go_enter Tryz.func19, Tryz.ntmps19
  go_wp2_with fail
  go_loopw [5] (fun i W => SvRel l.length w i W) (fun i W => l.length - (intOf i).toNat)
  case atStart => exact ⟨0, rfl, Nat.zero_le _, 0, rfl⟩
  case round =>
    obtain ⟨k, rfl, hk, q, rfl⟩ := hrel
    by_cases hlt : k < l.length
    · obtain ⟨ad, rfl, hadb, e0⟩ := hA.vs k hlt
      obtain ⟨ad', rfl, hadb', e0'⟩ := hA'.vs k hlt
      have hkl : (k : Int) < (l.length : Int) := by omega
      go_wp2_with fail
      go_quiet (fail)
      go_wp2_with fail
      go_roundw
      case rel => exact ⟨k + 1, by go_num, by omega, q + nq, rfl⟩
      case measure => simp [intOf]; omega
    · have hk' : k = l.length := by omega
      subst hk'
      go_wp2_with fail
      go_ret
      exact ⟨rfl, ⟨rfl, rfl, rfl, Nat.le_refl _, fun _ _ => rfl⟩⟩
section
variable {w : World} {S : St} {A1 : Option Addr} {c1 : Nat} {A2 : Option Addr} {c2 : Nat} {A3 : Option Addr} {c3 : Nat} {S' : St} {D1 : Option Addr} {d1 : Nat} {D2 : Option Addr} {d2 : Nat} {D3 : Option Addr} {d3 : Nat} {W W' : World}
end
set_option maxHeartbeats 1000000 in
theorem sameA_yes (kd st : Int) (vs : List Int) (A1 : Option Addr) (c1 : Nat) (D1 : Option Addr) (d1 : Nat) (w : World) (hS : Lies w w.heap.size 1 A1 vs.length (vc vs)) (hD : Lies w w.heap.size 1 D1 vs.length (vc vs)) (hn : vs.length ≤ 1000000) :
    Calls Tryz.prog 10 #[.agg #[.int .i64 kd, .int .i64 st, .slice A1 vs.length c1], .agg #[.int .i64 kd, .int .i64 st, .slice D1 vs.length d1]] w fun e w' => e = .returned (.bool true) ∧ Below w.heap.size w w' := by
  have hb := ((Below.refl w.heap.size w).alloc (Nat.le_refl _) (.cells #[.int .i64 kd, .int .i64 st, .slice A1 vs.length c1] 33)).alloc (by simp) (.cells #[.int .i64 kd, .int .i64 st, .slice D1 vs.length d1] 33)
  have HS := Lib.hid (hS.next hb)
  have HD := Lib.hid (hD.next hb)
  have HB := Lib.hid hb
  clear hb hS hD
  go_enter Tryz.func10, Tryz.ntmps10
  go_wp2_with fail
  refine (sameV_yes A1 c1 D1 d1 vs _ HS.out HD.out hn).mono ?_
  rintro e w1 ⟨rfl, hb1⟩
  have HB1 := Lib.hid (HB.out.trans (hb1.mono HB.out.size))
  clear hb1
  go_wp2_with fail
  go_ret
  exact ⟨rfl, HB1.out⟩
set_option maxRecDepth 20000 in
set_option maxHeartbeats 2000000 in
theorem step_any (N : Int) (A : Option Addr) (n c : Nat) (es : List Ed) (p s l q : Int) (S : St) (A1 : Option Addr) (c1 : Nat) (A2 : Option Addr) (c2 : Nat) (A3 : Option Addr) (c3 : Nat) (w : World)
    (hA : Lies w w.heap.size 3 A n (ec es)) (hnc : n ≤ c) (hn : n ≤ maxLen) (hS : StL w w.heap.size S A1 c1 A2 c2 A3 c3) :
    Calls Tryz.prog 33 #[.agg #[.int .i64 N, .slice A n c], .agg #[.int .i64 p, .int .i64 s, .int .i64 l, .int .i64 q], .agg #[.int .i64 S.step, .slice A1 S.vals.length c1, .slice A2 S.rest.length c2, .slice A3 S.inn.length c3]] w (StPost (stepR N es p s l q S) w) := by
  obtain ⟨w4, hw4⟩ : ∃ w4, w4 = (((w.alloc (.cells #[.int .i64 N, .slice A n c] 27)).alloc (.cells #[.int .i64 p, .int .i64 s, .int .i64 l, .int .i64 q] 23)).alloc (.cells #[.int .i64 S.step, .slice A1 S.vals.length c1, .slice A2 S.rest.length c2, .slice A3 S.inn.length c3] 39)).alloc (.cells #[.int .i64 0, .slice none 0 0, .slice none 0 0, .slice none 0 0] 39) := ⟨_, rfl⟩
  have hbs : Bs w N A n c p s l q S A1 c1 A2 c2 A3 c3 w4 := by rw [hw4]; exact (Bs.init w N A n c p s l q S A1 c1 A2 c2 A3 c3).alloc _
  have H4 := Lib.hid (fun (W : World) (hb : Below w4.heap.size w4 W) => fourth w _ _ _ _ W (by rw [hw4] at hb; exact hb))
  have HBS := Lib.hid hbs
  have HS := Lib.hid (hS.next hbs.x.bl)
  have HA := Lib.hid (hA.next hbs.x.bl)
  clear hbs hS hA
  go_enter Tryz.func33, Tryz.ntmps33
  go_wp2_with fail
  rw [← hw4]
  clear hw4
  refine (jcheck_any N A n c es p s l q _ HA.out hnc hn).mono ?_
  rintro e w5 ⟨rfl, hb5⟩
  have HB5 := Lib.hid hb5
  have hx := HBS.out.next hb5
  have HB := Lib.hid hx.x.bl
  by_cases hj : jchk N es p s l q = 0
  · rw [hj]
    have HJ := Lib.hid hj
    have g0 := hx.x.g0
    have g1 := hx.x.g1
    have j0 := hx.x.j0
    have j1 := hx.x.j1
    have j2 := hx.x.j2
    have j3 := hx.x.j3
    have s0 := hx.s0
    have s1 := hx.s1
    have s2 := hx.s2
    have s3 := hx.s3
    clear hx hb5 hj
    go_wp2_with fail
    refine (right_any N A n c es p s l q S A1 c1 A2 c2 A3 c3 _ (HA.out.next HB5.out) hnc hn (HS.out.next HB5.out)).mono ?_
    rintro e w6 ⟨rfl, hb6⟩
    have HB6 := Lib.hid (HB5.out.trans (hb6.mono HB5.out.size))
    have hx := HBS.out.next HB6.out
    have HBW := Lib.hid hx.x.bl
    clear HB5 HB hb6 g0 g1 j0 j1 j2 j3 s0 s1 s2 s3
    cases hr : rightB N es p s l q S with
    | true =>
      have HRT := Lib.hid hr
      have g0 := hx.x.g0
      have g1 := hx.x.g1
      have j0 := hx.x.j0
      have j1 := hx.x.j1
      have j2 := hx.x.j2
      have j3 := hx.x.j3
      have s0 := hx.s0
      have s1 := hx.s1
      have s2 := hx.s2
      have s3 := hx.s3
      clear hx hr
      by_cases h40 : S.step = 40
      · have HR := Lib.hid (show stepR N es p s l q S = (noSt, 6) by unfold stepR; rw [if_pos HJ.out, if_pos HRT.out, if_pos h40])
        have z2 := H4.out w6 HB6.out
        have r0 := cell_of_row w6 _ 0 _ 39 (0, 0) z2
        have f0 := unfrozen z2 0
        have r1 := cell_of_row w6 _ 1 _ 39 (0, 0) z2
        have f1 := unfrozen z2 1
        have r2 := cell_of_row w6 _ 2 _ 39 (0, 0) z2
        have f2 := unfrozen z2 2
        have r3 := cell_of_row w6 _ 3 _ 39 (0, 0) z2
        have f3 := unfrozen z2 3
        rw [h40] at s0
        clear z2 h40 g0 g1 j0 j1 j2 j3 s1 s2 s3
        go_wp2_with fail
        refine bodyPost_ret (v := .tuple #[.agg #[.int .i64 0, .slice none 0 0, .slice none 0 0, .slice none 0 0], .int .i64 6]) (by simp [results, Tryz.results33, go_sem, r0, r1, r2, r3]) rfl ?_
        exact st_no HR.out ((((HBW.out.setCell (by simp; omega) _).setCell (by simp; omega) _).setCell (by simp; omega) _).setCell (by simp; omega) _)
      · have HR := Lib.hid (show stepR N es p s l q S = superR N es p s l q S by unfold stepR; rw [if_pos HJ.out, if_pos HRT.out, if_neg h40])
        have h41 : (S.step == 40) = false := by simpa using h40
        have H40 := Lib.hid h40
        clear h40
        go_wp2_with fail
        refine (super_any N A n c es p s l q S A1 c1 A2 c2 A3 c3 _ (HA.out.next HB6.out) hnc hn (HS.out.next HB6.out) HRT.out H40.out).mono ?_
        rintro e w7 ⟨hb7, X1, x1, X2, x2, X3, x3, rfl, hs7, f1, f2, f3⟩
        have HB7 := Lib.hid (HB6.out.trans (hb7.mono HB6.out.size))
        have z2 := H4.out w7 HB7.out
        have HFX := Lib.hid (show Fr w6.heap.size X1 ∧ Fr w6.heap.size X2 ∧ Fr w6.heap.size X3 from ⟨f1, f2, f3⟩)
        have HLTX := Lib.hid (show w.heap.size + 1 + 1 + 1 < w6.heap.size from lt_of_block (H4.out w6 HB6.out))
        have HLTW := Lib.hid HBW.out.size
        have HS9 := Lib.hid hs7
        have HBW7 := Lib.hid (HBS.out.next HB7.out).x.bl
        clear f1 f2 f3 hs7 hb7
        have r0 := cell_of_row w7 _ 0 _ 39 (0, 0) z2
        have f0 := unfrozen z2 0
        have r1 := cell_of_row w7 _ 1 _ 39 (0, 0) z2
        have f1 := unfrozen z2 1
        have r2 := cell_of_row w7 _ 2 _ 39 (0, 0) z2
        have f2 := unfrozen z2 2
        have r3 := cell_of_row w7 _ 3 _ 39 (0, 0) z2
        have f3 := unfrozen z2 3
        clear z2 g0 g1 j0 j1 j2 j3 s0 s1 s2 s3
        obtain ⟨tt, htt⟩ : ∃ tt, tt = superR N es p s l q S := ⟨_, rfl⟩
        rw [← htt] at HR HS9 ⊢
        clear htt
        obtain ⟨t, te⟩ := tt
        dsimp only at HS9 ⊢
        go_wp2_with fail
        refine bodyPost_ret (v := .tuple #[.agg #[.int .i64 t.step, .slice X1 t.vals.length x1, .slice X2 t.rest.length x2, .slice X3 t.inn.length x3], .int .i64 te]) (by simp [results, Tryz.results33, go_sem, r0, r1, r2, r3]) rfl ?_
        rw [HR.out]
        exact ⟨((((HBW7.out.setCell (by simp; omega) _).setCell (by simp; omega) _).setCell (by simp; omega) _).setCell (by simp; omega) _), X1, x1, X2, x2, X3, x3, rfl, ((((((((HS9.out.set (b := w.heap.size + 1 + 1 + 1) (i := 0) HFX.out.1 HFX.out.2.1 HFX.out.2.2 HLTX.out (.int .i64 t.step)).size).set (b := w.heap.size + 1 + 1 + 1) (i := 1) HFX.out.1 HFX.out.2.1 HFX.out.2.2 HLTX.out (.slice X1 t.vals.length x1)).size).set (b := w.heap.size + 1 + 1 + 1) (i := 2) HFX.out.1 HFX.out.2.1 HFX.out.2.2 HLTX.out (.slice X2 t.rest.length x2)).size).set (b := w.heap.size + 1 + 1 + 1) (i := 3) HFX.out.1 HFX.out.2.1 HFX.out.2.2 HLTX.out (.slice X3 t.inn.length x3)).size), HFX.out.1.low HLTW.out, HFX.out.2.1.low HLTW.out, HFX.out.2.2.low HLTW.out⟩
    | false =>
      have HR := Lib.hid (show stepR N es p s l q S = (noSt, 1) by unfold stepR; rw [if_pos HJ.out, hr]; rfl)
      have z2 := H4.out w6 HB6.out
      have r0 := cell_of_row w6 _ 0 _ 39 (0, 0) z2
      have f0 := unfrozen z2 0
      have r1 := cell_of_row w6 _ 1 _ 39 (0, 0) z2
      have f1 := unfrozen z2 1
      have r2 := cell_of_row w6 _ 2 _ 39 (0, 0) z2
      have f2 := unfrozen z2 2
      have r3 := cell_of_row w6 _ 3 _ 39 (0, 0) z2
      have f3 := unfrozen z2 3
      clear z2 hr hx
      go_wp2_with fail
      refine bodyPost_ret (v := .tuple #[.agg #[.int .i64 0, .slice none 0 0, .slice none 0 0, .slice none 0 0], .int .i64 1]) (by simp [results, Tryz.results33, go_sem, r0, r1, r2, r3]) rfl ?_
      exact st_no HR.out ((((HBW.out.setCell (by simp; omega) _).setCell (by simp; omega) _).setCell (by simp; omega) _).setCell (by simp; omega) _)
  · have HR := Lib.hid (show stepR N es p s l q S = (noSt, jchk N es p s l q) by unfold stepR; rw [if_neg hj])
    have hj1 : (jchk N es p s l q != 0) = true := by simpa using hj
    have z2 := H4.out w5 HB5.out
    have r0 := cell_of_row w5 _ 0 _ 39 (0, 0) z2
    have f0 := unfrozen z2 0
    have r1 := cell_of_row w5 _ 1 _ 39 (0, 0) z2
    have f1 := unfrozen z2 1
    have r2 := cell_of_row w5 _ 2 _ 39 (0, 0) z2
    have f2 := unfrozen z2 2
    have r3 := cell_of_row w5 _ 3 _ 39 (0, 0) z2
    have f3 := unfrozen z2 3
    clear z2 hj hx hb5
    go_wp2_with fail
    refine bodyPost_ret (v := .tuple #[.agg #[.int .i64 0, .slice none 0 0, .slice none 0 0, .slice none 0 0], .int .i64 (jchk N es p s l q)]) (by simp [results, Tryz.results33, go_sem, r0, r1, r2, r3]) rfl ?_
    exact st_no HR.out ((((HB.out.setCell (by simp; omega) _).setCell (by simp; omega) _).setCell (by simp; omega) _).setCell (by simp; omega) _)
set_option maxRecDepth 20000 in
set_option maxHeartbeats 2000000 in
theorem onward_any (N : Int) (A : Option Addr) (n c : Nat) (es : List Ed) (p s l q : Int) (S : St) (A1 : Option Addr) (c1 : Nat) (A2 : Option Addr) (c2 : Nat) (A3 : Option Addr) (c3 : Nat) (w : World)
    (hA : Lies w w.heap.size 3 A n (ec es)) (hnc : n ≤ c) (hn : n ≤ maxLen) (hS : StL w w.heap.size S A1 c1 A2 c2 A3 c3) :
    Calls Tryz.prog 15 #[.agg #[.int .i64 N, .slice A n c], .agg #[.int .i64 p, .int .i64 s, .int .i64 l, .int .i64 q], .agg #[.int .i64 S.step, .slice A1 S.vals.length c1, .slice A2 S.rest.length c2, .slice A3 S.inn.length c3]] w (StPost (onwR N es p s l q S) w) := by
  obtain ⟨w4, hw4⟩ : ∃ w4, w4 = (((w.alloc (.cells #[.int .i64 N, .slice A n c] 27)).alloc (.cells #[.int .i64 p, .int .i64 s, .int .i64 l, .int .i64 q] 23)).alloc (.cells #[.int .i64 S.step, .slice A1 S.vals.length c1, .slice A2 S.rest.length c2, .slice A3 S.inn.length c3] 39)).alloc (.cells #[.int .i64 0, .slice none 0 0, .slice none 0 0, .slice none 0 0] 39) := ⟨_, rfl⟩
  have hbs : Bs w N A n c p s l q S A1 c1 A2 c2 A3 c3 w4 := by rw [hw4]; exact (Bs.init w N A n c p s l q S A1 c1 A2 c2 A3 c3).alloc _
  have H4 := Lib.hid (fun (W : World) (hb : Below w4.heap.size w4 W) => fourth w _ _ _ _ W (by rw [hw4] at hb; exact hb))
  have HBS := Lib.hid hbs
  have HS := Lib.hid (hS.next hbs.x.bl)
  have HA := Lib.hid (hA.next hbs.x.bl)
  clear hbs hS hA
  go_enter Tryz.func15, Tryz.ntmps15
  go_wp2_with fail
  rw [← hw4]
  clear hw4
  refine (quiet_any S A1 c1 A2 c2 A3 c3 _ HS.out).mono ?_
  rintro e w5 ⟨rfl, hb5⟩
  have HB5 := Lib.hid hb5
  have hx := HBS.out.next hb5
  have HB := Lib.hid hx.x.bl
  cases hq : quietB S with
  | true =>
    have HR := Lib.hid (show onwR N es p s l q S = (noSt, 1) by unfold onwR; rw [if_pos hq])
    have z2 := H4.out w5 HB5.out
    have r0 := cell_of_row w5 _ 0 _ 39 (0, 0) z2
    have f0 := unfrozen z2 0
    have r1 := cell_of_row w5 _ 1 _ 39 (0, 0) z2
    have f1 := unfrozen z2 1
    have r2 := cell_of_row w5 _ 2 _ 39 (0, 0) z2
    have f2 := unfrozen z2 2
    have r3 := cell_of_row w5 _ 3 _ 39 (0, 0) z2
    have f3 := unfrozen z2 3
    clear z2 hx hb5 hq
    go_wp2_with fail
    refine bodyPost_ret (v := .tuple #[.agg #[.int .i64 0, .slice none 0 0, .slice none 0 0, .slice none 0 0], .int .i64 1]) (by simp [results, Tryz.results15, go_sem, r0, r1, r2, r3]) rfl ?_
    exact st_no HR.out ((((HB.out.setCell (by simp; omega) _).setCell (by simp; omega) _).setCell (by simp; omega) _).setCell (by simp; omega) _)
  | false =>
    have HQ := Lib.hid (show ¬ quietB S = true by rw [hq]; decide)
    have g0 := hx.x.g0
    have g1 := hx.x.g1
    have j0 := hx.x.j0
    have j1 := hx.x.j1
    have j2 := hx.x.j2
    have j3 := hx.x.j3
    have s0 := hx.s0
    have s1 := hx.s1
    have s2 := hx.s2
    have s3 := hx.s3
    clear hx hb5 hq
    by_cases hl : S.step = l
    · have HR := Lib.hid (show onwR N es p s l q S = (noSt, 3) by unfold onwR; rw [if_neg HQ.out, if_pos hl])
      have z2 := H4.out w5 HB5.out
      have r0 := cell_of_row w5 _ 0 _ 39 (0, 0) z2
      have f0 := unfrozen z2 0
      have r1 := cell_of_row w5 _ 1 _ 39 (0, 0) z2
      have f1 := unfrozen z2 1
      have r2 := cell_of_row w5 _ 2 _ 39 (0, 0) z2
      have f2 := unfrozen z2 2
      have r3 := cell_of_row w5 _ 3 _ 39 (0, 0) z2
      have f3 := unfrozen z2 3
      have hl1 : (S.step == l) = true := by simpa using hl
      clear z2 g0 g1 j0 j1 j3 s1 s2 s3 hl
      go_wp2_with fail
      refine bodyPost_ret (v := .tuple #[.agg #[.int .i64 0, .slice none 0 0, .slice none 0 0, .slice none 0 0], .int .i64 3]) (by simp [results, Tryz.results15, go_sem, r0, r1, r2, r3]) rfl ?_
      exact st_no HR.out ((((HB.out.setCell (by simp; omega) _).setCell (by simp; omega) _).setCell (by simp; omega) _).setCell (by simp; omega) _)
    · have hl1 : (S.step == l) = false := by simpa using hl
      have HL := Lib.hid hl
      clear hl
      go_wp2_with fail
      refine (step_any N A n c es p s l q S A1 c1 A2 c2 A3 c3 _ (HA.out.next HB5.out) hnc hn (HS.out.next HB5.out)).mono ?_
      rintro e w6 ⟨hb6, X1, x1, X2, x2, X3, x3, rfl, hs6, f1, f2, f3⟩
      have HR := Lib.hid (show onwR N es p s l q S = if (stepR N es p s l q S).2 = 0 then ((stepR N es p s l q S).1, 0) else (noSt, 2) by unfold onwR; rw [if_neg HQ.out, if_neg HL.out])
      obtain ⟨tt, htt⟩ : ∃ tt, tt = stepR N es p s l q S := ⟨_, rfl⟩
      rw [← htt] at HR hs6 ⊢
      clear htt
      obtain ⟨t, te⟩ := tt
      dsimp only at hs6 HR ⊢
      obtain ⟨o, ho⟩ : ∃ o : Obj, o = .cells #[.int .i64 t.step, .slice X1 t.vals.length x1, .slice X2 t.rest.length x2, .slice X3 t.inn.length x3] 39 := ⟨_, rfl⟩
      have HB7 := Lib.hid ((HB5.out.trans (hb6.mono HB5.out.size)).alloc (Nat.le_trans HB5.out.size hb6.size) o)
      have z2 := H4.out _ HB7.out
      have HFX := Lib.hid (show Fr w5.heap.size X1 ∧ Fr w5.heap.size X2 ∧ Fr w5.heap.size X3 from ⟨f1, f2, f3⟩)
      have HLTX := Lib.hid (show w.heap.size + 1 + 1 + 1 < w5.heap.size from lt_of_block (H4.out w5 HB5.out))
      have HLTW := Lib.hid HB.out.size
      have HS9 := Lib.hid (hs6.next (below_alloc w6 o))
      have HBW7 := Lib.hid (HBS.out.next HB7.out).x.bl
      have n0 : (w6.alloc o).cell? ⟨w6.heap.size, 0, none⟩ = some (.int .i64 t.step) := by rw [ho]; simp [go_sem]
      have n1 : (w6.alloc o).cell? ⟨w6.heap.size, 1, none⟩ = some (.slice X1 t.vals.length x1) := by rw [ho]; simp [go_sem]
      have n2 : (w6.alloc o).cell? ⟨w6.heap.size, 2, none⟩ = some (.slice X2 t.rest.length x2) := by rw [ho]; simp [go_sem]
      have n3 : (w6.alloc o).cell? ⟨w6.heap.size, 3, none⟩ = some (.slice X3 t.inn.length x3) := by rw [ho]; simp [go_sem]
      clear f1 f2 f3 hs6 hb6 g0 g1 j0 j1 j2 j3 s0 s1 s2 s3 hl1
      go_upto_region 6 with fail
      rw [← ho]
      clear ho
      generalize w6.alloc o = W7 at HB7 z2 HS9 HBW7 n0 n1 n2 n3 ⊢
      have r0 := cell_of_row W7 _ 0 _ 39 (0, 0) z2
      have f0 := unfrozen z2 0
      have r1 := cell_of_row W7 _ 1 _ 39 (0, 0) z2
      have f1 := unfrozen z2 1
      have r2 := cell_of_row W7 _ 2 _ 39 (0, 0) z2
      have f2 := unfrozen z2 2
      have r3 := cell_of_row W7 _ 3 _ 39 (0, 0) z2
      have f3 := unfrozen z2 3
      clear z2
      by_cases he : te = 0
      · subst he
        have HR2 := Lib.hid (HR.out.trans (if_pos rfl))
        clear HR
        go_wp2_with fail
        refine bodyPost_ret (v := .tuple #[.agg #[.int .i64 t.step, .slice X1 t.vals.length x1, .slice X2 t.rest.length x2, .slice X3 t.inn.length x3], .int .i64 0]) (by simp [results, Tryz.results15, go_sem, r0, r1, r2, r3]) rfl ?_
        rw [HR2.out]
        exact ⟨((((HBW7.out.setCell (by simp; omega) _).setCell (by simp; omega) _).setCell (by simp; omega) _).setCell (by simp; omega) _), X1, x1, X2, x2, X3, x3, rfl, ((((((((HS9.out.set (b := w.heap.size + 1 + 1 + 1) (i := 0) HFX.out.1 HFX.out.2.1 HFX.out.2.2 HLTX.out (.int .i64 t.step)).size).set (b := w.heap.size + 1 + 1 + 1) (i := 1) HFX.out.1 HFX.out.2.1 HFX.out.2.2 HLTX.out (.slice X1 t.vals.length x1)).size).set (b := w.heap.size + 1 + 1 + 1) (i := 2) HFX.out.1 HFX.out.2.1 HFX.out.2.2 HLTX.out (.slice X2 t.rest.length x2)).size).set (b := w.heap.size + 1 + 1 + 1) (i := 3) HFX.out.1 HFX.out.2.1 HFX.out.2.2 HLTX.out (.slice X3 t.inn.length x3)).size), HFX.out.1.low HLTW.out, HFX.out.2.1.low HLTW.out, HFX.out.2.2.low HLTW.out⟩
      · have HR2 := Lib.hid (HR.out.trans (if_neg he))
        have he1 : (te != 0) = true := by simpa using he
        clear HR he n0 n1 n2 n3
        go_wp2_with fail
        refine bodyPost_ret (v := .tuple #[.agg #[.int .i64 0, .slice none 0 0, .slice none 0 0, .slice none 0 0], .int .i64 2]) (by simp [results, Tryz.results15, go_sem, r0, r1, r2, r3]) rfl ?_
        exact st_no HR2.out ((((HBW7.out.setCell (by simp; omega) _).setCell (by simp; omega) _).setCell (by simp; omega) _).setCell (by simp; omega) _)
theorem sp_three {w5 W : World} {m bn gV gR : Nat} {zv zr : Array Value} (hzv : zv.toList = vc (List.replicate m 0)) (hzr : zr.toList = rc (List.replicate m false)) (hm : m ≤ maxLen) (hb : Below w5.heap.size w5 W) (hv : W.heap[gV]? = some (.cells zv 2)) (hr : W.heap[gR]? = some (.cells zr 4))
    (hn : W.heap[bn]? = some (.cells #[.int .i64 0, .slice (some ⟨gV, 0, none⟩) m m, .slice (some ⟨gR, 0, none⟩) m m, .slice none 0 0] 39)) (lv : w5.heap.size ≤ gV) (lr : w5.heap.size ≤ gR) (ln : w5.heap.size ≤ bn) :
    Sp w5 bn 0 gV m gR m m (List.replicate m 0) (List.replicate m false) W := by
  have sv : zv.size = m := by rw [← Array.length_toList, hzv, vc_len]; simp
  have sr : zr.size = m := by rw [← Array.length_toList, hzr, rc_len]; simp
  refine ⟨hb, hn, ⟨by rw [vc_len]; simp, .inr ⟨gV, m, zv, rfl, lv, hv, Nat.le_refl _, hm, by rw [sv, Nat.mul_one], ?_⟩⟩, ⟨by rw [rc_len]; simp, .inr ⟨gR, m, zr, rfl, lr, hr, Nat.le_refl _, hm, by rw [sr, Nat.mul_one], ?_⟩⟩, ln⟩
  · rw [hzv, Nat.mul_one]; exact List.take_of_length_le (by rw [vc_len]; simp)
  · rw [hzr, Nat.mul_one]; exact List.take_of_length_le (by rw [rc_len]; simp)
theorem Sp.setV {w4 : World} {bn : Nat} {st1 : Int} {gV cV gR cR n : Nat} {vs : List Int} {rs : List Bool} {W : World} (h : Sp w4 bn st1 gV cV gR cR n vs rs W) (k : Nat) (x : Int) : Sp w4 bn st1 gV cV gR cR n (vs.set k x) rs (W.setCell ⟨gV, k, none⟩ (.int .i64 x)) := by
  obtain ⟨n1, n2, n3, n4, n5⟩ := h.gr
  have v1 := (h.v.stored k (.int .i64 x)).1
  rw [vc_set] at v1
  refine ⟨h.bl.setCell (p := ⟨gV, k, none⟩) n4 _, ?_, v1, ownsRow_setCell_other h.r (a := ⟨gV, k, none⟩) (fun e => n1 (by simpa [Value.ownBlock] using e.symm)) _, h.hbn⟩
  rw [Below.heap_setCell _ _ _ _ (fun e => n2 e.symm)]
  exact h.nb
/-- The values at the beginning, so far. -/
def bgL (p s : Int) (m k : Nat) : List Int := ((List.range k).map fun (v : Nat) => startI p s v) ++ List.replicate (m - k) 0
theorem bgL_set (p s : Int) (m k : Nat) (h : k < m) : (bgL p s m k).set k (startI p s k) = bgL p s m (k + 1) := by
  unfold bgL
  have e : m - k = (m - (k + 1)) + 1 := by omega
  rw [List.set_append_right _ _ (by simp), List.length_map, List.length_range, Nat.sub_self, e, List.replicate_succ, List.set_cons_zero, List.range_succ, List.map_append, List.append_assoc]
  rfl
def BgRel (w5 : World) (bn gV gR m : Nat) (p s : Int) (i : Value) (W : World) : Prop := ∃ k : Nat, i = .int .i64 k ∧ k ≤ m ∧ Hid (Sp w5 bn 0 gV m gR m m (bgL p s m k) (List.replicate m false) W)
set_option maxRecDepth 20000 in
set_option maxHeartbeats 2000000 in
theorem begin_any (N : Int) (A : Option Addr) (n c : Nat) (es : List Ed) (p s l q : Int) (w : World) (hA : Lies w w.heap.size 3 A n (ec es)) (hnc : n ≤ c) (hn : n ≤ maxLen) :
    Calls Tryz.prog 8 #[.agg #[.int .i64 N, .slice A n c], .agg #[.int .i64 p, .int .i64 s, .int .i64 l, .int .i64 q]] w (StPost (beginR N es p s l q) w) := by
  have mixed : Tryz.prog.follows .mixedOrders = true := by kernel_rfl
  have hbx := (Bx.init w N A n c p s l q).alloc (.cells #[.int .i64 0, .slice none 0 0, .slice none 0 0, .slice none 0 0] 39)
  have HA := Lib.hid (hA.next hbx.bl)
  have HBX := Lib.hid hbx
  clear hbx hA
  go_enter Tryz.func8, Tryz.ntmps8
  go_wp2_with fail
  refine (jcheck_any N A n c es p s l q _ HA.out hnc hn).mono ?_
  rintro e w5 ⟨rfl, hb5⟩
  have hx := HBX.out.next hb5
  have HT := Lib.hid (fun (W : World) (hb : Below w5.heap.size w5 W) => (hb.block _ (third w N A n c p s l q _ w5 hb5).2).trans (third w N A n c p s l q _ w5 hb5).1)
  have HT0 := Lib.hid (third w N A n c p s l q _ w5 hb5)
  have HB := Lib.hid hx.bl
  have HA5 := Lib.hid (HA.out.next hb5)
  have HX := Lib.hid hx
  clear HA HBX hb5
  by_cases hj : jchk N es p s l q = 0
  · have HJ := Lib.hid hj
    have HN := Lib.hid (jchk_N hj)
    rw [hj]
    clear hj
    obtain ⟨m, hm⟩ : ∃ m : Nat, N = m := ⟨N.toNat, by have := HN.out; omega⟩
    have HM := Lib.hid hm
    have hmk1 : ∀ W : World, (Instr.makeSlice 31 (.int .i64 N) (.int .i64 N)).run Tryz.prog W = .ok (.slice (some ⟨W.heap.size, 0, none⟩) m m) (W.alloc (.cells (madeCells #[.int .i64 0] m) 2)) := fun W => by
      rw [hm]; exact run_make_row' 31 2 (.int .i64 0) 8 Tryz.underlying31 (by kernel_rfl) rfl .i64 .i64 m (by have := HN.out; omega) (by have := HN.out; omega) W
    have hmk2 : ∀ W : World, (Instr.makeSlice 36 (.int .i64 N) (.int .i64 N)).run Tryz.prog W = .ok (.slice (some ⟨W.heap.size, 0, none⟩) m m) (W.alloc (.cells (madeCells #[.bool false] m) 4)) := fun W => by
      rw [hm]; exact run_make_row' 36 4 (.bool false) 1 Tryz.underlying36 (by kernel_rfl) rfl .i64 .i64 m (by have := HN.out; omega) (by have := HN.out; omega) W
    have HML := Lib.hid (show m ≤ maxLen by have := HN.out; unfold maxLen; omega)
    have HZV := Lib.hid (made_v m)
    have HZR := Lib.hid (made_r m)
    have g0 := hx.g0
    clear hx hm
    obtain ⟨zv, hzv⟩ : ∃ zv, zv = madeCells #[.int .i64 0] m := ⟨_, rfl⟩
    obtain ⟨zr, hzr⟩ : ∃ zr, zr = madeCells #[.bool false] m := ⟨_, rfl⟩
    rw [← hzv] at hmk1 HZV
    rw [← hzr] at hmk2 HZR
    clear hzv hzr
    have ga : ∀ o : Obj, (w5.alloc o).cell? ⟨w.heap.size, 0, none⟩ = some (.int .i64 N) := fun o => (HX.out.alloc o).g0
    have gb : ∀ o o' : Obj, ((w5.alloc o).alloc o').cell? ⟨w.heap.size, 0, none⟩ = some (.int .i64 N) := fun o o' => ((HX.out.alloc o).alloc o').g0
    go_upto_region 4 with fail
    go_cut [7] (fun s7 W => ∃ bn gV gR, s7 = .pointer (some ⟨bn, 0, none⟩) ∧ Sp w5 bn 0 gV m gR m m (List.replicate m 0) (List.replicate m false) W)
    case first =>
      go_region
      all_goals (go_wp2_with fail; go_meet; first | exact ⟨_, w5.heap.size, w5.heap.size + 1, rfl, sp_three HZV.out HZR.out HML.out (three _ _ _ _).2.2.2 (three _ _ _ _).1 (three _ _ _ _).2.1 (three _ _ _ _).2.2.1 (by omega) (by omega) (by omega)⟩ | exact ⟨_, w5.heap.size, w5.heap.size + 1 + 1, rfl, sp_three HZV.out HZR.out HML.out (three _ _ _ _).2.2.2 (three _ _ _ _).1 (three _ _ _ _).2.2.1 (three _ _ _ _).2.1 (by omega) (by omega) (by omega)⟩ | exact ⟨_, w5.heap.size + 1, w5.heap.size, rfl, sp_three HZV.out HZR.out HML.out (three _ _ _ _).2.2.2 (three _ _ _ _).2.1 (three _ _ _ _).1 (three _ _ _ _).2.2.1 (by omega) (by omega) (by omega)⟩ | exact ⟨_, w5.heap.size + 1, w5.heap.size + 1 + 1, rfl, sp_three HZV.out HZR.out HML.out (three _ _ _ _).2.2.2 (three _ _ _ _).2.1 (three _ _ _ _).2.2.1 (three _ _ _ _).1 (by omega) (by omega) (by omega)⟩ | exact ⟨_, w5.heap.size + 1 + 1, w5.heap.size, rfl, sp_three HZV.out HZR.out HML.out (three _ _ _ _).2.2.2 (three _ _ _ _).2.2.1 (three _ _ _ _).1 (three _ _ _ _).2.1 (by omega) (by omega) (by omega)⟩ | exact ⟨_, w5.heap.size + 1 + 1, w5.heap.size + 1, rfl, sp_three HZV.out HZR.out HML.out (three _ _ _ _).2.2.2 (three _ _ _ _).2.2.1 (three _ _ _ _).2.1 (three _ _ _ _).1 (by omega) (by omega) (by omega)⟩)
    case rest =>
      obtain ⟨bn, gV, gR, rfl, hsp⟩ := hcut
      have HSP := Lib.hid hsp
      have g0 := (HX.out.next hsp.bl).g0
      clear hsp ga gb hmk1 hmk2 HZV HZR
      go_wp2_with fail
      go_loopw [27] (fun i W => BgRel w5 bn gV gR m p s i W) (fun i W => m - (intOf i).toNat)
      case atStart => exact ⟨0, rfl, Nat.zero_le _, by have := HSP.out; unfold Hid bgL; simpa using this⟩
      case round =>
        obtain ⟨k, rfl, hk, HSQ⟩ := hrel
        clear HSP g0
        have HXW := Lib.hid (HX.out.next HSQ.out.bl)
        by_cases hkm : k < m
        · have hkN : (k : Int) < N := by have := HM.out; omega
          have hkM : (k : Int) < (m : Int) := by omega
          have hk24 : k < 24 := by have := HM.out; have := HN.out; omega
          have HV := Lib.hid (show vchk N es p s l q k = 0 by unfold vchk; rw [if_pos HJ.out, if_pos ⟨by omega, hkN⟩])
          have HSV := Lib.hid (show stV N es p s l q k = startI p s k by unfold stV; rw [if_pos HV.out])
          obtain ⟨z1, g0, g1, j0, j1, j2, j3, bl1⟩ := id HXW.out
          clear z1 bl1
          go_wp2_with fail
          refine (start_any N A n c es p s l q k _ (HA5.out.next HSQ.out.bl) hnc hn).mono ?_
          rintro e w6 ⟨rfl, hb6⟩
          rw [HV.out, HSV.out]
          have HSP6 := Lib.hid (HSQ.out.next hb6)
          have b1 := cell_of_row w6 bn 1 _ 39 (0, 0) HSP6.out.nb
          obtain ⟨x0, hx0⟩ : ∃ x0, w6.cell? ⟨gV, k, none⟩ = some x0 := ⟨_, (HSP6.out.v.cellAt k (by omega)).trans (vc_at _ k (by unfold bgL; simp; omega))⟩
          have fV := HSP6.out.v.frozenAt k
          have HSP7 := Lib.hid (HSP6.out.setV k (startI p s k))
          rw [bgL_set p s m k hkm] at HSP7
          clear hb6 HSQ HXW g0 g1 j0 j1 j2 j3 HSP6
          generalize startI p s k = x at HSP7 ⊢
          go_wp2_with fail
          go_roundw
          case rel => exact ⟨k + 1, by go_num, by omega, HSP7.out⟩
          case measure => simp [intOf]; omega
        · have hk' : k = m := by omega
          subst hk'
          have hkN : ¬ ((k : Int) < N) := by have := HM.out; omega
          have HR := Lib.hid (show beginR N es p s l q = (⟨0, bgL p s k k, List.replicate k false, []⟩, 0) by
            unfold beginR beginS bgL; rw [if_pos HJ.out, HM.out]; simp)
          have hok : Ok (beginR N es p s l q).1 := by unfold beginR; rw [if_pos HJ.out]; exact begin_ok HN.out.2
          rw [HR.out] at hok
          have HOK := Lib.hid hok
          have nb := HSQ.out.nb
          have b0 := cell_of_row wr bn 0 _ 39 (0, 0) nb
          have b1 := cell_of_row wr bn 1 _ 39 (0, 0) nb
          have b2 := cell_of_row wr bn 2 _ 39 (0, 0) nb
          have b3 := cell_of_row wr bn 3 _ 39 (0, 0) nb
          have z2 := HT.out wr HSQ.out.bl
          have r0 := cell_of_row wr _ 0 _ 39 (0, 0) z2
          have f0 := unfrozen z2 0
          have r1 := cell_of_row wr _ 1 _ 39 (0, 0) z2
          have f1 := unfrozen z2 1
          have r2 := cell_of_row wr _ 2 _ 39 (0, 0) z2
          have f2 := unfrozen z2 2
          have r3 := cell_of_row wr _ 3 _ 39 (0, 0) z2
          have f3 := unfrozen z2 3
          have hlt := HT0.out.2
          have hlen : (bgL p s k k).length = k := by unfold bgL; simp
          clear nb z2 hok hlen
          go_wp2_with fail
          refine bodyPost_ret (v := .tuple #[.agg #[.int .i64 0, .slice (some ⟨gV, 0, none⟩) k k, .slice (some ⟨gR, 0, none⟩) k k, .slice none 0 0], .int .i64 0]) (by simp [results, Tryz.results8, go_sem, r0, r1, r2, r3]) rfl ?_
          rw [HR.out]
          have hlen : (bgL p s k k).length = k := by unfold bgL; simp
          have hv8 := ownsRow_setCell_below (ownsRow_setCell_below (ownsRow_setCell_below (ownsRow_setCell_below HSQ.out.v (a := ⟨w.heap.size + 1 + 1, 0, none⟩) hlt (.int .i64 0)) (a := ⟨w.heap.size + 1 + 1, 1, none⟩) hlt (.slice (some ⟨gV, 0, none⟩) k k)) (a := ⟨w.heap.size + 1 + 1, 2, none⟩) hlt (.slice (some ⟨gR, 0, none⟩) k k)) (a := ⟨w.heap.size + 1 + 1, 3, none⟩) hlt (.slice none 0 0)
          have hr8 := ownsRow_setCell_below (ownsRow_setCell_below (ownsRow_setCell_below (ownsRow_setCell_below HSQ.out.r (a := ⟨w.heap.size + 1 + 1, 0, none⟩) hlt (.int .i64 0)) (a := ⟨w.heap.size + 1 + 1, 1, none⟩) hlt (.slice (some ⟨gV, 0, none⟩) k k)) (a := ⟨w.heap.size + 1 + 1, 2, none⟩) hlt (.slice (some ⟨gR, 0, none⟩) k k)) (a := ⟨w.heap.size + 1 + 1, 3, none⟩) hlt (.slice none 0 0)
          refine ⟨((((HB.out.trans (HSQ.out.bl.mono HB.out.size)).setCell (by simp; omega) _).setCell (by simp; omega) _).setCell (by simp; omega) _).setCell (by simp; omega) _, some ⟨gV, 0, none⟩, k, some ⟨gR, 0, none⟩, k, none, 0, by dsimp only; rw [hlen]; simp, ?_, (Fr.own HSQ.out.v).low HB.out.size, (Fr.own HSQ.out.r).low HB.out.size, Fr.no _⟩
          refine ⟨?_, ?_, Lies.nil, ?_, ?_, Nat.le_refl _, HOK.out⟩
          · dsimp only; rw [hlen]; exact Lies.of_own hv8
          · dsimp only; rw [List.length_replicate]; exact Lies.of_own hr8
          · dsimp only; rw [hlen]; exact Nat.le_refl _
          · dsimp only; rw [List.length_replicate]; exact Nat.le_refl _
  · have HR := Lib.hid (show beginR N es p s l q = (noSt, jchk N es p s l q) by unfold beginR; rw [if_neg hj])
    have hj1 : (jchk N es p s l q != 0) = true := by simpa using hj
    have z2 := HT0.out.1
    have r0 := cell_of_row w5 _ 0 _ 39 (0, 0) z2
    have f0 := unfrozen z2 0
    have r1 := cell_of_row w5 _ 1 _ 39 (0, 0) z2
    have f1 := unfrozen z2 1
    have r2 := cell_of_row w5 _ 2 _ 39 (0, 0) z2
    have f2 := unfrozen z2 2
    have r3 := cell_of_row w5 _ 3 _ 39 (0, 0) z2
    have f3 := unfrozen z2 3
    clear z2 hj hx
    go_wp2_with fail
    refine bodyPost_ret (v := .tuple #[.agg #[.int .i64 0, .slice none 0 0, .slice none 0 0, .slice none 0 0], .int .i64 (jchk N es p s l q)]) (by simp [results, Tryz.results8, go_sem, r0, r1, r2, r3]) rfl ?_
    exact st_no HR.out ((((HB.out.setCell (by simp; omega) _).setCell (by simp; omega) _).setCell (by simp; omega) _).setCell (by simp; omega) _)
/-- A run under way: its state stands in block bs. -/
structure Rn (w3 : World) (bs : Nat) (S : St) (X1 : Option Addr) (x1 : Nat) (X2 : Option Addr) (x2 : Nat) (X3 : Option Addr) (x3 : Nat) (W : World) : Prop where
  bl : Below w3.heap.size w3 W
  nb : W.heap[bs]? = some (.cells #[.int .i64 S.step, .slice X1 S.vals.length x1, .slice X2 S.rest.length x2, .slice X3 S.inn.length x3] 39 (0, 0))
  st : StL W W.heap.size S X1 x1 X2 x2 X3 x3
  f1 : Fr w3.heap.size X1
  f2 : Fr w3.heap.size X2
  f3 : Fr w3.heap.size X3
  n1 : Nbl bs X1 (vc S.vals)
  n2 : Nbl bs X2 (rc S.rest)
  n3 : Nbl bs X3 (mc S.inn)
  hb : w3.heap.size ≤ bs
theorem Rn.begin {w3 w5 : World} {S : St} {X1 : Option Addr} {x1 : Nat} {X2 : Option Addr} {x2 : Nat} {X3 : Option Addr} {x3 : Nat} (hb : Below w3.heap.size w3 w5) (hs : StL w5 w5.heap.size S X1 x1 X2 x2 X3 x3) (f1 : Fr w3.heap.size X1) (f2 : Fr w3.heap.size X2) (f3 : Fr w3.heap.size X3) :
    Rn w3 w5.heap.size S X1 x1 X2 x2 X3 x3 (w5.alloc (.cells #[.int .i64 S.step, .slice X1 S.vals.length x1, .slice X2 S.rest.length x2, .slice X3 S.inn.length x3] 39)) :=
  ⟨hb.alloc hb.size _, heap_alloc_new _ _, hs.next (below_alloc _ _), f1, f2, f3, hs.v.nbl (Nat.le_refl _), hs.r.nbl (Nat.le_refl _), hs.m.nbl (Nat.le_refl _), hb.size⟩
theorem Rn.go {w3 : World} {bs : Nat} {S : St} {X1 : Option Addr} {x1 : Nat} {X2 : Option Addr} {x2 : Nat} {X3 : Option Addr} {x3 : Nat} {W : World} (h : Rn w3 bs S X1 x1 X2 x2 X3 x3 W)
    {w6 : World} (o : Obj) {S' : St} {Y1 : Option Addr} {y1 : Nat} {Y2 : Option Addr} {y2 : Nat} {Y3 : Option Addr} {y3 : Nat} (hb : Below W.heap.size W w6) (hs : StL w6 w6.heap.size S' Y1 y1 Y2 y2 Y3 y3) (f1 : Fr W.heap.size Y1) (f2 : Fr W.heap.size Y2) (f3 : Fr W.heap.size Y3) :
    Rn w3 bs S' Y1 y1 Y2 y2 Y3 y3 (((((w6.alloc o).setCell ⟨bs, 0, none⟩ (.int .i64 S'.step)).setCell ⟨bs, 1, none⟩ (.slice Y1 S'.vals.length y1)).setCell ⟨bs, 2, none⟩ (.slice Y2 S'.rest.length y2)).setCell ⟨bs, 3, none⟩ (.slice Y3 S'.inn.length y3)) := by
  have hlt := lt_of_block h.nb
  have m1 : Nbl bs Y1 (vc S'.vals) := .inr (f1.nb hlt)
  have m2 : Nbl bs Y2 (rc S'.rest) := .inr (f2.nb hlt)
  have m3 : Nbl bs Y3 (mc S'.inn) := .inr (f3.nb hlt)
  have hb' := (h.bl.trans (hb.mono h.bl.size)).alloc (Nat.le_trans h.bl.size hb.size) o
  have z0 : (w6.alloc o).heap[bs]? = _ := (Below.heap_alloc w6 o bs (Nat.lt_of_lt_of_le hlt hb.size)).trans ((hb.block _ hlt).trans h.nb)
  have s0 := hs.next (below_alloc w6 o)
  refine ⟨(((hb'.setCell (p := ⟨bs, 0, none⟩) h.hb _).setCell (p := ⟨bs, 1, none⟩) h.hb _).setCell (p := ⟨bs, 2, none⟩) h.hb _).setCell (p := ⟨bs, 3, none⟩) h.hb _, ?_, ?_, f1.low h.bl.size, f2.low h.bl.size, f3.low h.bl.size, m1, m2, m3, h.hb⟩
  · exact set_heap (set_heap (set_heap (set_heap z0 _) _) _) _
  · exact ((((s0.setN (i := 0) m1 m2 m3 _).setN (i := 1) m1 m2 m3 _).setN (i := 2) m1 m2 m3 _).setN (i := 3) m1 m2 m3 _).more (by simp [World.setCell])
/-- What a run comes to. -/
def IsAns (N : Int) (es : List Ed) (p s l q : Int) (kd st : Int) (vs : List Int) : Prop :=
  (¬ jchk N es p s l q = 0 ∧ kd = 4 ∧ st = 0 ∧ vs = []) ∨
  (jchk N es p s l q = 0 ∧ ∃ k S, stAt N es p s l q k = some S ∧ ¬ (onwR N es p s l q S).2 = 0 ∧ kd = (onwR N es p s l q S).2 ∧ st = S.step ∧ vs = if kd = 2 then [] else S.vals)
theorem onw_kind (N : Int) (es : List Ed) (p s l q : Int) (S : St) : (onwR N es p s l q S).2 = 0 ∨ (onwR N es p s l q S).2 = 1 ∨ (onwR N es p s l q S).2 = 2 ∨ (onwR N es p s l q S).2 = 3 := by
  unfold onwR
  split
  · exact .inr (.inl rfl)
  · split
    · exact .inr (.inr (.inr rfl))
    · split
      · exact .inl rfl
      · exact .inr (.inr (.inl rfl))
def AnPost (N : Int) (es : List Ed) (p s l q : Int) (w : World) (r : Ending) (w' : World) : Prop :=
  Below w.heap.size w w' ∧ ∃ kd st vs A c, r = .returned (.agg #[.int .i64 kd, .int .i64 st, .slice A vs.length c]) ∧ Lies w' w'.heap.size 1 A vs.length (vc vs) ∧ vs.length ≤ c ∧ vs.length ≤ 1000000 ∧ IsAns N es p s l q kd st vs
def RnRel (N : Int) (es : List Ed) (p s l q : Int) (w3 : World) (bs : Nat) (g : Nat) (W : World) : Prop :=
  ∃ k S X1 x1 X2 x2 X3 x3, Hid (stAt N es p s l q k = some S) ∧ 41 - k ≤ g ∧ Hid (Rn w3 bs S X1 x1 X2 x2 X3 x3 W)
set_option maxRecDepth 20000 in
set_option maxHeartbeats 2000000 in
theorem run_any (N : Int) (A : Option Addr) (n c : Nat) (es : List Ed) (p s l q : Int) (w : World) (hA : Lies w w.heap.size 3 A n (ec es)) (hnc : n ≤ c) (hn : n ≤ maxLen) :
    Calls Tryz.prog 6 #[.agg #[.int .i64 N, .slice A n c], .agg #[.int .i64 p, .int .i64 s, .int .i64 l, .int .i64 q]] w (AnPost N es p s l q w) := by
  obtain ⟨w3, hw3⟩ : ∃ w3, w3 = ((w.alloc (.cells #[.int .i64 N, .slice A n c] 27)).alloc (.cells #[.int .i64 p, .int .i64 s, .int .i64 l, .int .i64 q] 23)).alloc (.cells #[.int .i64 0, .int .i64 0, .slice none 0 0] 33) := ⟨_, rfl⟩
  have hbx : Bx w N A n c p s l q w3 := by rw [hw3]; exact (Bx.init w N A n c p s l q).alloc _
  have HT := Lib.hid (fun (W : World) (hb : Below w3.heap.size w3 W) => third w N A n c p s l q (.cells #[.int .i64 0, .int .i64 0, .slice none 0 0] 33) W (by rw [hw3] at hb; exact hb))
  have HA := Lib.hid (hA.next hbx.bl)
  have HBX := Lib.hid hbx
  clear hbx hA
  go_enter Tryz.func6, Tryz.ntmps6
  go_wp2_with fail
  rw [← hw3]
  clear hw3
  refine (begin_any N A n c es p s l q _ HA.out hnc hn).mono ?_
  rintro e w5 ⟨hb5, X1, x1, X2, x2, X3, x3, rfl, hs5, f1, f2, f3⟩
  have HB5 := Lib.hid hb5
  by_cases hj : jchk N es p s l q = 0
  · have HJ := Lib.hid hj
    have HN := Lib.hid (jchk_N hj)
    have HBJ := Lib.hid (badJ_not (jchk_zero hj).2)
    have e0 : beginR N es p s l q = (beginS N p s, 0) := by unfold beginR; rw [if_pos hj]
    rw [e0] at hs5 ⊢
    clear hj e0
    dsimp only at hs5 ⊢
    obtain ⟨S0, hS0⟩ : ∃ S0, S0 = beginS N p s := ⟨_, rfl⟩
    rw [← hS0] at hs5 ⊢
    have HAT := Lib.hid (show stAt N es p s l q 0 = some S0 by rw [hS0]; rfl)
    have HRN := Lib.hid (Rn.begin hb5 hs5 f1 f2 f3)
    clear hS0 hs5 f1 f2 f3 hb5
    go_upto_region 2 with fail
    generalize w5.alloc (.cells #[.int .i64 S0.step, .slice X1 S0.vals.length x1, .slice X2 S0.rest.length x2, .slice X3 S0.inn.length x3] 39) = W5 at HRN ⊢
    generalize w5.heap.size = bs at HRN ⊢
    clear HB5
    go_wp2_with fail
    go_loopg [8] 41 (fun g v W => RnRel N es p s l q w3 bs g W)
    case atStart => exact ⟨0, S0, X1, x1, X2, x2, X3, x3, HAT, by omega, HRN⟩
    case round =>
      clear HAT HRN
      obtain ⟨k, S, Y1, y1, Y2, y2, Y3, y3, HK, hg, HR⟩ := hrel
      have HXW := Lib.hid (HBX.out.next HR.out.bl)
      have g0 := HXW.out.g0
      have g1 := HXW.out.g1
      have j0 := HXW.out.j0
      have j1 := HXW.out.j1
      have j2 := HXW.out.j2
      have j3 := HXW.out.j3
      have b0 := cell_of_row wr _ 0 _ 39 (0, 0) HR.out.nb
      have b1 := cell_of_row wr _ 1 _ 39 (0, 0) HR.out.nb
      have b2 := cell_of_row wr _ 2 _ 39 (0, 0) HR.out.nb
      have b3 := cell_of_row wr _ 3 _ 39 (0, 0) HR.out.nb
      have HST := Lib.hid (stAt_step k HK.out)
      have HLE := Lib.hid (stAt_le (by have := HBJ.out; omega) k HK.out)
      go_wp2_with fail
      refine (onward_any N A n c es p s l q S Y1 y1 Y2 y2 Y3 y3 _ (HA.out.next HR.out.bl) hnc hn HR.out.st).mono ?_
      rintro e w6 ⟨hb6, Z1, z1, Z2, z2, Z3, z3, rfl, hs6, f1, f2, f3⟩
      have HKD := Lib.hid (onw_kind N es p s l q S)
      obtain ⟨t, ht⟩ : ∃ t, t = onwR N es p s l q S := ⟨_, rfl⟩
      have HON := Lib.hid ht
      rw [← ht] at hs6 HKD ⊢
      clear ht g0 g1 j0 j1 j2 j3 b0 b1 b2 b3
      obtain ⟨S', kd⟩ := t
      dsimp only at hs6 HKD ⊢
      have HGO := Lib.hid (HR.out.go (.cells #[.int .i64 S'.step, .slice Z1 S'.vals.length z1, .slice Z2 S'.rest.length z2, .slice Z3 S'.inn.length z3] 39) hb6 hs6 f1 f2 f3)
      have n0 : (w6.alloc (.cells #[.int .i64 S'.step, .slice Z1 S'.vals.length z1, .slice Z2 S'.rest.length z2, .slice Z3 S'.inn.length z3] 39)).cell? ⟨w6.heap.size, 0, none⟩ = some (.int .i64 S'.step) := by simp [go_sem]
      have n1 : (w6.alloc (.cells #[.int .i64 S'.step, .slice Z1 S'.vals.length z1, .slice Z2 S'.rest.length z2, .slice Z3 S'.inn.length z3] 39)).cell? ⟨w6.heap.size, 1, none⟩ = some (.slice Z1 S'.vals.length z1) := by simp [go_sem]
      have n2 : (w6.alloc (.cells #[.int .i64 S'.step, .slice Z1 S'.vals.length z1, .slice Z2 S'.rest.length z2, .slice Z3 S'.inn.length z3] 39)).cell? ⟨w6.heap.size, 2, none⟩ = some (.slice Z2 S'.rest.length z2) := by simp [go_sem]
      have n3 : (w6.alloc (.cells #[.int .i64 S'.step, .slice Z1 S'.vals.length z1, .slice Z2 S'.rest.length z2, .slice Z3 S'.inn.length z3] 39)).cell? ⟨w6.heap.size, 3, none⟩ = some (.slice Z3 S'.inn.length z3) := by simp [go_sem]
      have hlt := lt_of_block HR.out.nb
      have HBL7 := Lib.hid ((HR.out.bl.trans (hb6.mono HR.out.bl.size)).alloc (Nat.le_trans HR.out.bl.size hb6.size) (.cells #[.int .i64 S'.step, .slice Z1 S'.vals.length z1, .slice Z2 S'.rest.length z2, .slice Z3 S'.inn.length z3] 39))
      have z7 := (Below.heap_alloc w6 (.cells #[.int .i64 S'.step, .slice Z1 S'.vals.length z1, .slice Z2 S'.rest.length z2, .slice Z3 S'.inn.length z3] 39) bs (Nat.lt_of_lt_of_le hlt hb6.size)).trans ((hb6.block _ hlt).trans HR.out.nb)
      have HSV := Lib.hid ((HR.out.st.next hb6).next (below_alloc w6 (.cells #[.int .i64 S'.step, .slice Z1 S'.vals.length z1, .slice Z2 S'.rest.length z2, .slice Z3 S'.inn.length z3] 39)))
      clear hs6 f1 f2 f3
      go_upto_region 5 with fail
      generalize w6.alloc (.cells #[.int .i64 S'.step, .slice Z1 S'.vals.length z1, .slice Z2 S'.rest.length z2, .slice Z3 S'.inn.length z3] 39) = W7 at HGO n0 n1 n2 n3 HBL7 z7 HSV ⊢
      generalize w6.heap.size = b6 at n0 n1 n2 n3 ⊢
      have b0 := cell_of_row W7 _ 0 _ 39 (0, 0) z7
      have e0 := unfrozen z7 0
      have b1 := cell_of_row W7 _ 1 _ 39 (0, 0) z7
      have e1 := unfrozen z7 1
      have b2 := cell_of_row W7 _ 2 _ 39 (0, 0) z7
      have e2 := unfrozen z7 2
      have b3 := cell_of_row W7 _ 3 _ 39 (0, 0) z7
      have e3 := unfrozen z7 3
      have HFR := Lib.hid (show Fr w3.heap.size Y1 from HR.out.f1)
      clear HR hb6 hlt
      by_cases h0 : kd = 0
      · subst h0
        have HK1 := Lib.hid (show stAt N es p s l q (k + 1) = some S' by have := stAt_next HK.out (by rw [← HON.out]); rw [← HON.out] at this; exact this)
        have hk1 : k + 1 ≤ 40 := by have := stAt_le (by have := HBJ.out; omega) (k + 1) HK1.out; have := HBJ.out; omega
        go_wp2_with fail
        go_roundg (gk - 1)
        case measure => omega
        case rel => exact ⟨k + 1, S', Z1, z1, Z2, z2, Z3, z3, HK1, by omega, HGO⟩
      · have h0' : (kd == 0) = false := by simpa using h0
        have ha := HT.out W7 HBL7.out
        have hlt3 := (HT.out w3 (Below.refl _ _)).2
        have hbx7 := (HBX.out.next HBL7.out).bl
        have HB7 := Lib.hid hbx7
        have hza := ha.1
        have r0 := cell_of_row W7 _ 0 _ 33 (0, 0) hza
        have f0 := unfrozen hza 0
        have r1 := cell_of_row W7 _ 1 _ 33 (0, 0) hza
        have f1 := unfrozen hza 1
        have r2 := cell_of_row W7 _ 2 _ 33 (0, 0) hza
        have f2 := unfrozen hza 2
        clear ha hza hbx7 n0 n1 n2 n3 HGO
        by_cases h2 : kd = 2
        · subst h2
          have HANS := Lib.hid (show IsAns N es p s l q 2 S.step [] from .inr ⟨HJ.out, k, S, HK.out, by rw [← HON.out]; show ¬ (2 : Int) = 0; decide, by rw [← HON.out], rfl, rfl⟩)
          clear h0 h0'
          go_wp2_with fail
          refine bodyPost_ret (v := .agg #[.int .i64 2, .int .i64 S.step, .slice none 0 0]) (by simp [results, Tryz.results6, go_sem, r0, r1, r2]) rfl ?_
          exact ⟨(((HB7.out.setCell (by simp; omega) _).setCell (by simp; omega) _).setCell (by simp; omega) _), 2, S.step, [], none, 0, rfl, Lies.nil, Nat.le_refl _, by simp, HANS.out⟩
        · have h2' : (kd == 2) = false := by simpa using h2
          have HANS := Lib.hid (show IsAns N es p s l q kd S.step S.vals from .inr ⟨HJ.out, k, S, HK.out, by rw [← HON.out]; exact h0, by rw [← HON.out], rfl, by rw [if_neg h2]⟩)
          clear h0 h2
          go_wp2_with fail
          refine bodyPost_ret (v := .agg #[.int .i64 kd, .int .i64 S.step, .slice Y1 S.vals.length y1]) (by simp [results, Tryz.results6, go_sem, r0, r1, r2]) rfl ?_
          exact ⟨(((HB7.out.setCell (by simp; omega) _).setCell (by simp; omega) _).setCell (by simp; omega) _), kd, S.step, S.vals, Y1, y1, rfl, (((HSV.out.v.set (b := w.heap.size + 1 + 1) (i := 0) HFR.out hlt3 _).set (b := w.heap.size + 1 + 1) (i := 1) HFR.out hlt3 _).set (b := w.heap.size + 1 + 1) (i := 2) HFR.out hlt3 _).more (by simp [World.setCell]), HSV.out.cv, HSV.out.ok.lv, HANS.out⟩
  · have e0 : beginR N es p s l q = (noSt, jchk N es p s l q) := by unfold beginR; rw [if_neg hj]
    rw [e0] at hs5 ⊢
    have HANS := Lib.hid (show IsAns N es p s l q 4 0 [] from .inl ⟨hj, rfl, rfl, rfl⟩)
    have hj1 : (jchk N es p s l q != 0) = true := by simpa using hj
    have HBL7 := Lib.hid (hb5.alloc hb5.size (.cells #[.int .i64 noSt.step, .slice X1 noSt.vals.length x1, .slice X2 noSt.rest.length x2, .slice X3 noSt.inn.length x3] 39))
    dsimp only at hs5 ⊢
    clear e0 hj hs5 f1 f2 f3 hb5
    go_upto_region 2 with fail
    generalize w5.alloc (.cells #[.int .i64 noSt.step, .slice X1 noSt.vals.length x1, .slice X2 noSt.rest.length x2, .slice X3 noSt.inn.length x3] 39) = W7 at HBL7 ⊢
    have hza := (HT.out W7 HBL7.out).1
    have HB7 := Lib.hid (HBX.out.next HBL7.out).bl
    have r0 := cell_of_row W7 _ 0 _ 33 (0, 0) hza
    have f0 := unfrozen hza 0
    have r1 := cell_of_row W7 _ 1 _ 33 (0, 0) hza
    have f1 := unfrozen hza 1
    have r2 := cell_of_row W7 _ 2 _ 33 (0, 0) hza
    have f2 := unfrozen hza 2
    clear hza
    go_wp2_with fail
    refine bodyPost_ret (v := .agg #[.int .i64 4, .int .i64 0, .slice none 0 0]) (by simp [results, Tryz.results6, go_sem, r0, r1, r2]) rfl ?_
    exact ⟨(((HB7.out.setCell (by simp; omega) _).setCell (by simp; omega) _).setCell (by simp; omega) _), 4, 0, [], none, 0, rfl, Lies.nil, Nat.le_refl _, by simp, HANS.out⟩
end Go.Proofs.YtpgdddjjjfkneaaGreatDoor
