import Derived.Test.YtabbpccfdpphjaaPlM
/-
  The contracts of plan.within, Right, slices.Index, Clone at lists of numbers, the closures, and of the document's own id, Right. No condition but that the lists have at most a million numbers.
-/
namespace Go.Proofs.Ytabbpccfdpphjaa
open Go.ChangeShapes Go.WideShapes Go.ChangeAt Go.RowKit
set_option linter.unusedVariables false

def inB (a b : Int) (l : List Int) : Bool := l.all fun x => decide (a ≤ x ∧ x ≤ b)
theorem inB_step (a b : Int) {l : List Int} {k : Nat} (h : k < l.length) : inB a b (l.drop k) = (decide (a ≤ iAt l k ∧ iAt l k ≤ b) && inB a b (l.drop (k + 1))) := by
  rw [idrop_at l k h]; rfl
def WiRel (a b : Int) (l : List Int) (w : World) (i : Value) (W : World) : Prop := ∃ k : Nat, i = .int .i64 k ∧ k ≤ l.length ∧ inB a b l = inB a b (l.drop k) ∧ W = w
set_option maxHeartbeats 1000000 in
theorem within_any (A : Option Addr) (c : Nat) (l : List Int) (a b : Int) (w : World) (hA : Lies w w.heap.size 1 A l.length (vc l)) (hn : l.length ≤ 1000000) :
    Calls Try.prog 26 #[.slice A l.length c, .int .i64 a, .int .i64 b] w fun e w' => e = .returned (.bool (inB a b l)) ∧ w = w' := by
  go_enter Try.func26, Try.ntmps26
  go_wp2_with fail
  go_loopw [11] (fun i W => WiRel a b l w i W) (fun i W => l.length - (intOf i).toNat)
  case atStart => exact ⟨0, rfl, Nat.zero_le _, rfl, rfl⟩
  case round =>
    obtain ⟨k, rfl, hk, hpre, rfl⟩ := hrel
    have HP := Lib.hid hpre
    clear hpre
    by_cases hlt : k < l.length
    · obtain ⟨ad, rfl, hadb, e0⟩ := hA.vs k hlt
      have hkl : (k : Int) < (l.length : Int) := by omega
      have HR := Lib.hid (inB_step a b hlt)
      by_cases g1 : iAt l k < a
      · have HT := Lib.hid (show inB a b l = false by rw [HP.out, HR.out, decide_eq_false (by omega)]; rfl)
        go_wp2_with fail
        go_ret
        exact ⟨ret_bool HT.out.symm, rfl⟩
      · by_cases g2 : b < iAt l k
        · have HT := Lib.hid (show inB a b l = false by rw [HP.out, HR.out, decide_eq_false (by omega)]; rfl)
          go_wp2_with fail
          go_ret
          exact ⟨ret_bool HT.out.symm, rfl⟩
        · have HT := Lib.hid (show inB a b l = inB a b (l.drop (k + 1)) by rw [HP.out, HR.out, decide_eq_true (by omega)]; rfl)
          go_wp2_with fail
          go_roundw
          case rel => exact ⟨k + 1, by go_num, by omega, HT.out, rfl⟩
          case measure => simp [intOf]; omega
    · have hk' : k = l.length := by omega
      subst hk'
      have HT := Lib.hid (show inB a b l = true by rw [HP.out, List.drop_length]; rfl)
      go_wp2_with fail
      go_ret
      exact ⟨ret_bool HT.out.symm, rfl⟩
theorem rightO_no {os : List Int} (h : ¬ (1 ≤ os.length ∧ os.length ≤ 6)) : rightO os = false := by unfold rightO; rw [decide_eq_false h]; rfl
theorem rightO_yes {os : List Int} (h : 1 ≤ os.length ∧ os.length ≤ 6) : rightO os = inB 1 99 os := by unfold rightO; rw [decide_eq_true h]; rfl
theorem rightO_len {os : List Int} (h : rightO os = true) : 1 ≤ os.length ∧ os.length ≤ 6 := by
  unfold rightO at h; rw [Bool.and_eq_true, decide_eq_true_eq] at h; exact h.1
theorem rightO_mem {os : List Int} (h : rightO os = true) {x : Int} (hx : x ∈ os) : 1 ≤ x ∧ x ≤ 99 := by
  unfold rightO at h; rw [Bool.and_eq_true] at h
  exact of_decide_eq_true (List.all_eq_true.1 h.2 x hx)
theorem pright_any (A : Option Addr) (c : Nat) (os : List Int) (w : World) (hA : Lies w w.heap.size 1 A os.length (vc os)) (hn : os.length ≤ 1000000) :
    Calls Try.prog 15 #[.slice A os.length c] w fun e w' => e = .returned (.bool (rightO os)) ∧ w = w' := by
  have HA := Lib.hid hA
  clear hA
  by_cases h1 : 1 ≤ os.length
  · by_cases h6 : os.length ≤ 6
    · have HF := Lib.hid (rightO_yes ⟨h1, h6⟩)
      have h1' : (1 : Int) ≤ (os.length : Int) := by omega
      have h6' : (os.length : Int) ≤ 6 := by omega
      go_enter Try.func15, Try.ntmps15
      go_wp2_with fail
      refine (within_any A c os 1 99 _ HA.out hn).mono ?_
      rintro e w1 ⟨rfl, rfl⟩
      go_wp2_with fail
      go_ret
      exact ⟨ret_bool HF.out.symm, rfl⟩
    · have HF := Lib.hid (rightO_no (os := os) (fun h => h6 h.2))
      have h1' : (1 : Int) ≤ (os.length : Int) := by omega
      have h6' : ¬ (os.length : Int) ≤ 6 := by omega
      go_enter Try.func15, Try.ntmps15
      go_wp2_with fail
      go_ret
      exact ⟨ret_bool HF.out.symm, rfl⟩
  · have HF := Lib.hid (rightO_no (os := os) (fun h => h1 h.1))
    have h1' : ¬ (1 : Int) ≤ (os.length : Int) := by omega
    go_enter Try.func15, Try.ntmps15
    go_wp2_with fail
    go_ret
    exact ⟨ret_bool HF.out.symm, rfl⟩
theorem idB_yes {n : Int} (h : 1 ≤ n ∧ n ≤ 99) : idB n = true := decide_eq_true h
theorem idB_no {n : Int} (h : ¬ (1 ≤ n ∧ n ≤ 99)) : idB n = false := decide_eq_false h
theorem rid_any (n : Int) (w : World) : Calls Try.prog 27 #[.int .i64 n] w fun e w' => e = .returned (.bool (idB n)) ∧ w = w' := by
  by_cases h1 : 0 < n
  · by_cases h2 : n ≤ 99
    · have HT := Lib.hid (idB_yes (n := n) ⟨by omega, h2⟩)
      go_enter Try.func27, Try.ntmps27
      go_wp2_with fail
      go_ret
      exact ⟨ret_bool HT.out.symm, rfl⟩
    · have HT := Lib.hid (idB_no (n := n) (fun h => h2 h.2))
      go_enter Try.func27, Try.ntmps27
      go_wp2_with fail
      go_ret
      exact ⟨ret_bool HT.out.symm, rfl⟩
  · have HT := Lib.hid (idB_no (n := n) (by omega))
    go_enter Try.func27, Try.ntmps27
    go_wp2_with fail
    go_ret
    exact ⟨ret_bool HT.out.symm, rfl⟩
theorem all_step {os : List Int} {k : Nat} (h : k < os.length) : (os.drop k).all idB = (idB (iAt os k) && (os.drop (k + 1)).all idB) := by
  rw [idrop_at os k h]; rfl
def RoRel (os : List Int) (w : World) (o i : Value) (W : World) : Prop := ∃ (k : Nat) (b : Bool), i = .int .i64 k ∧ o = .bool b ∧ k ≤ os.length ∧ rightO os = (b && (os.drop k).all idB) ∧ W = w
set_option maxHeartbeats 2000000 in
theorem rrighto_any (A : Option Addr) (c : Nat) (os : List Int) (w : World) (hA : Lies w w.heap.size 1 A os.length (vc os)) (hn : os.length ≤ 1000000) :
    Calls Try.prog 16 #[.slice A os.length c] w fun e w' => e = .returned (.bool (rightO os)) ∧ w = w' := by
  have HA := Lib.hid hA
  obtain ⟨b0, hb0⟩ : ∃ b0 : Bool, b0 = decide (1 ≤ os.length ∧ os.length ≤ 6) := ⟨_, rfl⟩
  have HREL := Lib.hid (show RoRel os w (.bool b0) (.int .i64 0) w from ⟨0, b0, rfl, rfl, Nat.zero_le _, by rw [hb0]; rfl, rfl⟩)
  have HB0 := Lib.hid hb0
  clear hA hb0
  go_enter Try.func16, Try.ntmps16
  go_upto_region 1 with fail
  go_cut [3] (fun o W => o = .bool b0 ∧ W = w)
  case first =>
    by_cases h1 : 1 ≤ os.length
    · have h1' : (0 : Int) < (os.length : Int) := by omega
      by_cases h5 : os.length ≤ 6
      · have h5' : (os.length : Int) ≤ 6 := by omega
        have hd : b0 = true := by rw [HB0.out]; exact decide_eq_true ⟨h1, h5⟩
        subst hd
        go_wp2_with fail
        go_meet
        exact ⟨rfl, rfl⟩
      · have h5' : ¬ (os.length : Int) ≤ 6 := by omega
        have hd : b0 = false := by rw [HB0.out]; exact decide_eq_false (fun h => h5 h.2)
        subst hd
        go_wp2_with fail
        go_meet
        exact ⟨rfl, rfl⟩
    · have h1' : ¬ (0 : Int) < (os.length : Int) := by omega
      have hd : b0 = false := by rw [HB0.out]; exact decide_eq_false (fun h => h1 h.1)
      subst hd
      go_wp2_with fail
      go_meet
      exact ⟨rfl, rfl⟩
  case rest =>
    obtain ⟨rfl, hw⟩ := hcut
    have hw2 := hw.symm
    clear hw
    subst hw2
    go_wp2_with fail
    go_loopw [3, 4] (fun a i W => RoRel os w a i W) (fun a i W => os.length - (intOf i).toNat)
    case atStart => exact HREL.out
    case round =>
      obtain ⟨k, b, rfl, rfl, hk, hpre, rfl⟩ := hrel
      have HP := Lib.hid hpre
      clear hpre
      by_cases hlt : k < os.length
      · obtain ⟨ad, rfl, hadb, e0⟩ := HA.out.vs k hlt
        have hkl : (k : Int) < (os.length : Int) := by omega
        have HR := Lib.hid (all_step hlt)
        cases b with
        | false =>
          have HT := Lib.hid (show rightO os = (false && (os.drop (k + 1)).all idB) by rw [HP.out]; rfl)
          go_wp2_with fail
          go_roundw
          case rel => exact ⟨k + 1, false, by go_num, rfl, by omega, HT.out, rfl⟩
          case measure => simp [intOf]; omega
        | true =>
          have HT := Lib.hid (show rightO os = (idB (iAt os k) && (os.drop (k + 1)).all idB) by rw [HP.out, HR.out]; rfl)
          go_wp2_with fail
          refine (rid_any (iAt os k) _).mono ?_
          rintro e w1 ⟨rfl, rfl⟩
          go_wp2_with fail
          go_roundw
          case rel => exact ⟨k + 1, _, by go_num, rfl, by omega, HT.out, rfl⟩
          case measure => simp [intOf]; omega
      · have hk' : k = os.length := by omega
        subst hk'
        have HT := Lib.hid (show rightO os = b by rw [HP.out, List.drop_length]; cases b <;> rfl)
        go_wp2_with fail
        go_ret
        exact ⟨ret_bool HT.out.symm, rfl⟩
/-- The place of the first number that is x; -1, if there is none. -/
def ixN (l : List Int) (x : Int) : Nat → Int
  | 0 => -1
  | k + 1 => if ixN l x k < 0 then (if iAt l k = x then (k : Int) else -1) else ixN l x k
def ixI (l : List Int) (x : Int) : Int := ixN l x l.length
theorem ixN_no {l : List Int} {x : Int} {k : Nat} (h : ixN l x k < 0) (h2 : ¬ iAt l k = x) : ixN l x (k + 1) < 0 := by rw [ixN, if_pos h, if_neg h2]; decide
theorem ixN_yes {l : List Int} {x : Int} {k : Nat} (h : ixN l x k < 0) (h2 : iAt l k = x) : ixN l x (k + 1) = k := by rw [ixN, if_pos h, if_pos h2]
theorem ixN_more {l : List Int} {x : Int} {k : Nat} (h : 0 ≤ ixN l x k) : ∀ j, ixN l x (k + j) = ixN l x k := by
  intro j
  induction j with
  | zero => rfl
  | succ j ih => rw [← Nat.add_assoc, ixN, if_neg (by rw [ih]; omega), ih]
theorem ixN_neg {l : List Int} {x : Int} {k : Nat} (h : ixN l x k < 0) : ixN l x k = -1 := by
  cases k with
  | zero => rfl
  | succ k =>
    rw [ixN] at h ⊢
    split at h
    · rename_i h1
      rw [if_pos h1]
      split at h
      · omega
      · rename_i h2; rw [if_neg h2]
    · omega
theorem ixN_spec {l : List Int} {x : Int} : ∀ k : Nat, (ixN l x k < 0 ∧ ∀ j, j < k → iAt l j ≠ x) ∨ ∃ i : Nat, ixN l x k = i ∧ i < k ∧ iAt l i = x := by
  intro k
  induction k with
  | zero => exact .inl ⟨by show (-1 : Int) < 0; decide, fun j h => by omega⟩
  | succ k ih =>
    rcases ih with ⟨h1, h2⟩ | ⟨i, h1, h2, h3⟩
    · by_cases he : iAt l k = x
      · exact .inr ⟨k, ixN_yes h1 he, Nat.lt_succ_self _, he⟩
      · refine .inl ⟨ixN_no h1 he, fun j hj => ?_⟩
        by_cases hjk : j < k
        · exact h2 j hjk
        · obtain rfl : j = k := by omega
          exact he
    · exact .inr ⟨i, by rw [ixN, if_neg (by omega), h1], by omega, h3⟩
/-- The place of a number: where it stands, or -1. -/
theorem ixI_spec (l : List Int) (x : Int) : (ixI l x = -1 ∧ x ∉ l) ∨ ∃ i : Nat, ixI l x = i ∧ i < l.length ∧ iAt l i = x := by
  rcases ixN_spec (l := l) (x := x) l.length with ⟨h1, h2⟩ | h
  · refine .inl ⟨ixN_neg h1, fun hx => ?_⟩
    obtain ⟨i, hi, he⟩ := List.mem_iff_getElem.1 hx
    exact h2 i hi (by rw [iAt_get l i hi]; exact he)
  · exact .inr h
def IxRel (l : List Int) (x : Int) (w : World) (i : Value) (W : World) : Prop := ∃ k : Nat, i = .int .i64 k ∧ k ≤ l.length ∧ Hid (ixN l x k < 0) ∧ W = w
set_option maxHeartbeats 1000000 in
theorem index_any (A : Option Addr) (c : Nat) (l : List Int) (x : Int) (w : World) (hA : Lies w w.heap.size 1 A l.length (vc l)) (hn : l.length ≤ 1000000) :
    Calls Try.prog 39 #[.slice A l.length c, .int .i64 x] w fun e w' => e = .returned (.int .i64 (ixI l x)) ∧ w = w' := by
  go_enter Try.func39, Try.ntmps39
  go_wp2_with fail
  go_loopw [8] (fun i W => IxRel l x w i W) (fun i W => l.length - (intOf i).toNat)
  case atStart => exact ⟨0, rfl, Nat.zero_le _, Lib.hid (by show (-1 : Int) < 0; decide), rfl⟩
  case round =>
    obtain ⟨k, rfl, hk, HP, rfl⟩ := hrel
    by_cases hlt : k < l.length
    · obtain ⟨ad, rfl, hadb, e0⟩ := hA.vs k hlt
      have hkl : (k : Int) < (l.length : Int) := by omega
      by_cases he : iAt l k = x
      · have HT := Lib.hid (show ixI l x = k by
          have h1 := ixN_yes HP.out he
          have h2 := ixN_more (l := l) (x := x) (k := k + 1) (by rw [h1]; omega) (l.length - (k + 1))
          rw [show k + 1 + (l.length - (k + 1)) = l.length by omega] at h2
          exact h2.trans h1)
        have he' : (x == iAt l k) = true := by simpa using he.symm
        clear he
        go_wp2_with fail
        go_ret
        exact ⟨ret_int HT.out.symm, rfl⟩
      · have HT := Lib.hid (ixN_no HP.out he)
        have he' : (x == iAt l k) = false := by simpa using fun h => he h.symm
        clear he
        go_wp2_with fail
        go_roundw
        case rel => exact ⟨k + 1, by go_num, by omega, HT, rfl⟩
        case measure => simp [intOf]; omega
    · have hk' : k = l.length := by omega
      subst hk'
      have HT := Lib.hid (show ixI l x = -1 from ixN_neg HP.out)
      go_wp2_with fail
      go_ret
      exact ⟨ret_int HT.out.symm, rfl⟩
end Go.Proofs.Ytabbpccfdpphjaa
