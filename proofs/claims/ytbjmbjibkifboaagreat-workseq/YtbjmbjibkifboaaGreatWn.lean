/-
  The contract of fits. No condition but that the numbers are not too many.
-/
import Derived.Test.YtbjmbjibkifboaaGreatKu
import Derived.Test.YtbjmbjibkifboaaGreatWkM
namespace Go.Proofs.YtbjmbjibkifboaaGreat
open Go.ChangeShapes Go.WideShapes Go.ChangeAt Go.RowKit
set_option linter.unusedVariables false

def FiRel (p : Int) (l : List Int) (w2 : World) (i : Value) (W : World) : Prop := ∃ k : Nat, i = .int .i64 k ∧ k ≤ l.length ∧ Hid (∀ x ∈ l.take k, 0 ≤ x) ∧ W = w2
def FmRel (p : Int) (l : List Ms) (w2 : World) (i : Value) (W : World) : Prop := ∃ k : Nat, i = .int .i64 k ∧ k ≤ l.length ∧ Hid (∀ x ∈ l.take k, 0 ≤ x.2) ∧ W = w2
theorem take_nn {l : List Int} {k : Nat} (h : k < l.length) (h1 : ∀ x ∈ l.take k, 0 ≤ x) (h2 : 0 ≤ vAt l k) : ∀ x ∈ l.take (k + 1), 0 ≤ x := by
  intro x hx
  rw [List.take_succ_eq_append_getElem h] at hx
  rcases List.mem_append.1 hx with hx | hx
  · exact h1 x hx
  · rw [List.mem_singleton] at hx; rw [hx, ← vAt_get l k h]; exact h2
theorem take_nm {l : List Ms} {k : Nat} (h : k < l.length) (h1 : ∀ x ∈ l.take k, 0 ≤ x.2) (h2 : 0 ≤ (mAt l k).2) : ∀ x ∈ l.take (k + 1), 0 ≤ x.2 := by
  intro x hx
  rw [List.take_succ_eq_append_getElem h] at hx
  rcases List.mem_append.1 hx with hx | hx
  · exact h1 x hx
  · rw [List.mem_singleton] at hx; rw [hx, ← mAt_get l k h]; exact h2
/-- What it answers: whether there is nothing below 0, of Rank. -/
def FiPost (p : Int) (S : St) (w : World) (r : Ending) (w' : World) : Prop := ∃ b, r = .returned (.bool b) ∧ (b = true → NN p S) ∧ Below w.heap.size w w'
set_option maxHeartbeats 1000000 in
theorem fits_any (p s l q : Int) (S : St) (A1 : Option Addr) (c1 : Nat) (A2 : Option Addr) (c2 : Nat) (A3 : Option Addr) (c3 : Nat) (w : World) (hS : StL w w.heap.size S A1 c1 A2 c2 A3 c3) :
    Calls Tryz.prog 7 #[.agg #[.int .i64 p, .int .i64 s, .int .i64 l, .int .i64 q], .agg #[.int .i64 S.step, .slice A1 S.vals.length c1, .slice A2 S.rest.length c2, .slice A3 S.inn.length c3]] w (FiPost p S w) := by
  have hb1 := below_alloc w (.cells #[.int .i64 p, .int .i64 s, .int .i64 l, .int .i64 q] 26)
  have hb2 := hb1.trans ((below_alloc (w.alloc (.cells #[.int .i64 p, .int .i64 s, .int .i64 l, .int .i64 q] 26)) (.cells #[.int .i64 S.step, .slice A1 S.vals.length c1, .slice A2 S.rest.length c2, .slice A3 S.inn.length c3] 31)).mono hb1.size)
  have HS := Lib.hid (hS.next hb2)
  have HB := Lib.hid hb2
  have hlv := hS.ok.lv
  have hlm := hS.ok.lm
  have j0 : ((w.alloc (.cells #[.int .i64 p, .int .i64 s, .int .i64 l, .int .i64 q] 26)).alloc (.cells #[.int .i64 S.step, .slice A1 S.vals.length c1, .slice A2 S.rest.length c2, .slice A3 S.inn.length c3] 31)).cell? ⟨w.heap.size, 0, none⟩ = some (.int .i64 p) := by simp [go_sem]
  have s1 : ((w.alloc (.cells #[.int .i64 p, .int .i64 s, .int .i64 l, .int .i64 q] 26)).alloc (.cells #[.int .i64 S.step, .slice A1 S.vals.length c1, .slice A2 S.rest.length c2, .slice A3 S.inn.length c3] 31)).cell? ⟨w.heap.size + 1, 1, none⟩ = some (.slice A1 S.vals.length c1) := by simp [go_sem]
  have s3 : ((w.alloc (.cells #[.int .i64 p, .int .i64 s, .int .i64 l, .int .i64 q] 26)).alloc (.cells #[.int .i64 S.step, .slice A1 S.vals.length c1, .slice A2 S.rest.length c2, .slice A3 S.inn.length c3] 31)).cell? ⟨w.heap.size + 1, 3, none⟩ = some (.slice A3 S.inn.length c3) := by simp [go_sem]
  clear hS hb1 hb2
  go_enter Tryz.func7, Tryz.ntmps7
  go_wp2_with fail
  generalize (w.alloc (.cells #[.int .i64 p, .int .i64 s, .int .i64 l, .int .i64 q] 26)).alloc (.cells #[.int .i64 S.step, .slice A1 S.vals.length c1, .slice A2 S.rest.length c2, .slice A3 S.inn.length c3] 31) = w2 at *
  by_cases hp : p = 5
  · have hp' : (p == 5) = true := by simpa using hp
    have HP := Lib.hid hp
    clear hp
    go_loopw [5] (fun i W => FiRel p S.vals w2 i W) (fun i W => S.vals.length - (intOf i).toNat)
    case atStart => exact ⟨0, rfl, Nat.zero_le _, Lib.hid (fun x hx => by simp at hx), rfl⟩
    case round =>
      obtain ⟨k, rfl, hk, HN, rfl⟩ := hrel
      by_cases hlt : k < S.vals.length
      · obtain ⟨ad, rfl, hadb, e0⟩ := HS.out.v.vs k hlt
        have hkl : (k : Int) < (S.vals.length : Int) := by omega
        by_cases hneg : vAt S.vals k < 0
        · go_wp2_with fail
          go_ret
          exact ⟨false, rfl, fun h => (by cases h), HB.out⟩
        · have HT := Lib.hid (take_nn hlt HN.out (by omega))
          go_wp2_with fail
          go_roundw
          case rel => exact ⟨k + 1, by go_num, by omega, HT, rfl⟩
          case measure => simp [intOf]; omega
      · have hk' : k = S.vals.length := by omega
        subst hk'
        have HV := Lib.hid (show ∀ x ∈ S.vals, 0 ≤ x by have := HN.out; rwa [List.take_length] at this)
        go_wp2_with fail
        go_loopw [6] (fun i W => FmRel p S.inn wr i W) (fun i W => S.inn.length - (intOf i).toNat)
        case atStart => exact ⟨0, rfl, Nat.zero_le _, Lib.hid (fun x hx => by simp at hx), rfl⟩
        case round =>
          obtain ⟨k, rfl, hk, HM, rfl⟩ := hrel
          by_cases hlt : k < S.inn.length
          · obtain ⟨ad, rfl, hadb, e0, e1⟩ := HS.out.m.ms k hlt
            have hkl : (k : Int) < (S.inn.length : Int) := by omega
            by_cases hneg : (mAt S.inn k).2 < 0
            · go_wp2_with fail
              go_ret
              exact ⟨false, rfl, fun h => (by cases h), HB.out⟩
            · have HT := Lib.hid (take_nm hlt HM.out (by omega))
              go_wp2_with fail
              go_roundw
              case rel => exact ⟨k + 1, by go_num, by omega, HT, rfl⟩
              case measure => simp [intOf]; omega
          · have hk' : k = S.inn.length := by omega
            subst hk'
            have HM2 := Lib.hid (show ∀ x ∈ S.inn, 0 ≤ x.2 by have := HM.out; rwa [List.take_length] at this)
            go_wp2_with fail
            go_ret
            exact ⟨true, rfl, fun _ _ => ⟨HV.out, HM2.out⟩, HB.out⟩
  · have hp' : (p == 5) = false := by simpa using hp
    have HP := Lib.hid hp
    clear hp
    have never : True := trivial
    go_loopw [5] (fun i W => i = .int .i64 0 ∧ W = w2) (fun i W => 0)
    case atStart => exact ⟨rfl, rfl⟩
    case round =>
      obtain ⟨rfl, rfl⟩ := hrel
      by_cases h0 : (0 : Int) < (S.vals.length : Int)
      all_goals
        go_wp2_with fail
        go_loopw [6] (fun i W => i = .int .i64 0 ∧ W = wr) (fun i W => 0)
        case atStart => exact ⟨rfl, rfl⟩
        case round =>
          obtain ⟨rfl, rfl⟩ := hrel
          by_cases h1 : (0 : Int) < (S.inn.length : Int)
          all_goals
            go_wp2_with fail
            go_ret
            exact ⟨true, rfl, fun _ h5 => absurd h5 HP.out, HB.out⟩
end Go.Proofs.YtbjmbjibkifboaaGreat
