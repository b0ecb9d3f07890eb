/-
  The contracts of the document's SameVals, SameRest, Same, SameAnswer at what is the same; of great and wide. No condition but that the numbers are not too many.
-/
import Derived.Test.YtkmflofokgkekaaSqC
import Derived.BigQuiet
namespace Go.Proofs.Ytkmflofokgkekaa
open Go.RowKit
set_option linter.unusedVariables false

def SvRel (n : Nat) (w : World) (i : Value) (W : World) : Prop := ∃ k : Nat, i = .int .i64 k ∧ k ≤ n ∧ ∃ q, W = w.drewN q

set_option maxHeartbeats 1000000 in
theorem sameV_yes (A : Option Addr) (c : Nat) (A' : Option Addr) (c' : Nat) (l : List Int) (w : World) (hA : Lies w w.heap.size 1 A l.length (vc l)) (hA' : Lies w w.heap.size 1 A' l.length (vc l)) (hn : l.length ≤ 1000000) :
    Calls Try.prog 31 #[.slice A l.length c, .slice A' l.length c'] w fun e w' => e = .returned (.bool true) ∧ Below w.heap.size w w' := by
  go_enter Try.func31, Try.ntmps31
  go_wp2_with fail
  go_loopw [5] (fun i W => SvRel l.length w i W) (fun i W => l.length - (intOf i).toNat)
  case atStart => exact ⟨0, rfl, Nat.zero_le _, 0, rfl⟩
  case round =>
    obtain ⟨k, rfl, hk, q, rfl⟩ := hrel
    by_cases hlt : k < l.length
    · obtain ⟨ad, rfl, hadb, e0⟩ := hA.vs k hlt
      obtain ⟨ad', rfl, hadb', e0'⟩ := hA'.vs k hlt
      have hkl : (k : Int) < (l.length : Int) := by omega
      go_wp2_with fail
      go_quiet (fail)
      go_wp2_with fail
      go_roundw
      case rel => exact ⟨k + 1, by go_num, by omega, q + nq, rfl⟩
      case measure => simp [intOf]; omega
    · have hk' : k = l.length := by omega
      subst hk'
      go_wp2_with fail
      go_ret
      exact ⟨rfl, ⟨rfl, rfl, rfl, Nat.le_refl _, fun _ _ => rfl⟩⟩
set_option maxHeartbeats 1000000 in
theorem sameR_yes (A : Option Addr) (c : Nat) (A' : Option Addr) (c' : Nat) (l : List Bool) (w : World) (hA : Lies w w.heap.size 1 A l.length (rc l)) (hA' : Lies w w.heap.size 1 A' l.length (rc l)) (hn : l.length ≤ 1000000) :
    Calls Try.prog 32 #[.slice A l.length c, .slice A' l.length c'] w fun e w' => e = .returned (.bool true) ∧ Below w.heap.size w w' := by
  go_enter Try.func32, Try.ntmps32
  go_wp2_with fail
  go_loopw [5] (fun i W => SvRel l.length w i W) (fun i W => l.length - (intOf i).toNat)
  case atStart => exact ⟨0, rfl, Nat.zero_le _, 0, rfl⟩
  case round =>
    obtain ⟨k, rfl, hk, q, rfl⟩ := hrel
    by_cases hlt : k < l.length
    · obtain ⟨ad, rfl, hadb, e0⟩ := hA.rs k hlt
      obtain ⟨ad', rfl, hadb', e0'⟩ := hA'.rs k hlt
      have hkl : (k : Int) < (l.length : Int) := by omega
      go_wp2_with fail
      go_quiet (fail)
      go_wp2_with fail
      go_roundw
      case rel => exact ⟨k + 1, by go_num, by omega, q + nq, rfl⟩
      case measure => simp [intOf]; omega
    · have hk' : k = l.length := by omega
      subst hk'
      go_wp2_with fail
      go_ret
      exact ⟨rfl, ⟨rfl, rfl, rfl, Nat.le_refl _, fun _ _ => rfl⟩⟩

/-- Two states stand boxed in the first two blocks behind w. -/
structure B2 (w : World) (S : St) (A1 : Option Addr) (c1 : Nat) (A2 : Option Addr) (c2 : Nat) (A3 : Option Addr) (c3 : Nat) (S' : St) (D1 : Option Addr) (d1 : Nat) (D2 : Option Addr) (d2 : Nat) (D3 : Option Addr) (d3 : Nat) (W : World) : Prop where
  z : w.heap.size + 2 ≤ W.heap.size
  a0 : W.cell? ⟨w.heap.size, 0, none⟩ = some (.int .i64 S.step)
  a1 : W.cell? ⟨w.heap.size, 1, none⟩ = some (.slice A1 S.vals.length c1)
  a2 : W.cell? ⟨w.heap.size, 2, none⟩ = some (.slice A2 S.rest.length c2)
  a3 : W.cell? ⟨w.heap.size, 3, none⟩ = some (.slice A3 S.inn.length c3)
  b0 : W.cell? ⟨w.heap.size + 1, 0, none⟩ = some (.int .i64 S'.step)
  b1 : W.cell? ⟨w.heap.size + 1, 1, none⟩ = some (.slice D1 S'.vals.length d1)
  b2 : W.cell? ⟨w.heap.size + 1, 2, none⟩ = some (.slice D2 S'.rest.length d2)
  b3 : W.cell? ⟨w.heap.size + 1, 3, none⟩ = some (.slice D3 S'.inn.length d3)
  bl : Below w.heap.size w W
section
variable {w : World} {S : St} {A1 : Option Addr} {c1 : Nat} {A2 : Option Addr} {c2 : Nat} {A3 : Option Addr} {c3 : Nat} {S' : St} {D1 : Option Addr} {d1 : Nat} {D2 : Option Addr} {d2 : Nat} {D3 : Option Addr} {d3 : Nat} {W W' : World}
theorem B2.next (h : B2 w S A1 c1 A2 c2 A3 c3 S' D1 d1 D2 d2 D3 d3 W) (hb : Below W.heap.size W W') : B2 w S A1 c1 A2 c2 A3 c3 S' D1 d1 D2 d2 D3 d3 W' :=
  have k : ∀ b o, b < w.heap.size + 2 → W'.cell? ⟨b, o, none⟩ = W.cell? ⟨b, o, none⟩ := fun b o hl => hb.cell (p := ⟨b, o, none⟩) (Nat.lt_of_lt_of_le hl h.z)
  ⟨Nat.le_trans h.z hb.size, (k _ _ (by omega)).trans h.a0, (k _ _ (by omega)).trans h.a1, (k _ _ (by omega)).trans h.a2, (k _ _ (by omega)).trans h.a3, (k _ _ (by omega)).trans h.b0, (k _ _ (by omega)).trans h.b1, (k _ _ (by omega)).trans h.b2, (k _ _ (by omega)).trans h.b3,
    h.bl.trans (hb.mono (by have := h.z; omega))⟩
end
theorem B2.init (w : World) (S : St) (A1 : Option Addr) (c1 : Nat) (A2 : Option Addr) (c2 : Nat) (A3 : Option Addr) (c3 : Nat) (S' : St) (D1 : Option Addr) (d1 : Nat) (D2 : Option Addr) (d2 : Nat) (D3 : Option Addr) (d3 : Nat) :
    B2 w S A1 c1 A2 c2 A3 c3 S' D1 d1 D2 d2 D3 d3 ((w.alloc (.cells #[.int .i64 S.step, .slice A1 S.vals.length c1, .slice A2 S.rest.length c2, .slice A3 S.inn.length c3] 31)).alloc (.cells #[.int .i64 S'.step, .slice D1 S'.vals.length d1, .slice D2 S'.rest.length d2, .slice D3 S'.inn.length d3] 31)) :=
  ⟨by simp, by simp [go_sem], by simp [go_sem], by simp [go_sem], by simp [go_sem], by simp [go_sem], by simp [go_sem], by simp [go_sem], by simp [go_sem], ((Below.refl _ _).alloc (Nat.le_refl _) _).alloc (by simp) _⟩

set_option maxHeartbeats 1000000 in
theorem same_yes (S : St) (A1 : Option Addr) (c1 : Nat) (A2 : Option Addr) (c2 : Nat) (A3 : Option Addr) (c3 : Nat) (D1 : Option Addr) (d1 : Nat) (D2 : Option Addr) (d2 : Nat) (D3 : Option Addr) (d3 : Nat) (w : World)
    (hS : StL w w.heap.size S A1 c1 A2 c2 A3 c3) (hD : StL w w.heap.size S D1 d1 D2 d2 D3 d3) :
    Calls Try.prog 19 #[.agg #[.int .i64 S.step, .slice A1 S.vals.length c1, .slice A2 S.rest.length c2, .slice A3 S.inn.length c3], .agg #[.int .i64 S.step, .slice D1 S.vals.length d1, .slice D2 S.rest.length d2, .slice D3 S.inn.length d3]] w fun e w' => e = .returned (.bool true) ∧ Below w.heap.size w w' := by
  have hx := B2.init w S A1 c1 A2 c2 A3 c3 S D1 d1 D2 d2 D3 d3
  have HX := Lib.hid hx
  have HS := Lib.hid (hS.next hx.bl)
  have HD := Lib.hid (hD.next hx.bl)
  clear hx hS hD
  go_enter Try.func19, Try.ntmps19
  go_wp2_with fail
  refine (sameV_yes A1 c1 D1 d1 S.vals _ HS.out.v HD.out.v HS.out.ok.lv).mono ?_
  rintro e w1 ⟨rfl, hb1⟩
  have hx1 := HX.out.next hb1
  have HX1 := Lib.hid hx1
  have HS1 := Lib.hid (HS.out.next hb1)
  have HD1 := Lib.hid (HD.out.next hb1)
  obtain ⟨z, a0, a1, a2, a3, b0, b1, b2, b3, bl⟩ := hx1
  clear z bl HX HS HD hb1 a0 a1 b0 b1
  go_wp2_with fail
  refine (sameR_yes A2 c2 D2 d2 S.rest _ HS1.out.r HD1.out.r HS1.out.ok.lr).mono ?_
  rintro e w2 ⟨rfl, hb2⟩
  have hx2 := HX1.out.next hb2
  have HS2 := Lib.hid (HS1.out.next hb2)
  have HD2 := Lib.hid (HD1.out.next hb2)
  clear a2 a3 b2 b3
  have a3 := hx2.a3
  have b3 := hx2.b3
  have HB := Lib.hid hx2.bl
  clear hx2 HX1 HS1 HD1 hb2
  go_wp2_with fail
  refine (sameM_any A3 S.inn.length c3 S.inn D3 S.inn.length d3 S.inn _ HS2.out.m HD2.out.m HS2.out.ok.lm HS2.out.ok.lm).mono ?_
  rintro e w3 ⟨rfl, hb3⟩
  have HB3 := Lib.hid (HB.out.trans (hb3.mono HB.out.size))
  rw [decide_eq_true rfl]
  clear hb3
  go_wp2_with fail
  go_ret
  exact ⟨rfl, HB3.out⟩

set_option maxHeartbeats 1000000 in
theorem sameA_yes (kd st : Int) (vs : List Int) (A1 : Option Addr) (c1 : Nat) (D1 : Option Addr) (d1 : Nat) (w : World) (hS : Lies w w.heap.size 1 A1 vs.length (vc vs)) (hD : Lies w w.heap.size 1 D1 vs.length (vc vs)) (hn : vs.length ≤ 1000000) :
    Calls Try.prog 22 #[.agg #[.int .i64 kd, .int .i64 st, .slice A1 vs.length c1], .agg #[.int .i64 kd, .int .i64 st, .slice D1 vs.length d1]] w fun e w' => e = .returned (.bool true) ∧ Below w.heap.size w w' := by
  have hb := ((Below.refl w.heap.size w).alloc (Nat.le_refl _) (.cells #[.int .i64 kd, .int .i64 st, .slice A1 vs.length c1] 45)).alloc (by simp) (.cells #[.int .i64 kd, .int .i64 st, .slice D1 vs.length d1] 45)
  have HS := Lib.hid (hS.next hb)
  have HD := Lib.hid (hD.next hb)
  have HB := Lib.hid hb
  clear hb hS hD
  go_enter Try.func22, Try.ntmps22
  go_wp2_with fail
  refine (sameV_yes A1 c1 D1 d1 vs _ HS.out HD.out hn).mono ?_
  rintro e w1 ⟨rfl, hb1⟩
  have HB1 := Lib.hid (HB.out.trans (hb1.mono HB.out.size))
  clear hb1
  go_wp2_with fail
  go_ret
  exact ⟨rfl, HB1.out⟩

def wideB (S : St) : Bool := decide (100 < S.vals.length) || (decide (100 < S.rest.length) || decide (300 < S.inn.length))
set_option maxHeartbeats 1000000 in
theorem wide_any (S : St) (A1 : Option Addr) (c1 : Nat) (A2 : Option Addr) (c2 : Nat) (A3 : Option Addr) (c3 : Nat) (w : World) :
    Calls Try.prog 11 #[.agg #[.int .i64 S.step, .slice A1 S.vals.length c1, .slice A2 S.rest.length c2, .slice A3 S.inn.length c3]] w fun e w' => e = .returned (.bool (wideB S)) ∧ Below w.heap.size w w' := by
  have HB := Lib.hid (below_alloc w (.cells #[.int .i64 S.step, .slice A1 S.vals.length c1, .slice A2 S.rest.length c2, .slice A3 S.inn.length c3] 31))
  by_cases h1 : 100 < S.vals.length
  · have HW := Lib.hid (show wideB S = true by unfold wideB; rw [decide_eq_true h1]; rfl)
    have h1' : (100 : Int) < (S.vals.length : Int) := by omega
    go_enter Try.func11, Try.ntmps11
    go_wp2_with fail
    go_ret
    exact ⟨ret_bool HW.out.symm, HB.out⟩
  · have h1' : ¬ (100 : Int) < (S.vals.length : Int) := by omega
    by_cases h2 : 100 < S.rest.length
    · have HW := Lib.hid (show wideB S = true by unfold wideB; rw [decide_eq_true h2]; simp)
      have h2' : (100 : Int) < (S.rest.length : Int) := by omega
      go_enter Try.func11, Try.ntmps11
      go_wp2_with fail
      go_ret
      exact ⟨ret_bool HW.out.symm, HB.out⟩
    · have h2' : ¬ (100 : Int) < (S.rest.length : Int) := by omega
      by_cases h3 : 300 < S.inn.length
      · have HW := Lib.hid (show wideB S = true by unfold wideB; rw [decide_eq_true h3]; simp)
        have h3' : (300 : Int) < (S.inn.length : Int) := by omega
        go_enter Try.func11, Try.ntmps11
        go_wp2_with fail
        go_ret
        exact ⟨ret_bool HW.out.symm, HB.out⟩
      · have HW := Lib.hid (show wideB S = false by unfold wideB; rw [decide_eq_false h1, decide_eq_false h2, decide_eq_false h3]; rfl)
        have h3' : ¬ (300 : Int) < (S.inn.length : Int) := by omega
        go_enter Try.func11, Try.ntmps11
        go_wp2_with fail
        go_ret
        exact ⟨ret_bool HW.out.symm, HB.out⟩
theorem wide_no {S : St} (h : wideB S = false) : S.vals.length ≤ 100 ∧ S.rest.length ≤ 100 ∧ S.inn.length ≤ 300 := by
  unfold wideB at h
  simp only [Bool.or_eq_false_iff, decide_eq_false_iff_not] at h
  omega

end Go.Proofs.Ytkmflofokgkekaa
