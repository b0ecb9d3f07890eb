import Derived.Test.YtpgdddjjjfkneaaGreatDoorKu
/-
  The contracts of part.Home and Count and of the document's own Home, Verts, Count. No condition but that the numbers are not too many.
-/
namespace Go.Proofs.YtpgdddjjjfkneaaGreatDoor
open Go.ChangeShapes Go.WideShapes Go.ChangeAt Go.RowKit
set_option linter.unusedVariables false

/-- A vertex's home. -/
def homeI (q v : Int) : Int := if v < 0 ∨ q < 1 ∨ 6 < q then -1 else v % q
theorem homeI_no {q v : Int} (h : v < 0 ∨ q < 1 ∨ 6 < q) : homeI q v = -1 := by unfold homeI; rw [if_pos h]
theorem homeI_yes {q v : Int} (h1 : ¬ v < 0) (h2 : ¬ q < 1) (h3 : ¬ 6 < q) : homeI q v = v % q := by unfold homeI; rw [if_neg (by omega)]
theorem home_any (p s l q v : Int) (w : World) :
    Calls Tryz.prog 79 #[.agg #[.int .i64 p, .int .i64 s, .int .i64 l, .int .i64 q], .int .i64 v] w fun e w' => e = .returned (.int .i64 (homeI q v)) ∧ Below w.heap.size w w' := by
  by_cases h1 : v < 0
  · have HF := Lib.hid (homeI_no (q := q) (.inl h1))
    go_enter Tryz.func79, Tryz.ntmps79
    go_wp2
    go_ret
    exact ⟨ret_int HF.out.symm, below_alloc _ _⟩
  · by_cases h2 : q < 1
    · have HF := Lib.hid (homeI_no (v := v) (.inr (.inl h2)))
      go_enter Tryz.func79, Tryz.ntmps79
      go_wp2
      go_ret
      exact ⟨ret_int HF.out.symm, below_alloc _ _⟩
    · by_cases h3 : 6 < q
      · have HF := Lib.hid (homeI_no (v := v) (.inr (.inr h3)))
        go_enter Tryz.func79, Tryz.ntmps79
        go_wp2
        go_ret
        exact ⟨ret_int HF.out.symm, below_alloc _ _⟩
      · have HF := Lib.hid (homeI_yes h1 h2 h3)
        have hq0 : q ≠ 0 := by omega
        go_enter Tryz.func79, Tryz.ntmps79
        go_wp2
        go_ret
        exact ⟨ret_int HF.out.symm, below_alloc _ _⟩
/-- The vertices of a home, of any number. -/
def vertsI (n : Nat) (q k : Int) : List Nat := (List.range n).filter fun (v : Nat) => decide ((v : Int) % q = k)
theorem vertsI_succ (n : Nat) (q k : Int) : vertsI (n + 1) q k = if (n : Int) % q = k then vertsI n q k ++ [n] else vertsI n q k := by
  unfold vertsI
  rw [List.range_succ, List.filter_append]
  by_cases h : (n : Int) % q = k
  · rw [if_pos h]; simp [h]
  · rw [if_neg h]; simp [h]
theorem vertsI_yes {n : Nat} {q k : Int} (h : (n : Int) % q = k) : vertsI (n + 1) q k = vertsI n q k ++ [n] := by rw [vertsI_succ, if_pos h]
theorem vertsI_no {n : Nat} {q k : Int} (h : ¬ (n : Int) % q = k) : vertsI (n + 1) q k = vertsI n q k := by rw [vertsI_succ, if_neg h]
theorem vertsI_len (n : Nat) (q k : Int) : (vertsI n q k).length ≤ n := by
  unfold vertsI
  have := List.length_filter_le (fun (v : Nat) => decide ((v : Int) % q = k)) (List.range n)
  rwa [List.length_range] at this
theorem mod_iff {q k : Int} (hq : 1 ≤ q) (hk : 0 ≤ k) (v : Nat) : (v : Int) % q = k ↔ v % q.toNat = k.toNat := by
  obtain ⟨a, rfl⟩ : ∃ a : Nat, q = a := ⟨q.toNat, by omega⟩
  obtain ⟨b, rfl⟩ : ∃ b : Nat, k = b := ⟨k.toNat, by omega⟩
  rw [Int.toNat_natCast, Int.toNat_natCast, ← Int.natCast_emod]
  omega
theorem vertsI_eq {n : Nat} {q k : Int} (hq : 1 ≤ q) (hk : 0 ≤ k) : vertsI n q k = verts n q.toNat k.toNat := by
  unfold vertsI verts
  congr 1
  funext v
  rw [Bool.eq_iff_iff]
  simp only [decide_eq_true_eq, beq_iff_eq]
  exact mod_iff hq hk v
def cntI (N : Int) (es : List Ed) (p s l q k : Int) : Int := if jchk N es p s l q = 0 then ((vertsI N.toNat q k).length : Int) else 0
def CoRel (q k : Int) (m : Nat) (w1 : World) (a i : Value) (W : World) : Prop := ∃ v : Nat, i = .int .i64 v ∧ v ≤ m ∧ a = .int .i64 ((vertsI v q k).length : Int) ∧ Below w1.heap.size w1 W
set_option maxHeartbeats 1000000 in
theorem count_any (N : Int) (A : Option Addr) (n c : Nat) (es : List Ed) (p s l q k : Int) (w : World) (hA : Lies w w.heap.size 3 A n (ec es)) (hnc : n ≤ c) (hn : n ≤ maxLen) :
    Calls Tryz.prog 80 #[.agg #[.int .i64 N, .slice A n c], .agg #[.int .i64 p, .int .i64 s, .int .i64 l, .int .i64 q], .int .i64 k] w fun e w' => e = .returned (.int .i64 (cntI N es p s l q k)) ∧ Below w.heap.size w w' := by
  have hbx := Bx.init w N A n c p s l q
  have hA1 := hA.next hbx.bl
  have HBX := Lib.hid hbx
  clear hbx
  go_enter Tryz.func80, Tryz.ntmps80
  go_wp2_with fail
  refine (jcheck_any N A n c es p s l q _ hA1 hnc hn).mono ?_
  rintro e w1 ⟨rfl, hb1⟩
  have hx1 := HBX.out.next hb1
  have HX1 := Lib.hid hx1
  clear hb1 hA1 HBX
  by_cases hj : jchk N es p s l q = 0
  · have HJ := Lib.hid hj
    have HR := Lib.hid (show cntI N es p s l q k = ((vertsI N.toNat q k).length : Int) by unfold cntI; rw [if_pos hj])
    have HB := Lib.hid (badJ_not (jchk_zero hj).2)
    obtain ⟨m, hm⟩ : ∃ m : Nat, N = m := ⟨N.toNat, by have := jchk_N hj; omega⟩
    have hm24 : m ≤ 24 := by have := jchk_N hj; omega
    have HM := Lib.hid hm
    rw [hj]
    have g0 := hx1.g0
    clear hj hm hx1
    go_wp2_with fail
    clear g0
    go_loopw [7, 15] (fun a i W => CoRel q k m w1 a i W) (fun a i W => m - (intOf i).toNat)
    case atStart => exact ⟨0, rfl, Nat.zero_le _, rfl, Below.refl _ _⟩
    case round =>
      obtain ⟨v, rfl, hv, rfl, hb⟩ := hrel
      have HXW := Lib.hid (HX1.out.next hb)
      have hlen := vertsI_len v q k
      by_cases hvm : v < m
      · have hvN : (v : Int) < N := by have := HM.out; omega
        have j0 := HXW.out.j0
        have j1 := HXW.out.j1
        have j2 := HXW.out.j2
        have j3 := HXW.out.j3
        have HF := Lib.hid (homeI_yes (q := q) (v := (v : Int)) (by omega) (by have := HB.out; omega) (by have := HB.out; omega))
        have HBW := Lib.hid hb
        clear hb
        go_wp2_with fail
        refine (home_any p s l q v _).mono ?_
        rintro e w2 ⟨rfl, hb2⟩
        have HB2 := Lib.hid (HXW.out.next hb2)
        have HBB := Lib.hid (HBW.out.trans (hb2.mono HBW.out.size))
        clear j0 j1 j2 j3 hb2
        by_cases he : (v : Int) % q = k
        · have he' : (homeI q v == k) = true := by rw [HF.out]; simpa using he
          have HV := Lib.hid (vertsI_yes he)
          clear he
          go_wp2_with fail
          go_roundw
          case rel => exact ⟨v + 1, by go_num, by omega, by rw [HV.out]; simp, HBB.out⟩
          case measure => simp [intOf]; omega
        · have he' : (homeI q v == k) = false := by rw [HF.out]; simpa using he
          have HV := Lib.hid (vertsI_no he)
          clear he
          go_wp2_with fail
          go_roundw
          case rel => exact ⟨v + 1, by go_num, by omega, by rw [HV.out], HBB.out⟩
          case measure => simp [intOf]; omega
      · have hv' : v = m := by omega
        subst hv'
        have hvN : ¬ ((v : Int) < N) := by have := HM.out; omega
        have HL := Lib.hid (show ((vertsI v q k).length : Int) = cntI N es p s l q k by rw [HR.out, HM.out]; simp)
        have HBL := Lib.hid HXW.out.bl
        clear hb
        go_wp2_with fail
        go_ret
        exact ⟨ret_int HL.out, HBL.out⟩
  · have h1 : (jchk N es p s l q != 0) = true := by simpa using hj
    have HR := Lib.hid (show cntI N es p s l q k = 0 by unfold cntI; rw [if_neg hj])
    have HBL := Lib.hid hx1.bl
    clear hj hx1
    go_wp2_with fail
    go_ret
    exact ⟨ret_int HR.out.symm, HBL.out⟩
end Go.Proofs.YtpgdddjjjfkneaaGreatDoor


