import Derived.Test.YtcaccjfnibjbpaaKu
/-
  The contracts of part.Home and Count and of the document's own Home, Verts, Count. No condition but that the numbers are not too many.
-/
namespace Go.Proofs.Ytcaccjfnibjbpaa
open Go.ChangeShapes Go.WideShapes Go.ChangeAt Go.RowKit
set_option linter.unusedVariables false

/-- A vertex's home. -/
def homeI (q v : Int) : Int := if v < 0 ∨ q < 1 ∨ 6 < q then -1 else v % q
theorem homeI_no {q v : Int} (h : v < 0 ∨ q < 1 ∨ 6 < q) : homeI q v = -1 := by unfold homeI; rw [if_pos h]
theorem homeI_yes {q v : Int} (h1 : ¬ v < 0) (h2 : ¬ q < 1) (h3 : ¬ 6 < q) : homeI q v = v % q := by unfold homeI; rw [if_neg (by omega)]
theorem homeI_bd (q v : Int) : bd (homeI q v) := by
  unfold homeI
  split
  · exact ⟨by decide, by decide⟩
  · have h1 := Int.emod_nonneg v (show q ≠ 0 by omega)
    have h2 := Int.emod_lt_of_pos v (show 0 < q by omega)
    unfold bd; omega
theorem home_any (p s l q v : Int) (w : World) :
    Calls Try.prog 56 #[.agg #[.int .i64 p, .int .i64 s, .int .i64 l, .int .i64 q], .int .i64 v] w fun e w' => e = .returned (.int .i64 (homeI q v)) ∧ Below w.heap.size w w' := by
  by_cases h1 : v < 0
  · have HF := Lib.hid (homeI_no (q := q) (.inl h1))
    go_enter Try.func56, Try.ntmps56
    go_wp2
    go_ret
    exact ⟨ret_int HF.out.symm, below_alloc _ _⟩
  · by_cases h2 : q < 1
    · have HF := Lib.hid (homeI_no (v := v) (.inr (.inl h2)))
      go_enter Try.func56, Try.ntmps56
      go_wp2
      go_ret
      exact ⟨ret_int HF.out.symm, below_alloc _ _⟩
    · by_cases h3 : 6 < q
      · have HF := Lib.hid (homeI_no (v := v) (.inr (.inr h3)))
        go_enter Try.func56, Try.ntmps56
        go_wp2
        go_ret
        exact ⟨ret_int HF.out.symm, below_alloc _ _⟩
      · have HF := Lib.hid (homeI_yes h1 h2 h3)
        have hq0 : q ≠ 0 := by omega
        go_enter Try.func56, Try.ntmps56
        go_wp2
        go_ret
        exact ⟨ret_int HF.out.symm, below_alloc _ _⟩
theorem rhome_any (p s l q v : Int) (w : World) (hv : bd v) :
    Calls Try.prog 62 #[.agg #[.int .i64 p, .int .i64 s, .int .i64 l, .int .i64 q], .int .i64 v] w fun e w' => e = .returned (.int .i64 (homeI q v)) ∧ Below w.heap.size w w' := by
  by_cases h1 : v < 0
  · have HF := Lib.hid (homeI_no (q := q) (.inl h1))
    go_enter Try.func62, Try.ntmps62
    go_wp2
    go_ret
    exact ⟨ret_int HF.out.symm, below_alloc _ _⟩
  · by_cases h2 : q < 1
    · have HF := Lib.hid (homeI_no (v := v) (.inr (.inl h2)))
      go_enter Try.func62, Try.ntmps62
      go_wp2
      go_ret
      exact ⟨ret_int HF.out.symm, below_alloc _ _⟩
    · by_cases h3 : 6 < q
      · have HF := Lib.hid (homeI_no (v := v) (.inr (.inr h3)))
        go_enter Try.func62, Try.ntmps62
        go_wp2
        go_ret
        exact ⟨ret_int HF.out.symm, below_alloc _ _⟩
      · have HF := Lib.hid (homeI_yes h1 h2 h3)
        have hq0 : q ≠ 0 := by omega
        go_enter Try.func62, Try.ntmps62
        go_wp2_with fail
        go_quiet (fail)
        go_wp2_with fail
        go_ret
        refine ⟨ret_int ?_, below_to_drewN (below_alloc _ _) _⟩
        rw [HF.out, Int.tdiv_eq_ediv_of_nonneg h1]
        unfold bd at hv
        unfold wrap64
        obtain rfl | rfl | rfl | rfl | rfl | rfl : q = 1 ∨ q = 2 ∨ q = 3 ∨ q = 4 ∨ q = 5 ∨ q = 6 := by omega
        all_goals omega
/-- The vertices of a home, of any number. -/
def vertsI (n : Nat) (q k : Int) : List Nat := (List.range n).filter fun (v : Nat) => decide ((v : Int) % q = k)
theorem vertsI_succ (n : Nat) (q k : Int) : vertsI (n + 1) q k = if (n : Int) % q = k then vertsI n q k ++ [n] else vertsI n q k := by
  unfold vertsI
  rw [List.range_succ, List.filter_append]
  by_cases h : (n : Int) % q = k
  · rw [if_pos h]; simp [h]
  · rw [if_neg h]; simp [h]
theorem vertsI_yes {n : Nat} {q k : Int} (h : (n : Int) % q = k) : vertsI (n + 1) q k = vertsI n q k ++ [n] := by rw [vertsI_succ, if_pos h]
theorem vertsI_no {n : Nat} {q k : Int} (h : ¬ (n : Int) % q = k) : vertsI (n + 1) q k = vertsI n q k := by rw [vertsI_succ, if_neg h]
theorem vertsI_len (n : Nat) (q k : Int) : (vertsI n q k).length ≤ n := by
  unfold vertsI
  have := List.length_filter_le (fun (v : Nat) => decide ((v : Int) % q = k)) (List.range n)
  rwa [List.length_range] at this
theorem mod_iff {q k : Int} (hq : 1 ≤ q) (hk : 0 ≤ k) (v : Nat) : (v : Int) % q = k ↔ v % q.toNat = k.toNat := by
  obtain ⟨a, rfl⟩ : ∃ a : Nat, q = a := ⟨q.toNat, by omega⟩
  obtain ⟨b, rfl⟩ : ∃ b : Nat, k = b := ⟨k.toNat, by omega⟩
  rw [Int.toNat_natCast, Int.toNat_natCast, ← Int.natCast_emod]
  omega
theorem vertsI_eq {n : Nat} {q k : Int} (hq : 1 ≤ q) (hk : 0 ≤ k) : vertsI n q k = verts n q.toNat k.toNat := by
  unfold vertsI verts
  congr 1
  funext v
  rw [Bool.eq_iff_iff]
  simp only [decide_eq_true_eq, beq_iff_eq]
  exact mod_iff hq hk v
def cntI (N : Int) (es : List Ed) (p s l q k : Int) : Int := if jchk N es p s l q = 0 then ((vertsI N.toNat q k).length : Int) else 0
def CoRel (q k : Int) (m : Nat) (w1 : World) (a i : Value) (W : World) : Prop := ∃ v : Nat, i = .int .i64 v ∧ v ≤ m ∧ a = .int .i64 ((vertsI v q k).length : Int) ∧ Below w1.heap.size w1 W
set_option maxHeartbeats 1000000 in
theorem count_any (N : Int) (A : Option Addr) (n c : Nat) (es : List Ed) (p s l q k : Int) (w : World) (hA : Lies w w.heap.size 3 A n (ec es)) (hnc : n ≤ c) (hn : n ≤ maxLen) :
    Calls Try.prog 52 #[.agg #[.int .i64 N, .slice A n c], .agg #[.int .i64 p, .int .i64 s, .int .i64 l, .int .i64 q], .int .i64 k] w fun e w' => e = .returned (.int .i64 (cntI N es p s l q k)) ∧ Below w.heap.size w w' := by
  have hbx := Bx.init w N A n c p s l q
  have hA1 := hA.next hbx.bl
  have HBX := Lib.hid hbx
  clear hbx
  go_enter Try.func52, Try.ntmps52
  go_wp2_with fail
  refine (jcheck_any N A n c es p s l q _ hA1 hnc hn).mono ?_
  rintro e w1 ⟨rfl, hb1⟩
  have hx1 := HBX.out.next hb1
  have HX1 := Lib.hid hx1
  clear hb1 hA1 HBX
  by_cases hj : jchk N es p s l q = 0
  · have HJ := Lib.hid hj
    have HR := Lib.hid (show cntI N es p s l q k = ((vertsI N.toNat q k).length : Int) by unfold cntI; rw [if_pos hj])
    have HB := Lib.hid (badJ_not (jchk_zero hj).2)
    obtain ⟨m, hm⟩ : ∃ m : Nat, N = m := ⟨N.toNat, by have := jchk_N hj; omega⟩
    have hm24 : m ≤ 24 := by have := jchk_N hj; omega
    have HM := Lib.hid hm
    rw [hj]
    have g0 := hx1.g0
    clear hj hm hx1
    go_wp2_with fail
    clear g0
    go_loopw [7, 15] (fun a i W => CoRel q k m w1 a i W) (fun a i W => m - (intOf i).toNat)
    case atStart => exact ⟨0, rfl, Nat.zero_le _, rfl, Below.refl _ _⟩
    case round =>
      obtain ⟨v, rfl, hv, rfl, hb⟩ := hrel
      have HXW := Lib.hid (HX1.out.next hb)
      have hlen := vertsI_len v q k
      by_cases hvm : v < m
      · have hvN : (v : Int) < N := by have := HM.out; omega
        have j0 := HXW.out.j0
        have j1 := HXW.out.j1
        have j2 := HXW.out.j2
        have j3 := HXW.out.j3
        have HF := Lib.hid (homeI_yes (q := q) (v := (v : Int)) (by omega) (by have := HB.out; omega) (by have := HB.out; omega))
        have HBW := Lib.hid hb
        clear hb
        go_wp2_with fail
        refine (home_any p s l q v _).mono ?_
        rintro e w2 ⟨rfl, hb2⟩
        have HB2 := Lib.hid (HXW.out.next hb2)
        have HBB := Lib.hid (HBW.out.trans (hb2.mono HBW.out.size))
        clear j0 j1 j2 j3 hb2
        by_cases he : (v : Int) % q = k
        · have he' : (homeI q v == k) = true := by rw [HF.out]; simpa using he
          have HV := Lib.hid (vertsI_yes he)
          clear he
          go_wp2_with fail
          go_roundw
          case rel => exact ⟨v + 1, by go_num, by omega, by rw [HV.out]; simp, HBB.out⟩
          case measure => simp [intOf]; omega
        · have he' : (homeI q v == k) = false := by rw [HF.out]; simpa using he
          have HV := Lib.hid (vertsI_no he)
          clear he
          go_wp2_with fail
          go_roundw
          case rel => exact ⟨v + 1, by go_num, by omega, by rw [HV.out], HBB.out⟩
          case measure => simp [intOf]; omega
      · have hv' : v = m := by omega
        subst hv'
        have hvN : ¬ ((v : Int) < N) := by have := HM.out; omega
        have HL := Lib.hid (show ((vertsI v q k).length : Int) = cntI N es p s l q k by rw [HR.out, HM.out]; simp)
        have HBL := Lib.hid HXW.out.bl
        clear hb
        go_wp2_with fail
        go_ret
        exact ⟨ret_int HL.out, HBL.out⟩
  · have h1 : (jchk N es p s l q != 0) = true := by simpa using hj
    have HR := Lib.hid (show cntI N es p s l q k = 0 by unfold cntI; rw [if_neg hj])
    have HBL := Lib.hid hx1.bl
    clear hj hx1
    go_wp2_with fail
    go_ret
    exact ⟨ret_int HR.out.symm, HBL.out⟩
/-- Vertices as cells. -/
def nv (l : List Nat) : List Int := l.map fun (v : Nat) => (v : Int)
theorem nv_len (l : List Nat) : (nv l).length = l.length := by unfold nv; simp
theorem nv_app (a b : List Nat) : nv (a ++ b) = nv a ++ nv b := by unfold nv; simp
def VeRel (q k : Int) (m : Nat) (w1 : World) (a i : Value) (W : World) : Prop := ∃ (v : Nat) (D : Option Addr) (d : Nat), i = .int .i64 v ∧ v ≤ m ∧ a = .slice D (vertsI v q k).length d ∧ Hid (Below w1.heap.size w1 W) ∧ Hid (W.ownsRow w1.heap.size 3 1 (.slice D (vertsI v q k).length d) (vertsI v q k).length (vc (nv (vertsI v q k))))
set_option maxHeartbeats 1000000 in
theorem verts_any (N : Int) (A : Option Addr) (n c : Nat) (p s l q k : Int) (w : World) (hN : 0 ≤ N ∧ N ≤ 24) (hq : 1 ≤ q) :
    Calls Try.prog 30 #[.agg #[.int .i64 N, .slice A n c], .agg #[.int .i64 p, .int .i64 s, .int .i64 l, .int .i64 q], .int .i64 k] w fun e w' => ∃ D d, e = .returned (.slice D (vertsI N.toNat q k).length d) ∧ w'.ownsRow w.heap.size 3 1 (.slice D (vertsI N.toNat q k).length d) (vertsI N.toNat q k).length (vc (nv (vertsI N.toNat q k))) ∧ Below w.heap.size w w' := by
  obtain ⟨iv, hiv, hzv, hzsv, hzbv⟩ := info_parts (show (Try.prog.info? 3).map (fun i => (i.zero, i.size, i.bytes)) = some (some (.int .i64 0), 1, 8) by kernel_rfl)
  have IV := Lib.hid hiv
  have ZV := Lib.hid hzv
  have SV := Lib.hid hzsv
  have BV := Lib.hid hzbv
  clear hiv hzv hzsv hzbv
  have hbx := Bx.init w N A n c p s l q
  have HBX := Lib.hid hbx
  have hq0 : q ≠ 0 := by omega
  obtain ⟨m, hm⟩ : ∃ m : Nat, N = m := ⟨N.toNat, by omega⟩
  have hm24 : m ≤ 24 := by omega
  have HM := Lib.hid hm
  obtain ⟨w1, hw1⟩ : ∃ w1, w1 = (w.alloc (.cells #[.int .i64 N, .slice A n c] 24)).alloc (.cells #[.int .i64 p, .int .i64 s, .int .i64 l, .int .i64 q] 26) := ⟨_, rfl⟩
  rw [← hw1] at HBX
  clear hbx hm hN
  go_enter Try.func30, Try.ntmps30
  go_wp2_with fail
  rw [← hw1]
  clear hw1
  go_loopw [7, 8] (fun a i W => VeRel q k m w1 a i W) (fun a i W => m - (intOf i).toNat)
  case atStart => exact ⟨0, none, 0, rfl, Nat.zero_le _, rfl, Lib.hid (Below.refl _ _), Lib.hid (World.ownsRow_nil _ _ _ _)⟩
  case round =>
    obtain ⟨v, D, d, rfl, hv, rfl, HB, HO⟩ := hrel
    have HXW := Lib.hid (HBX.out.next HB.out)
    have hlen := vertsI_len v q k
    have g0 := HXW.out.g0
    by_cases hvm : v < m
    · have hvN : (v : Int) < N := by have := HM.out; omega
      have j3 := HXW.out.j3
      by_cases he : (v : Int) % q = k
      · have he' : ((v : Int) % q == k) = true := by simpa using he
        have HV := Lib.hid (vertsI_yes he)
        clear he
        have HO1 := Lib.hid (own_next HO.out (below_alloc wr (.cells #[.int .i64 v] 3)))
        have HL1 := Lib.hid (lies_cells wr (vc [(v : Int)]) 3 1 1 rfl)
        have HB1 := Lib.hid (HB.out.trans ((below_alloc wr (.cells #[.int .i64 v] 3)).mono HB.out.size))
        go_wp2_with (at_builtin; go_must (refine wpList_app2 _ rfl (.tmp 21) (.tmp 23) 70 rfl w1.heap.size 3 iv _ 1 8 Try.underlying70 IV.out ZV.out SV.out BV.out rfl (by decide) D (vertsI v q k).length d (vc (nv (vertsI v q k))) rfl HO1.out (wr.heap.size + 1) (some ⟨wr.heap.size, 0, none⟩) 1 1 (vc [(v : Int)]) rfl HL1.out (vc_one _) ((vertsI v q k).length + 1) (vc (nv (vertsI v q k)) ++ vc [(v : Int)]) rfl rfl (by unfold maxLen; omega) (by omega) HB1.out.size ?_))
        intro A9 c9 w9 ho9 hb9 hg9
        have HO9 := Lib.hid ho9
        have HB9 := Lib.hid (HB1.out.trans hb9)
        clear ho9 hb9 hg9
        go_wp2_with fail
        go_roundw
        case rel => exact ⟨v + 1, A9, c9, by go_num, by omega, by rw [HV.out]; simp, HB9, by rw [HV.out, nv_app, vc_app, List.length_append]; exact HO9⟩
        case measure => simp [intOf]; omega
      · have he' : ((v : Int) % q == k) = false := by simpa using he
        have HV := Lib.hid (vertsI_no he)
        clear he
        go_wp2_with fail
        go_roundw
        case rel => exact ⟨v + 1, D, d, by go_num, by omega, by rw [HV.out], HB, by rw [HV.out]; exact HO⟩
        case measure => simp [intOf]; omega
    · have hv' : v = m := by omega
      subst hv'
      have hvN : ¬ ((v : Int) < N) := by have := HM.out; omega
      have HT := Lib.hid (show N.toNat = v by rw [HM.out]; simp)
      go_wp2_with fail
      go_ret
      rw [HT.out]
      exact ⟨D, d, rfl, HO.out.lower HBX.out.bl.size, HXW.out.bl⟩
end Go.Proofs.Ytcaccjfnibjbpaa

