/-
  The walks of BoxSorts, BoxJoins and BoxFolds. No condition but that the numbers are of 64 bits.
-/
import Derived.Test.YtoadileebdejbaaKnA
namespace Go.Proofs.Ytoadileebdejbaa
open Go.RowKit Go.Sort
set_option linter.unusedVariables false

set_option maxHeartbeats 1000000 in
theorem sorts_walk (A : Option Addr) (n c : Nat) (l : List Ms) (w : World) (hA : Lies w w.heap.size 2 A n (mc l)) :
    Calls Try.prog 3 #[.slice A n c] w fun e w' => e = .returned (.bool true) ∧ Below w.heap.size w w' := by
  obtain rfl := hA.ms_len
  have HA := Lib.hid hA
  clear hA
  by_cases hg : 300 < l.length
  · have HG := Lib.hid (show decide (300 < l.length) = true from decide_eq_true hg)
    clear hg
    go_enter Try.func3, Try.ntmps3
    go_wp2_with fail
    refine (great_any A l.length c _).mono ?_
    rintro e w1 ⟨rfl, rfl⟩
    rw [HG.out]
    go_wp2_with fail
    refine (knows_any _).mono ?_
    rintro e w2 ⟨rfl, hb2⟩
    have HB2 := Lib.hid hb2
    clear hb2
    go_wp2_with fail
    go_ret
    exact ⟨rfl, HB2.out⟩
  · have HG := Lib.hid (show decide (300 < l.length) = false from decide_eq_false hg)
    have HN := Lib.hid (show l.length ≤ 1000000 by omega)
    clear hg
    go_enter Try.func3, Try.ntmps3
    go_wp2_with fail
    refine (great_any A l.length c _).mono ?_
    rintro e w1 ⟨rfl, rfl⟩
    rw [HG.out]
    go_wp2_with fail
    refine (own_any A l.length c l _ HA.out HN.out).mono ?_
    rintro e w2 ⟨A2, c2, rfl, ho2, hb2⟩
    have HB2 := Lib.hid hb2
    have HC := Lib.hid (sort_any A2 _ c2 l w2 (Lies.of_own ho2) HN.out)
    clear ho2 hb2
    go_wp2_with fail
    refine HC.out.mono ?_
    rintro e w3 ⟨A3, c3, rfl, ho3, hb3⟩
    have HO3 := Lib.hid ho3
    have HB3 := Lib.hid (HB2.out.trans (hb3.mono HB2.out.size))
    clear ho3 hb3 HC HB2
    have HC2 := Lib.hid (rsort_any A l.length c l w3 (HA.out.next HB3.out) HN.out)
    go_wp2_with fail
    refine HC2.out.mono ?_
    rintro e w4 ⟨A4, c4, rfl, ho4, hb4⟩
    have HC3 := Lib.hid (sameM_any A3 _ c3 (msort l) A4 _ c4 (msort l) w4 ((Lies.of_own HO3.out).next hb4) (Lies.of_own ho4) (by rw [msort_len]; exact HN.out) (by rw [msort_len]; exact HN.out))
    rw [show decide (msort l = msort l) = true from decide_eq_true rfl] at HC3
    have HB4 := Lib.hid (HB3.out.trans (hb4.mono HB3.out.size))
    clear ho4 hb4 HC2
    go_wp2_with fail
    refine HC3.out.mono ?_
    rintro e w5 ⟨rfl, hb5⟩
    have HB5 := Lib.hid (HB4.out.trans (hb5.mono HB4.out.size))
    clear hb5 HC3
    go_wp2_with fail
    refine (knows_any _).mono ?_
    rintro e w6 ⟨rfl, hb6⟩
    have HB6 := Lib.hid (HB5.out.trans (hb6.mono HB5.out.size))
    clear hb6
    go_wp2_with fail
    go_ret
    exact ⟨rfl, HB6.out⟩

theorem lcat_small (ls : List Ls) (k : Nat) (h : ∀ i, i < k → (lAt ls i).2.2.2.length ≤ 300) (hk : k ≤ ls.length) : (lcat (ls.take k)).length ≤ k * 300 := by
  induction k with
  | zero => simp [lcat]
  | succ k ih =>
    rw [lcat_take ls k (by omega), List.length_append]
    have := ih (fun i hi => h i (by omega)) (by omega)
    have := h k (by omega)
    omega

def JlRel (ls : List Ls) (w : World) (i : Value) (W : World) : Prop := ∃ k : Nat, i = .int .i64 k ∧ k ≤ ls.length ∧ Hid (∀ i, i < k → (lAt ls i).2.2.2.length ≤ 300) ∧ w = W

set_option maxHeartbeats 1000000 in
theorem joins_walk (A : Option Addr) (n c : Nat) (ls : List Ls) (w : World) (hA : LL w w.heap.size A n ls) (hm : n ≤ maxLen) :
    Calls Try.prog 4 #[.slice A n c] w fun e w' => e = .returned (.bool true) ∧ Below w.heap.size w w' := by
  obtain rfl := hA.len
  have HA := Lib.hid hA
  clear hA
  by_cases hg : 20 < ls.length
  · have hz : (ls.length : Int) > 20 := by omega
    clear hg
    go_enter Try.func4, Try.ntmps4
    go_wp2_with fail
    refine (knows_any _).mono ?_
    rintro e w2 ⟨rfl, hb2⟩
    have HB2 := Lib.hid hb2
    clear hb2
    go_wp2_with fail
    go_ret
    exact ⟨rfl, HB2.out⟩
  · have hz : ¬ (ls.length : Int) > 20 := by omega
    go_enter Try.func4, Try.ntmps4
    go_wp2_with fail
    go_loopw [3] (fun i W => JlRel ls w i W) (fun i W => ls.length - (intOf i).toNat)
    case atStart => exact ⟨0, rfl, Nat.zero_le _, fun i hi => by omega, rfl⟩
    case round =>
      obtain ⟨k, rfl, hk, HK, rfl⟩ := hrel
      by_cases hlt : k < ls.length
      · obtain ⟨ad, rfl, hadb, e0, hl⟩ := HA.out.at k hlt
        have hkl : (k : Int) < (ls.length : Int) := by omega
        have h3 := hl.ms_len
        by_cases hb : 300 < (lAt ls k).2.1
        · have HG := Lib.hid (show decide (300 < (lAt ls k).2.1) = true from decide_eq_true hb)
          clear hb hl
          go_wp2_with fail
          refine (great_any _ _ _ _).mono ?_
          rintro e w1 ⟨rfl, rfl⟩
          rw [HG.out]
          go_wp2_with fail
          refine (knows_any _).mono ?_
          rintro e w2 ⟨rfl, hb2⟩
          have HB2 := Lib.hid hb2
          clear hb2
          go_wp2_with fail
          go_ret
          exact ⟨rfl, HB2.out⟩
        · have HG := Lib.hid (show decide (300 < (lAt ls k).2.1) = false from decide_eq_false hb)
          have HK2 := Lib.hid (show ∀ i, i < k + 1 → (lAt ls i).2.2.2.length ≤ 300 from fun i hi => by
            by_cases e : i = k
            · rw [e, h3]; omega
            · exact HK.out i (by omega))
          clear hb hl h3
          go_wp2_with fail
          refine (great_any _ _ _ _).mono ?_
          rintro e w1 ⟨rfl, rfl⟩
          rw [HG.out]
          go_wp2_with fail
          go_roundw
          case rel => exact ⟨k + 1, by go_num, by omega, HK2, by first | rfl | trivial⟩
          case measure => simp [intOf]; omega
      · have hk' : k = ls.length := by omega
        subst hk'
        have hs := lcat_small ls ls.length HK.out (Nat.le_refl _)
        rw [List.take_length] at hs
        have HN := Lib.hid (show (lcat ls).length ≤ 1000000 by omega)
        have HC := Lib.hid (join_any A ls.length c ls w HA.out (by omega) HN.out)
        clear hs
        go_wp2_with fail
        refine HC.out.mono ?_
        rintro e w3 ⟨A3, c3, rfl, ho3, hb3⟩
        have HO3 := Lib.hid ho3
        have HB3 := Lib.hid hb3
        clear ho3 hb3 HC
        have HC2 := Lib.hid (rjoin_any A ls.length c ls w3 (HA.out.next HB3.out) (by omega) HN.out)
        go_wp2_with fail
        refine HC2.out.mono ?_
        rintro e w4 ⟨A4, c4, rfl, ho4, hb4⟩
        have HC3 := Lib.hid (sameM_any A3 _ c3 (msort (lcat ls)) A4 _ c4 (msort (lcat ls)) w4 ((Lies.of_own HO3.out).next hb4) (Lies.of_own ho4) (by rw [msort_len]; exact HN.out) (by rw [msort_len]; exact HN.out))
        rw [show decide (msort (lcat ls) = msort (lcat ls)) = true from decide_eq_true rfl] at HC3
        have HB4 := Lib.hid (HB3.out.trans (hb4.mono HB3.out.size))
        clear ho4 hb4 HC2
        go_wp2_with fail
        refine HC3.out.mono ?_
        rintro e w5 ⟨rfl, hb5⟩
        have HB5 := Lib.hid (HB4.out.trans (hb5.mono HB4.out.size))
        clear hb5 HC3
        go_wp2_with fail
        refine (knows_any _).mono ?_
        rintro e w6 ⟨rfl, hb6⟩
        have HB6 := Lib.hid (HB5.out.trans (hb6.mono HB5.out.size))
        clear hb6
        go_wp2_with fail
        go_ret
        exact ⟨rfl, HB6.out⟩

theorem fl_len (p : Int) (r : List Ms) : ∀ (m : Ms) (y : List Ms), fl p m r = some y → y.length ≤ r.length + 1 := by
  induction r with
  | nil => intro m y h; injection h with h; subst h; simp
  | cons x r ih =>
    intro m y h
    by_cases e : x.1 = m.1
    · by_cases he : fdE p m.2 x.2 = 0
      · rw [fl_same e he] at h
        have := ih _ _ h
        simp; omega
      · rw [fl_none e he] at h; cases h
    · rw [fl_next e] at h
      cases hf : fl p x r with
      | none => rw [hf] at h; cases h
      | some z =>
        rw [hf] at h
        injection h with h
        subst h
        have := ih _ _ hf
        simp; omega
theorem fdL_len (p : Int) (s y : List Ms) (h : fdL p s = some y) : y.length ≤ s.length := by
  cases s with
  | nil => injection h with h; subst h; simp
  | cons m r => exact fl_len p r m y h
theorem fdR_len (p : Int) (l : List Ms) : (fdR p l).length ≤ l.length := by
  unfold fdR
  split
  · cases h : fdL p (msort l) with
    | none => simp
    | some y => have := fdL_len p _ y h; rw [msort_len] at this; simpa using this
  · simp

set_option maxHeartbeats 1000000 in
theorem folds_walk (p : Int) (A : Option Addr) (n c : Nat) (l : List Ms) (w : World) (hA : Lies w w.heap.size 2 A n (mc l)) (hbd : ∀ e ∈ l, bd e.2) :
    Calls Try.prog 5 #[.int .i64 p, .slice A n c] w fun e w' => e = .returned (.bool true) ∧ Below w.heap.size w w' := by
  obtain rfl := hA.ms_len
  have HA := Lib.hid hA
  have HBD := Lib.hid hbd
  clear hA hbd
  by_cases hg : 300 < l.length
  · have HG := Lib.hid (show decide (300 < l.length) = true from decide_eq_true hg)
    clear hg
    go_enter Try.func5, Try.ntmps5
    go_wp2_with fail
    refine (great_any A l.length c _).mono ?_
    rintro e w1 ⟨rfl, rfl⟩
    rw [HG.out]
    go_wp2_with fail
    refine (knows_any _).mono ?_
    rintro e w2 ⟨rfl, hb2⟩
    have HB2 := Lib.hid hb2
    clear hb2
    go_wp2_with fail
    go_ret
    exact ⟨rfl, HB2.out⟩
  · have HG := Lib.hid (show decide (300 < l.length) = false from decide_eq_false hg)
    have HN := Lib.hid (show l.length ≤ 1000000 by omega)
    have HR := Lib.hid (show (fdR p l).length ≤ 1000000 by have := fdR_len p l; omega)
    clear hg
    go_enter Try.func5, Try.ntmps5
    go_wp2_with fail
    refine (great_any A l.length c _).mono ?_
    rintro e w1 ⟨rfl, rfl⟩
    rw [HG.out]
    go_wp2_with fail
    refine (own_any A l.length c l _ HA.out HN.out).mono ?_
    rintro e w2 ⟨A2, c2, rfl, ho2, hb2⟩
    have HB2 := Lib.hid hb2
    have HC := Lib.hid (fdf_any p A2 _ c2 l w2 (Lies.of_own ho2) HN.out HBD.out)
    clear ho2 hb2
    go_wp2_with fail
    refine HC.out.mono ?_
    rintro e w3 ⟨A3, c3, rfl, ho3, hb3⟩
    have HO3 := Lib.hid ho3
    have HB3 := Lib.hid (HB2.out.trans (hb3.mono HB2.out.size))
    clear ho3 hb3 HC HB2
    have HC2 := Lib.hid (rfdf_any p A l.length c l w3 (HA.out.next HB3.out) HN.out HBD.out)
    go_wp2_with fail
    refine HC2.out.mono ?_
    rintro e w4 ⟨A4, c4, rfl, ho4, hb4⟩
    have HC3 := Lib.hid (sameM_any A3 _ c3 (fdR p l) A4 _ c4 (fdR p l) w4 ((Lies.of_own HO3.out).next hb4) (Lies.of_own ho4) HR.out HR.out)
    rw [show decide (fdR p l = fdR p l) = true from decide_eq_true rfl] at HC3
    have HB4 := Lib.hid (HB3.out.trans (hb4.mono HB3.out.size))
    clear ho4 hb4 HC2
    go_wp2_with fail
    refine HC3.out.mono ?_
    rintro e w5 ⟨rfl, hb5⟩
    have HB5 := Lib.hid (HB4.out.trans (hb5.mono HB4.out.size))
    clear hb5 HC3
    go_wp2_with fail
    refine (knows_any _).mono ?_
    rintro e w6 ⟨rfl, hb6⟩
    have HB6 := Lib.hid (HB5.out.trans (hb6.mono HB5.out.size))
    clear hb6
    go_wp2_with fail
    go_ret
    exact ⟨rfl, HB6.out⟩

end Go.Proofs.Ytoadileebdejbaa
