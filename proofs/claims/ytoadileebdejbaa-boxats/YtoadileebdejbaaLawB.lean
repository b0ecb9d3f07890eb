/-
  The walk of BoxAts. No condition.
-/
import Derived.Test.YtoadileebdejbaaKnA
namespace Go.Proofs.Ytoadileebdejbaa
open Go.RowKit Go.Sort
set_option linter.unusedVariables false

set_option maxHeartbeats 2000000 in
theorem ats_walk (A : Option Addr) (n c : Nat) (a : List Ms) (A' : Option Addr) (n' c' : Nat) (b : List Ms) (v : Int) (w : World) (hA : Lies w w.heap.size 2 A n (mc a)) (hA' : Lies w w.heap.size 2 A' n' (mc b)) :
    Calls Try.prog 6 #[.slice A n c, .slice A' n' c', .int .i64 v] w fun e w' => e = .returned (.bool true) ∧ Below w.heap.size w w' := by
  obtain rfl := hA.ms_len
  obtain rfl := hA'.ms_len
  have HA := Lib.hid hA
  have HA' := Lib.hid hA'
  clear hA hA'
  by_cases hg : 300 < a.length
  · have HG := Lib.hid (show decide (300 < a.length) = true from decide_eq_true hg)
    clear hg
    go_enter Try.func6, Try.ntmps6
    go_wp2_with fail
    refine (great_any A a.length c _).mono ?_
    rintro e w1 ⟨rfl, rfl⟩
    rw [HG.out]
    go_wp2_with fail
    refine (knows_any _).mono ?_
    rintro e w2 ⟨rfl, hb2⟩
    have HB2 := Lib.hid hb2
    clear hb2
    go_wp2_with fail
    go_ret
    exact ⟨rfl, HB2.out⟩
  by_cases hg' : 300 < b.length
  · have HG := Lib.hid (show decide (300 < a.length) = false from decide_eq_false hg)
    have HG' := Lib.hid (show decide (300 < b.length) = true from decide_eq_true hg')
    clear hg hg'
    go_enter Try.func6, Try.ntmps6
    go_wp2_with fail
    refine (great_any A a.length c _).mono ?_
    rintro e w1 ⟨rfl, rfl⟩
    rw [HG.out]
    go_wp2_with fail
    refine (great_any A' b.length c' _).mono ?_
    rintro e w1 ⟨rfl, rfl⟩
    rw [HG'.out]
    go_wp2_with fail
    refine (knows_any _).mono ?_
    rintro e w2 ⟨rfl, hb2⟩
    have HB2 := Lib.hid hb2
    clear hb2
    go_wp2_with fail
    go_ret
    exact ⟨rfl, HB2.out⟩
  have HG := Lib.hid (show decide (300 < a.length) = false from decide_eq_false hg)
  have HG' := Lib.hid (show decide (300 < b.length) = false from decide_eq_false hg')
  have HN := Lib.hid (show a.length ≤ 1000000 by omega)
  have HN' := Lib.hid (show b.length ≤ 1000000 by omega)
  clear hg hg'
  go_enter Try.func6, Try.ntmps6
  go_wp2_with fail
  refine (great_any A a.length c _).mono ?_
  rintro e w1 ⟨rfl, rfl⟩
  rw [HG.out]
  go_wp2_with fail
  refine (great_any A' b.length c' _).mono ?_
  rintro e w1 ⟨rfl, rfl⟩
  rw [HG'.out]
  go_wp2_with fail
  refine (at_any A a.length c a v _ HA.out HN.out).mono ?_
  rintro e w2 ⟨rfl, hb2⟩
  have HB2 := Lib.hid hb2
  have HC2 := Lib.hid (rat_any A a.length c a v w2 (HA.out.next hb2) HN.out)
  clear hb2
  generalize atV a v = x at HC2 ⊢
  generalize atB a v = y at HC2 ⊢
  go_wp2_with fail
  refine HC2.out.mono ?_
  rintro e w3 ⟨rfl, hb3⟩
  have HB3 := Lib.hid (HB2.out.trans (hb3.mono HB2.out.size))
  clear hb3 HB2 HC2
  have HC3 := Lib.hid (own_any A a.length c a w3 (HA.out.next HB3.out) HN.out)
  cases y
  all_goals
    go_wp2_with fail
    refine HC3.out.mono ?_
    rintro e w4 ⟨A4, c4, rfl, ho4, hb4⟩
    have HO4 := Lib.hid ho4
    have HB4 := Lib.hid (HB3.out.trans (hb4.mono HB3.out.size))
    have HC4 := Lib.hid (own_any A' b.length c' b w4 (HA'.out.next HB4.out) HN'.out)
    clear ho4 hb4 HB3 HC3
    go_wp2_with fail
    refine HC4.out.mono ?_
    rintro e w5 ⟨A5, c5, rfl, ho5, hb5⟩
    have HC5 := Lib.hid (same_any A4 a.length c4 a A5 b.length c5 b w5 ((Lies.of_own HO4.out).next hb5) (Lies.of_own ho5) HN.out HN'.out)
    have HB5 := Lib.hid (HB4.out.trans (hb5.mono HB4.out.size))
    clear ho5 hb5 HO4 HB4 HC4
    go_wp2_with fail
    refine HC5.out.mono ?_
    rintro e w6 ⟨rfl, hb6⟩
    have HB6 := Lib.hid (HB5.out.trans (hb6.mono HB5.out.size))
    have HC6 := Lib.hid (rsame_any A a.length c a A' b.length c' b w6 (HA.out.next HB6.out) (HA'.out.next HB6.out) HN.out HN'.out)
    clear hb6 HB5 HC5
    generalize decide (msort a = msort b) = z at HC6 ⊢
    go_wp2_with fail
    refine HC6.out.mono ?_
    rintro e w7 ⟨rfl, hb7⟩
    have HB7 := Lib.hid (HB6.out.trans (hb7.mono HB6.out.size))
    have HC7 := Lib.hid (own_any A a.length c a w7 (HA.out.next HB7.out) HN.out)
    clear hb7 HB6 HC6
    cases z
    all_goals
      go_wp2_with fail
      refine HC7.out.mono ?_
      rintro e w8 ⟨A8, c8, rfl, ho8, hb8⟩
      have HO8 := Lib.hid ho8
      have HB8 := Lib.hid (HB7.out.trans (hb8.mono HB7.out.size))
      have HC8 := Lib.hid (own_any A a.length c a w8 (HA.out.next HB8.out) HN.out)
      clear ho8 hb8 HB7 HC7
      go_wp2_with fail
      refine HC8.out.mono ?_
      rintro e w9 ⟨A9, c9, rfl, ho9, hb9⟩
      have HO9 := Lib.hid (own_next HO8.out hb9)
      have HB9 := Lib.hid (HB8.out.trans (hb9.mono HB8.out.size))
      have HC9 := Lib.hid (sort_any A9 a.length c9 a w9 (Lies.of_own ho9) HN.out)
      clear ho9 hb9 HO8 HB8 HC8
      go_wp2_with fail
      refine HC9.out.mono ?_
      rintro e w10 ⟨A10, c10, rfl, ho10, hb10⟩
      have hc := same_any A8 a.length c8 a A10 _ c10 (msort a) w10 ((Lies.of_own HO9.out).next hb10) (Lies.of_own ho10) HN.out (by rw [msort_len]; exact HN.out)
      rw [show decide (msort a = msort (msort a)) = true from decide_eq_true (msort_of (msort_perm a).symm)] at hc
      have HC10 := Lib.hid hc
      have HB10 := Lib.hid (HB9.out.trans (hb10.mono HB9.out.size))
      clear hc ho10 hb10 HO9 HB9 HC9
      go_wp2_with fail
      refine HC10.out.mono ?_
      rintro e w11 ⟨rfl, hb11⟩
      have HB11 := Lib.hid (HB10.out.trans (hb11.mono HB10.out.size))
      clear hb11 HB10 HC10
      go_wp2_with fail
      refine (knows_any _).mono ?_
      rintro e w12 ⟨rfl, hb12⟩
      have HB12 := Lib.hid (HB11.out.trans (hb12.mono HB11.out.size))
      clear hb12
      go_wp2_with fail
      go_ret
      exact ⟨rfl, HB12.out⟩

end Go.Proofs.Ytoadileebdejbaa
