import Derived.Test.YtgdgjkdigbohlaaRgG
/-
  The walks of RingMixes, RingPlaces, RingOwns and RingTotal. No condition but that the numbers are of 64 bits.
-/
namespace Go.Proofs.Ytgdgjkdigbohlaa
open Go.ChangeShapes Go.WideShapes Go.ChangeAt Go.RowKit
set_option linter.unusedVariables false

theorem mixes_walk (x : Int) (w : World) (h0 : 0 ≤ x) (h1 : x < 18446744073709551616) : Calls Try.prog 3 #[.int .u64 x] w fun e w' => e = .returned (.bool true) ∧ Below w.heap.size w w' := by
  go_enter Try.func3, Try.ntmps3
  go_wp2_with fail
  refine (mix_int x _ h0 h1).mono ?_
  rintro e w1 ⟨rfl, rfl⟩
  go_wp2_with fail
  refine (rmix_int x _ h0 h1).mono ?_
  rintro e w1 ⟨rfl, rfl⟩
  go_wp2_with fail
  refine (knows_any _).mono ?_
  rintro e w1 ⟨rfl, hb⟩
  have HB := Lib.hid hb
  clear hb
  go_wp2_with fail
  go_ret
  exact ⟨rfl, HB.out⟩
theorem places_walk (v i p : Int) (w : World) : Calls Try.prog 4 #[.int .i64 v, .int .i64 i, .int .i64 p] w fun e w' => e = .returned (.bool true) ∧ Below w.heap.size w w' := by
  go_enter Try.func4, Try.ntmps4
  go_wp2_with fail
  refine (place_any v i _).mono ?_
  rintro e w1 ⟨rfl, rfl⟩
  go_wp2_with fail
  refine (rplace_any v i _).mono ?_
  rintro e w1 ⟨rfl, rfl⟩
  go_wp2_with fail
  refine (key_any p _).mono ?_
  rintro e w1 ⟨rfl, rfl⟩
  go_wp2_with fail
  refine (rkey_any p _).mono ?_
  rintro e w1 ⟨rfl, rfl⟩
  go_wp2_with fail
  refine (knows_any _).mono ?_
  rintro e w1 ⟨rfl, hb⟩
  have HB := Lib.hid hb
  clear hb
  go_wp2_with fail
  go_ret
  exact ⟨rfl, HB.out⟩
theorem ownsR_len (ms : List Int) (q : Int) : (ownsR ms q).length ≤ 6 := by
  unfold ownsR
  cases h : okL ms q with
  | false => simp
  | true =>
    unfold okL at h
    rw [Bool.and_eq_true, decide_eq_true_eq] at h
    rw [if_pos rfl, ownL_len]; omega
theorem ownsE_bd (ms : List Int) (q : Int) : ownsE ms q = 0 ∨ ownsE ms q = 1 := by
  unfold ownsE; cases okL ms q <;> simp
set_option maxHeartbeats 2000000 in
theorem owns_walk (A : Option Addr) (c : Nat) (ms : List Int) (p q : Int) (w : World) (hA : Lies w w.heap.size 1 A ms.length (vc ms)) (hn : ms.length ≤ maxLen) :
    Calls Try.prog 5 #[.slice A ms.length c, .int .i64 p, .int .i64 q] w fun e w' => e = .returned (.bool true) ∧ Below w.heap.size w w' := by
  have HA := Lib.hid hA
  clear hA
  by_cases h100 : ms.length ≤ 100
  · have h1 : ¬ (100 : Int) < (ms.length : Int) := by omega
    have hn6 : ms.length ≤ 1000000 := by omega
    have HLN := Lib.hid (ownsR_len ms q)
    have HE := Lib.hid (ownsE_bd ms q)
    have HS := Lib.hid (show decide (ownsR ms q = rownsR ms q) = true from decide_eq_true (rowns_same ms q).symm)
    have HLR := Lib.hid (show (rownsR ms q).length ≤ 6 by rw [rowns_same]; exact ownsR_len ms q)
    clear hn
    go_enter Try.func5, Try.ntmps5
    go_wp2_with fail
    refine (owners_any A c ms q _ HA.out hn6).mono ?_
    rintro e w1 ⟨D1, d1, rfl, ho1, hb1⟩
    have HB1 := Lib.hid hb1
    have HL1 := Lib.hid (Lies.of_own ho1)
    have HA1 := Lib.hid (HA.out.next hb1)
    clear ho1 hb1
    go_wp2_with fail
    refine (rowners_any A c ms q _ HA1.out hn6).mono ?_
    rintro e w2 ⟨D2, d2, rfl, ho2, hb2⟩
    have HB2 := Lib.hid (HB1.out.trans (hb2.mono HB1.out.size))
    have HL2 := Lib.hid (Lies.of_own ho2)
    have HL1' := Lib.hid (HL1.out.next hb2)
    have HA2 := Lib.hid (HA1.out.next hb2)
    clear ho2 hb2
    go_wp2_with fail
    refine (same_any D1 d1 (ownsR ms q) D2 d2 (rownsR ms q) _ HL1'.out HL2.out (by have := HLN.out; omega) (by have := HLR.out; omega)).mono ?_
    rintro e w3 ⟨rfl, hb3⟩
    have HB3 := Lib.hid (HB2.out.trans (hb3.mono HB2.out.size))
    have HA3 := Lib.hid (HA2.out.next hb3)
    clear hb3
    rw [HS.out]
    have he' : (ownsE ms q != ownsE ms q) = false := by simp
    go_wp2_with fail
    refine (right_any A c ms _ HA3.out hn6).mono ?_
    rintro e w4 ⟨rfl, rfl⟩
    go_wp2_with fail
    refine (rright_any A c ms _ HA3.out hn6).mono ?_
    rintro e w5 ⟨rfl, hb5⟩
    have HB5 := Lib.hid (HB3.out.trans (hb5.mono HB3.out.size))
    have HA5 := Lib.hid (HA3.out.next hb5)
    clear hb5
    have hr' : (rgt ms != rgt ms) = false := by simp
    go_wp2_with fail
    refine (owner_any A c ms p _ HA5.out hn6).mono ?_
    rintro e w6 ⟨rfl, hb6⟩
    have HB6 := Lib.hid (HB5.out.trans (hb6.mono HB5.out.size))
    have HA6 := Lib.hid (HA5.out.next hb6)
    clear hb6
    go_wp2_with fail
    refine (rright_any A c ms _ HA6.out hn6).mono ?_
    rintro e w7 ⟨rfl, hb7⟩
    have HB7 := Lib.hid (HB6.out.trans (hb7.mono HB6.out.size))
    have HA7 := Lib.hid (HA6.out.next hb7)
    clear hb7
    cases hr : rgt ms with
    | false =>
      have HO := Lib.hid (okO_no (show okO ms p = false by unfold okO; rw [hr]; rfl))
      rw [HO.out.1, HO.out.2]
      clear hr
      go_wp2_with fail
      refine (knows_any _).mono ?_
      rintro e w8 ⟨rfl, hb8⟩
      have HB8 := Lib.hid (HB7.out.trans (hb8.mono HB7.out.size))
      clear hb8
      go_wp2_with fail
      go_ret
      exact ⟨rfl, HB8.out⟩
    | true =>
      have HR := Lib.hid hr
      clear hr
      by_cases hp : 0 ≤ p ∧ p < 6
      · have HO := Lib.hid (okO_yes (show okO ms p = true by unfold okO; rw [HR.out, ptB_yes hp]; rfl))
        rw [HO.out.1, HO.out.2]
        have h3 : ¬ p < 0 := by omega
        have h4 : ¬ 6 ≤ p := by omega
        clear hp
        have HX := Lib.hid (own_same HR.out p)
        go_wp2_with fail
        refine (rowner_any A c ms p _ HA7.out hn6).mono ?_
        rintro e w8 ⟨rfl, hb8⟩
        have HB8 := Lib.hid (HB7.out.trans (hb8.mono HB7.out.size))
        clear hb8
        rw [HX.out]
        go_wp2_with fail
        refine (knows_any _).mono ?_
        rintro e w9 ⟨rfl, hb9⟩
        have HB9 := Lib.hid (HB8.out.trans (hb9.mono HB8.out.size))
        clear hb9
        go_wp2_with fail
        go_ret
        exact ⟨rfl, HB9.out⟩
      · have HO := Lib.hid (okO_no (show okO ms p = false by unfold okO; rw [HR.out, ptB_no hp]; rfl))
        rw [HO.out.1, HO.out.2]
        by_cases h3 : p < 0
        · clear hp
          go_wp2_with fail
          refine (knows_any _).mono ?_
          rintro e w8 ⟨rfl, hb8⟩
          have HB8 := Lib.hid (HB7.out.trans (hb8.mono HB7.out.size))
          clear hb8
          go_wp2_with fail
          go_ret
          exact ⟨rfl, HB8.out⟩
        · have h4 : 6 ≤ p := by omega
          clear hp
          go_wp2_with fail
          refine (knows_any _).mono ?_
          rintro e w8 ⟨rfl, hb8⟩
          have HB8 := Lib.hid (HB7.out.trans (hb8.mono HB7.out.size))
          clear hb8
          go_wp2_with fail
          go_ret
          exact ⟨rfl, HB8.out⟩
  · have h1 : (100 : Int) < (ms.length : Int) := by omega
    unfold maxLen at hn
    go_enter Try.func5, Try.ntmps5
    go_wp2_with fail
    refine (knows_any _).mono ?_
    rintro e w8 ⟨rfl, hb8⟩
    have HB8 := Lib.hid hb8
    clear hb8
    go_wp2_with fail
    go_ret
    exact ⟨rfl, HB8.out⟩
end Go.Proofs.Ytgdgjkdigbohlaa
