import Derived.Test.YtgdgjkdigbohlaaRgG
/-
  The walks of RingTotal and RingComes. No condition but that the numbers are of 64 bits.
-/
namespace Go.Proofs.Ytgdgjkdigbohlaa
open Go.ChangeShapes Go.WideShapes Go.ChangeAt Go.RowKit
set_option linter.unusedVariables false

theorem total_in {ms o : List Int} {k : Nat} (h : ∀ x ∈ o, x ∈ ms) (hk : k < o.length) : decide (iAt o k ∈ ms) = true := decide_eq_true (h _ (iAt_mem o k hk))
def ToRel (n : Nat) (w : World) (i : Value) (W : World) : Prop := ∃ k : Nat, i = .int .i64 k ∧ k ≤ n ∧ W = w
set_option maxHeartbeats 2000000 in
theorem total_walk (A : Option Addr) (c : Nat) (l : List Int) (q : Int) (w : World) (hA : Lies w w.heap.size 1 A l.length (vc l)) (hn : l.length ≤ maxLen) :
    Calls Try.prog 6 #[.slice A l.length c, .int .i64 q] w fun e w' => e = .returned (.bool true) ∧ Below w.heap.size w w' := by
  have HA := Lib.hid hA
  clear hA
  by_cases h100 : l.length ≤ 100
  · have h1 : ¬ (100 : Int) < (l.length : Int) := by omega
    have hn6 : l.length ≤ 1000000 := by omega
    clear hn
    go_enter Try.func6, Try.ntmps6
    go_wp2_with fail
    refine (made_any A c l 5 _ HA.out hn6 (by decide)).mono ?_
    rintro e w1 ⟨D1, d1, rfl, ho1, hb1⟩
    have HB1 := Lib.hid hb1
    have HL1 := Lib.hid (Lies.of_own ho1)
    have HM5 := Lib.hid (made_len l 5 99)
    have HMR := Lib.hid (fun h => made_rgt (l := l) (n := 5) (by decide) h)
    clear ho1 hb1
    generalize made l 5 99 = ms at *
    go_wp2_with fail
    refine (owners_any D1 d1 ms q _ HL1.out (by have := HM5.out; omega)).mono ?_
    rintro e w2 ⟨D2, d2, rfl, ho2, hb2⟩
    have HB2 := Lib.hid (HB1.out.trans (hb2.mono HB1.out.size))
    have HL2 := Lib.hid (Lies.of_own ho2)
    have HL1' := Lib.hid (HL1.out.next hb2)
    clear ho2 hb2
    have bad : okL ms q = false → Hid (ownsR ms q = [] ∧ ownsE ms q = 1) := fun h => okL_no h
    by_cases h0 : ms.length = 0
    · obtain rfl := List.eq_nil_of_length_eq_zero h0
      have HO := bad rfl
      rw [HO.out.1, HO.out.2]
      clear bad
      go_wp2_with fail
      refine (knows_any _).mono ?_
      rintro e w8 ⟨rfl, hb8⟩
      have HB8 := Lib.hid (HB2.out.trans (hb8.mono HB2.out.size))
      clear hb8
      go_wp2_with fail
      go_ret
      exact ⟨rfl, HB8.out⟩
    · have h0' : ((ms.length : Int) == 0) = false := by simp; intro h; exact h0 (by rw [h]; rfl)
      have HR := Lib.hid (HMR.out (fun h => h0 (by rw [h]; rfl)))
      clear h0
      by_cases g1 : q < 1
      · have HO := bad (by unfold okL; rw [decide_eq_false (by omega)]; simp)
        rw [HO.out.1, HO.out.2]
        clear bad
        go_wp2_with fail
        refine (knows_any _).mono ?_
        rintro e w8 ⟨rfl, hb8⟩
        have HB8 := Lib.hid (HB2.out.trans (hb8.mono HB2.out.size))
        clear hb8
        go_wp2_with fail
        go_ret
        exact ⟨rfl, HB8.out⟩
      · by_cases g2 : 6 < q
        · have HO := bad (by unfold okL; rw [decide_eq_false (by omega)]; simp)
          rw [HO.out.1, HO.out.2]
          clear bad
          go_wp2_with fail
          refine (knows_any _).mono ?_
          rintro e w8 ⟨rfl, hb8⟩
          have HB8 := Lib.hid (HB2.out.trans (hb8.mono HB2.out.size))
          clear hb8
          go_wp2_with fail
          go_ret
          exact ⟨rfl, HB8.out⟩
        · have HO := Lib.hid (okL_yes (show okL ms q = true by unfold okL; rw [HR.out, decide_eq_true (by omega)]; rfl))
          obtain ⟨m, rfl⟩ : ∃ m : Nat, q = m := ⟨q.toNat, by omega⟩
          have HIN := Lib.hid (show ∀ x ∈ ownsR ms m, x ∈ ms by
            rw [HO.out.1]
            intro x hx
            unfold ownL at hx
            obtain ⟨p, _, rfl⟩ := List.mem_map.1 hx
            exact own_mem HR.out p)
          have HLN := Lib.hid (show (ownsR ms m).length = m by rw [HO.out.1, ownL_len]; simp)
          rw [HO.out.2]
          generalize ownsR ms m = o at HL2 HIN HLN ⊢
          have hm' : ((o.length : Int) != (m : Int)) = false := by rw [HLN.out]; simp
          clear bad
          go_wp2_with fail
          go_loopw [8] (fun i W => ToRel o.length w2 i W) (fun i W => o.length - (intOf i).toNat)
          case atStart => exact ⟨0, rfl, Nat.zero_le _, rfl⟩
          case round =>
            obtain ⟨k, rfl, hk, rfl⟩ := hrel
            by_cases hlt : k < o.length
            · obtain ⟨ad, rfl, hadb, e0⟩ := HL2.out.vs k hlt
              have hkl : (k : Int) < (o.length : Int) := by omega
              have hol : o.length ≤ 6 := by have := HLN.out; omega
              have HT := Lib.hid (total_in HIN.out hlt)
              go_wp2_with fail
              refine (has_any D1 d1 ms (iAt o k) _ HL1'.out (by have := HM5.out; omega)).mono ?_
              rintro e w1 ⟨rfl, rfl⟩
              rw [HT.out]
              go_wp2_with fail
              go_roundw
              case rel => exact ⟨k + 1, by go_num, by omega, rfl⟩
              case measure => simp [intOf]; omega
            · have hk' : k = o.length := by omega
              subst hk'
              go_wp2_with fail
              refine (knows_any _).mono ?_
              rintro e w8 ⟨rfl, hb8⟩
              have HB8 := Lib.hid (HB2.out.trans (hb8.mono HB2.out.size))
              clear hb8
              go_wp2_with fail
              go_ret
              exact ⟨rfl, HB8.out⟩
  · have h1 : (100 : Int) < (l.length : Int) := by omega
    unfold maxLen at hn
    go_enter Try.func6, Try.ntmps6
    go_wp2_with fail
    refine (knows_any _).mono ?_
    rintro e w8 ⟨rfl, hb8⟩
    have HB8 := Lib.hid hb8
    clear hb8
    go_wp2_with fail
    go_ret
    exact ⟨rfl, HB8.out⟩
end Go.Proofs.Ytgdgjkdigbohlaa
