import Derived.Test.YtgaebjnmcgmkfaaDoor
/-
  The walks of LeaseSafe and LeaseEnds. No condition but that numbers are numbers of 64 bits.
-/
namespace Go.Proofs.Ytgaebjnmcgmkfaa
open Go.ChangeShapes Go.WideShapes Go.ChangeAt Go.RowKit
set_option linter.unusedVariables false

def LateRel (a : Int) (w2 : World) (x i : Value) (W : World) : Prop := ∃ (k : Nat) (z : Int), i = .int .i64 k ∧ k ≤ 50 ∧ x = .int .i64 z ∧ Hid (a ≤ z ∧ z ≤ a + 9 * k) ∧ W = w2
def TickRel (a g : Int) (w2 : World) (x y i : Value) (W : World) : Prop := ∃ (k : Nat) (z u : Int), i = .int .i64 k ∧ k ≤ 150 ∧ x = .int .i64 z ∧ y = .int .i64 u ∧ Hid (Tick a g z u k) ∧ W = w2
set_option maxHeartbeats 4000000 in
theorem safe_walk (a g n : Int) (A0 : Option Addr) (c0 : Nat) (l0 : List Int) (A1 : Option Addr) (c1 : Nat) (l1 : List Int) (w : World) (bm : -9223372036854775808 ≤ a ∧ a ≤ 9223372036854775807) (bg : -9223372036854775808 ≤ g ∧ g ≤ 9223372036854775807)
    (h0 : Lies w w.heap.size 1 A0 l0.length (uc l0)) (h1 : Lies w w.heap.size 1 A1 l1.length (uc l1)) (m0 : l0.length ≤ maxLen) (m1 : l1.length ≤ maxLen) (r0 : Bytes l0) (r1 : Bytes l1) :
    Calls Try.prog 5 #[.int .i64 a, .int .i64 g, .int .i64 n, .slice A0 l0.length c0, .slice A1 l1.length c1] w fun e w' => e = .returned (.bool true) ∧ Below w.heap.size w w' := by
  have H0 := Lib.hid h0
  have H1 := Lib.hid h1
  have R0 := Lib.hid r0
  have R1 := Lib.hid r1
  have M0 : l0.length ≤ 9223372036854775807 := m0
  have M1 : l1.length ≤ 9223372036854775807 := m1
  clear h0 h1 r0 r1 m0 m1
  by_cases g0 : a < 0
  · go_enter Try.func5, Try.ntmps5
    go_wp2_with fail
    refine (knows_any _).mono ?_
    rintro e w9 ⟨rfl, hb9⟩
    have HB9 := Lib.hid hb9
    clear hb9
    go_wp2_with fail
    go_ret
    exact ⟨rfl, HB9.out⟩
  by_cases g1 : 1073741824 < a
  · go_enter Try.func5, Try.ntmps5
    go_wp2_with fail
    refine (knows_any _).mono ?_
    rintro e w9 ⟨rfl, hb9⟩
    have HB9 := Lib.hid hb9
    clear hb9
    go_wp2_with fail
    go_ret
    exact ⟨rfl, HB9.out⟩
  by_cases g2 : g < 0
  · go_enter Try.func5, Try.ntmps5
    go_wp2_with fail
    refine (knows_any _).mono ?_
    rintro e w9 ⟨rfl, hb9⟩
    have HB9 := Lib.hid hb9
    clear hb9
    go_wp2_with fail
    go_ret
    exact ⟨rfl, HB9.out⟩
  by_cases g3 : 1073741824 < g
  · go_enter Try.func5, Try.ntmps5
    go_wp2_with fail
    refine (knows_any _).mono ?_
    rintro e w9 ⟨rfl, hb9⟩
    have HB9 := Lib.hid hb9
    clear hb9
    go_wp2_with fail
    go_ret
    exact ⟨rfl, HB9.out⟩
  by_cases g4 : n < 1
  · go_enter Try.func5, Try.ntmps5
    go_wp2_with fail
    refine (knows_any _).mono ?_
    rintro e w9 ⟨rfl, hb9⟩
    have HB9 := Lib.hid hb9
    clear hb9
    go_wp2_with fail
    go_ret
    exact ⟨rfl, HB9.out⟩
  by_cases g5 : 60 < n
  · go_enter Try.func5, Try.ntmps5
    go_wp2_with fail
    refine (knows_any _).mono ?_
    rintro e w9 ⟨rfl, hb9⟩
    have HB9 := Lib.hid hb9
    clear hb9
    go_wp2_with fail
    go_ret
    exact ⟨rfl, HB9.out⟩
  have CU := Lib.hid (fun W => until_any a n W bm.1 bm.2)
  have CF := Lib.hid (fun W => free_any g n W bg.1 bg.2)
  have HU := Lib.hid (un_say (m := a) (n := n) (by omega) (by omega) (by omega) (by omega))
  have HF := Lib.hid (fr_say (m := g) (n := n) (by omega) (by omega) (by omega) (by omega))
  unfold TlPost at CU CF
  have HN := Lib.hid (And.intro (cl_pos (n := n) (by omega)).1 (cl_most (n := n) (by omega)))
  obtain ⟨f, hf⟩ : ∃ f, f = cl n := ⟨_, rfl⟩
  have HFN := Lib.hid hf
  rw [← hf] at HF HN CF
  clear bm bg hf
  go_enter Try.func5, Try.ntmps5
  go_wp2_with fail
  refine (CU.out _).mono ?_
  rintro e w1 ⟨rfl, hb1⟩
  rw [HU.out]
  have HB1 := Lib.hid hb1
  clear hb1
  go_wp2_with fail
  refine (CF.out _).mono ?_
  rintro e w2 ⟨rfl, hb2⟩
  rw [HF.out]
  have HB2 := Lib.hid (below_then HB1.out hb2)
  clear hb2
  go_wp2_with fail
  go_loopw [15, 17] (fun x i W => LateRel a w2 x i W) (fun x i W => 50 - (intOf i).toNat)
  case atStart => exact ⟨0, a, rfl, by omega, rfl, by constructor <;> omega, rfl⟩
  case round =>
    obtain ⟨k, z, rfl, hk, rfl, HZ, rfl⟩ := hrel
    by_cases hlt : k < l0.length
    · by_cases h50 : k < 50
      · obtain ⟨ad, rfl, hadb, e0⟩ := (H0.out.below HB2.out).us k hlt
        have hr := R0.out.at k hlt
        have hkl : (k : Int) < (l0.length : Int) := by omega
        have hk50 : (k : Int) < 50 := by omega
        have hz1 := HZ.out.1
        have hz2 := HZ.out.2
        generalize iAt l0 k = b at *
        obtain ⟨hr1, hr2⟩ := hr
        go_wp2_with fail
        go_roundw
        case rel => exact ⟨k + 1, _, by go_num, by omega, rfl, Lib.hid (by omega), rfl⟩
        case measure => simp [intOf]; omega
      · have hkl : (k : Int) < (l0.length : Int) := by omega
        have hk' : k = 50 := by omega
        subst hk'
        obtain ⟨wo, rfl⟩ : ∃ wo : World, wo = wr := ⟨_, rfl⟩
        go_wp2_with fail
        go_loopw [15, 16, 18] (fun x y i W => TickRel a g wo x y i W) (fun x y i W => 150 - (intOf i).toNat)
        case atStart => exact ⟨0, z, g, rfl, by omega, rfl, rfl, by have := HZ.out; constructor <;> omega, rfl⟩
        case round =>
          obtain ⟨k, z, u, rfl, hk, rfl, rfl, HT, rfl⟩ := hrel
          by_cases hlt : k < 150
          · have hk150 : (k : Int) < 150 := by omega
            have ht1 := HT.out.lo
            have ht2 := HT.out.up
            have ht3 := HT.out.lc
            have ht4 := HT.out.uc
            have CH := Lib.hid (fun W => holds_any z (a + 8 * n) W)
            have CG := Lib.hid (fun W => gone_any u (g + f) W)
            have HS := Lib.hid (show z < a + 8 * n → decide (g + f ≤ u) = false from fun h => decide_eq_false (by have := HT.out.safe h; rw [HFN.out]; omega))
            have hn5 : (a + 8 * n) ≤ 2147483647 := by omega
            by_cases hw : z < a + 8 * n
            · have HS' := Lib.hid (HS.out hw)
              rw [decide_eq_true hw] at CH
              rw [HS'.out] at CG
              clear hw
              go_wp2_with fail
              refine (CH.out _).mono ?_
              rintro e w8 ⟨rfl, rfl⟩
              go_wp2_with fail
              refine (CG.out _).mono ?_
              rintro e w8 ⟨rfl, rfl⟩
              by_cases hl1 : k < l1.length
              · obtain ⟨ad, rfl, hadb, e0⟩ := (H1.out.below HB2.out).us k hl1
                have hr := R1.out.at k hl1
                have hkl : (k : Int) < (l1.length : Int) := by omega
                generalize iAt l1 k = b at *
                obtain ⟨hr1, hr2⟩ := hr
                go_wp2_with fail
                go_roundw
                case rel => exact ⟨k + 1, z + 7 + b % 9 % 3, u + 7 + b % 9 / 3, by go_num, by omega, by go_num, by go_num, Lib.hid (HT.out.step (by omega) (by omega) (by omega) (by omega)), rfl⟩
                case measure => simp [intOf]; omega
              · have hkl : ¬ (k : Int) < (l1.length : Int) := by omega
                by_cases ho : (l1.length : Int) % 2 = 1
                · have ho' : (((l1.length : Int) % 2) == 1) = true := by simpa using ho
                  have ho2 : ((Int.tmod (l1.length : Int) 2) == 1) = true := by rw [Int.tmod_eq_emod_of_nonneg (by omega)]; exact ho'
                  clear ho
                  go_wp2_with fail
                  go_roundw
                  case rel => exact ⟨k + 1, z + 7 + 0, u + 7 + 2, by go_num, by omega, by go_num, by go_num, Lib.hid (HT.out.step (by omega) (by omega) (by omega) (by omega)), rfl⟩
                  case measure => simp [intOf]; omega
                · have ho' : (((l1.length : Int) % 2) == 1) = false := by simpa using ho
                  have ho2 : ((Int.tmod (l1.length : Int) 2) == 1) = false := by rw [Int.tmod_eq_emod_of_nonneg (by omega)]; exact ho'
                  clear ho
                  go_wp2_with fail
                  go_roundw
                  case rel => exact ⟨k + 1, z + 7 + 0, u + 7 + 0, by go_num, by omega, by go_num, by go_num, Lib.hid (HT.out.step (by omega) (by omega) (by omega) (by omega)), rfl⟩
                  case measure => simp [intOf]; omega
            · rw [decide_eq_false hw] at CH
              clear hw
              go_wp2_with fail
              refine (CH.out _).mono ?_
              rintro e w8 ⟨rfl, rfl⟩
              by_cases hl1 : k < l1.length
              · obtain ⟨ad, rfl, hadb, e0⟩ := (H1.out.below HB2.out).us k hl1
                have hr := R1.out.at k hl1
                have hkl : (k : Int) < (l1.length : Int) := by omega
                generalize iAt l1 k = b at *
                obtain ⟨hr1, hr2⟩ := hr
                go_wp2_with fail
                go_roundw
                case rel => exact ⟨k + 1, z + 7 + b % 9 % 3, u + 7 + b % 9 / 3, by go_num, by omega, by go_num, by go_num, Lib.hid (HT.out.step (by omega) (by omega) (by omega) (by omega)), rfl⟩
                case measure => simp [intOf]; omega
              · have hkl : ¬ (k : Int) < (l1.length : Int) := by omega
                by_cases ho : (l1.length : Int) % 2 = 1
                · have ho' : (((l1.length : Int) % 2) == 1) = true := by simpa using ho
                  have ho2 : ((Int.tmod (l1.length : Int) 2) == 1) = true := by rw [Int.tmod_eq_emod_of_nonneg (by omega)]; exact ho'
                  clear ho
                  go_wp2_with fail
                  go_roundw
                  case rel => exact ⟨k + 1, z + 7 + 0, u + 7 + 2, by go_num, by omega, by go_num, by go_num, Lib.hid (HT.out.step (by omega) (by omega) (by omega) (by omega)), rfl⟩
                  case measure => simp [intOf]; omega
                · have ho' : (((l1.length : Int) % 2) == 1) = false := by simpa using ho
                  have ho2 : ((Int.tmod (l1.length : Int) 2) == 1) = false := by rw [Int.tmod_eq_emod_of_nonneg (by omega)]; exact ho'
                  clear ho
                  go_wp2_with fail
                  go_roundw
                  case rel => exact ⟨k + 1, z + 7 + 0, u + 7 + 0, by go_num, by omega, by go_num, by go_num, Lib.hid (HT.out.step (by omega) (by omega) (by omega) (by omega)), rfl⟩
                  case measure => simp [intOf]; omega
          · have hk' : k = 150 := by omega
            subst hk'
            go_wp2_with fail
            refine (knows_any _).mono ?_
            rintro e w9 ⟨rfl, hb9⟩
            have HB9 := Lib.hid (below_then HB2.out hb9)
            clear hb9
            go_wp2_with fail
            go_ret
            exact ⟨rfl, HB9.out⟩
    · have hkl : ¬ (k : Int) < (l0.length : Int) := by omega
      obtain ⟨wo, rfl⟩ : ∃ wo : World, wo = wr := ⟨_, rfl⟩
      have HK := Lib.hid hk
      clear hk
      go_wp2_with fail
      go_loopw [15, 16, 18] (fun x y i W => TickRel a g wo x y i W) (fun x y i W => 150 - (intOf i).toNat)
      case atStart => exact ⟨0, z, g, rfl, by omega, rfl, rfl, by have := HZ.out; have := HK.out; constructor <;> omega, rfl⟩
      case round =>
        obtain ⟨k, z, u, rfl, hk, rfl, rfl, HT, rfl⟩ := hrel
        by_cases hlt : k < 150
        · have hk150 : (k : Int) < 150 := by omega
          have ht1 := HT.out.lo
          have ht2 := HT.out.up
          have ht3 := HT.out.lc
          have ht4 := HT.out.uc
          have CH := Lib.hid (fun W => holds_any z (a + 8 * n) W)
          have CG := Lib.hid (fun W => gone_any u (g + f) W)
          have HS := Lib.hid (show z < a + 8 * n → decide (g + f ≤ u) = false from fun h => decide_eq_false (by have := HT.out.safe h; rw [HFN.out]; omega))
          have hn5 : (a + 8 * n) ≤ 2147483647 := by omega
          by_cases hw : z < a + 8 * n
          · have HS' := Lib.hid (HS.out hw)
            rw [decide_eq_true hw] at CH
            rw [HS'.out] at CG
            clear hw
            go_wp2_with fail
            refine (CH.out _).mono ?_
            rintro e w8 ⟨rfl, rfl⟩
            go_wp2_with fail
            refine (CG.out _).mono ?_
            rintro e w8 ⟨rfl, rfl⟩
            by_cases hl1 : k < l1.length
            · obtain ⟨ad, rfl, hadb, e0⟩ := (H1.out.below HB2.out).us k hl1
              have hr := R1.out.at k hl1
              have hkl : (k : Int) < (l1.length : Int) := by omega
              generalize iAt l1 k = b at *
              obtain ⟨hr1, hr2⟩ := hr
              go_wp2_with fail
              go_roundw
              case rel => exact ⟨k + 1, z + 7 + b % 9 % 3, u + 7 + b % 9 / 3, by go_num, by omega, by go_num, by go_num, Lib.hid (HT.out.step (by omega) (by omega) (by omega) (by omega)), rfl⟩
              case measure => simp [intOf]; omega
            · have hkl : ¬ (k : Int) < (l1.length : Int) := by omega
              by_cases ho : (l1.length : Int) % 2 = 1
              · have ho' : (((l1.length : Int) % 2) == 1) = true := by simpa using ho
                have ho2 : ((Int.tmod (l1.length : Int) 2) == 1) = true := by rw [Int.tmod_eq_emod_of_nonneg (by omega)]; exact ho'
                clear ho
                go_wp2_with fail
                go_roundw
                case rel => exact ⟨k + 1, z + 7 + 0, u + 7 + 2, by go_num, by omega, by go_num, by go_num, Lib.hid (HT.out.step (by omega) (by omega) (by omega) (by omega)), rfl⟩
                case measure => simp [intOf]; omega
              · have ho' : (((l1.length : Int) % 2) == 1) = false := by simpa using ho
                have ho2 : ((Int.tmod (l1.length : Int) 2) == 1) = false := by rw [Int.tmod_eq_emod_of_nonneg (by omega)]; exact ho'
                clear ho
                go_wp2_with fail
                go_roundw
                case rel => exact ⟨k + 1, z + 7 + 0, u + 7 + 0, by go_num, by omega, by go_num, by go_num, Lib.hid (HT.out.step (by omega) (by omega) (by omega) (by omega)), rfl⟩
                case measure => simp [intOf]; omega
          · rw [decide_eq_false hw] at CH
            clear hw
            go_wp2_with fail
            refine (CH.out _).mono ?_
            rintro e w8 ⟨rfl, rfl⟩
            by_cases hl1 : k < l1.length
            · obtain ⟨ad, rfl, hadb, e0⟩ := (H1.out.below HB2.out).us k hl1
              have hr := R1.out.at k hl1
              have hkl : (k : Int) < (l1.length : Int) := by omega
              generalize iAt l1 k = b at *
              obtain ⟨hr1, hr2⟩ := hr
              go_wp2_with fail
              go_roundw
              case rel => exact ⟨k + 1, z + 7 + b % 9 % 3, u + 7 + b % 9 / 3, by go_num, by omega, by go_num, by go_num, Lib.hid (HT.out.step (by omega) (by omega) (by omega) (by omega)), rfl⟩
              case measure => simp [intOf]; omega
            · have hkl : ¬ (k : Int) < (l1.length : Int) := by omega
              by_cases ho : (l1.length : Int) % 2 = 1
              · have ho' : (((l1.length : Int) % 2) == 1) = true := by simpa using ho
                have ho2 : ((Int.tmod (l1.length : Int) 2) == 1) = true := by rw [Int.tmod_eq_emod_of_nonneg (by omega)]; exact ho'
                clear ho
                go_wp2_with fail
                go_roundw
                case rel => exact ⟨k + 1, z + 7 + 0, u + 7 + 2, by go_num, by omega, by go_num, by go_num, Lib.hid (HT.out.step (by omega) (by omega) (by omega) (by omega)), rfl⟩
                case measure => simp [intOf]; omega
              · have ho' : (((l1.length : Int) % 2) == 1) = false := by simpa using ho
                have ho2 : ((Int.tmod (l1.length : Int) 2) == 1) = false := by rw [Int.tmod_eq_emod_of_nonneg (by omega)]; exact ho'
                clear ho
                go_wp2_with fail
                go_roundw
                case rel => exact ⟨k + 1, z + 7 + 0, u + 7 + 0, by go_num, by omega, by go_num, by go_num, Lib.hid (HT.out.step (by omega) (by omega) (by omega) (by omega)), rfl⟩
                case measure => simp [intOf]; omega
        · have hk' : k = 150 := by omega
          subst hk'
          go_wp2_with fail
          refine (knows_any _).mono ?_
          rintro e w9 ⟨rfl, hb9⟩
          have HB9 := Lib.hid (below_then HB2.out hb9)
          clear hb9
          go_wp2_with fail
          go_ret
          exact ⟨rfl, HB9.out⟩
def TockRel (a g n : Int) (w2 : World) (x y i : Value) (W : World) : Prop := ∃ (k : Nat) (z u : Int), i = .int .i64 k ∧ (k : Int) ≤ 2 * n ∧ x = .int .i64 z ∧ y = .int .i64 u ∧ Hid (Tock a g z u k) ∧ W = w2
set_option maxHeartbeats 4000000 in
theorem ends_walk (a g n : Int) (A1 : Option Addr) (c1 : Nat) (l1 : List Int) (w : World) (bm : -9223372036854775808 ≤ a ∧ a ≤ 9223372036854775807) (bg : -9223372036854775808 ≤ g ∧ g ≤ 9223372036854775807)
    (h1 : Lies w w.heap.size 1 A1 l1.length (uc l1)) (m1 : l1.length ≤ maxLen) (r1 : Bytes l1) :
    Calls Try.prog 6 #[.int .i64 a, .int .i64 g, .int .i64 n, .slice A1 l1.length c1] w fun e w' => e = .returned (.bool true) ∧ Below w.heap.size w w' := by
  have H1 := Lib.hid h1
  have R1 := Lib.hid r1
  have M1 : l1.length ≤ 9223372036854775807 := m1
  clear h1 r1 m1
  by_cases g0 : a < 0
  · go_enter Try.func6, Try.ntmps6
    go_wp2_with fail
    refine (knows_any _).mono ?_
    rintro e w9 ⟨rfl, hb9⟩
    have HB9 := Lib.hid hb9
    clear hb9
    go_wp2_with fail
    go_ret
    exact ⟨rfl, HB9.out⟩
  by_cases g1 : 1073741824 < a
  · go_enter Try.func6, Try.ntmps6
    go_wp2_with fail
    refine (knows_any _).mono ?_
    rintro e w9 ⟨rfl, hb9⟩
    have HB9 := Lib.hid hb9
    clear hb9
    go_wp2_with fail
    go_ret
    exact ⟨rfl, HB9.out⟩
  by_cases g2 : g < 0
  · go_enter Try.func6, Try.ntmps6
    go_wp2_with fail
    refine (knows_any _).mono ?_
    rintro e w9 ⟨rfl, hb9⟩
    have HB9 := Lib.hid hb9
    clear hb9
    go_wp2_with fail
    go_ret
    exact ⟨rfl, HB9.out⟩
  by_cases g3 : 1073741824 < g
  · go_enter Try.func6, Try.ntmps6
    go_wp2_with fail
    refine (knows_any _).mono ?_
    rintro e w9 ⟨rfl, hb9⟩
    have HB9 := Lib.hid hb9
    clear hb9
    go_wp2_with fail
    go_ret
    exact ⟨rfl, HB9.out⟩
  by_cases g4 : n < 1
  · go_enter Try.func6, Try.ntmps6
    go_wp2_with fail
    refine (knows_any _).mono ?_
    rintro e w9 ⟨rfl, hb9⟩
    have HB9 := Lib.hid hb9
    clear hb9
    go_wp2_with fail
    go_ret
    exact ⟨rfl, HB9.out⟩
  by_cases g5 : 60 < n
  · go_enter Try.func6, Try.ntmps6
    go_wp2_with fail
    refine (knows_any _).mono ?_
    rintro e w9 ⟨rfl, hb9⟩
    have HB9 := Lib.hid hb9
    clear hb9
    go_wp2_with fail
    go_ret
    exact ⟨rfl, HB9.out⟩
  have CU := Lib.hid (fun W => until_any a n W bm.1 bm.2)
  have CF := Lib.hid (fun W => free_any g n W bg.1 bg.2)
  have HU := Lib.hid (un_say (m := a) (n := n) (by omega) (by omega) (by omega) (by omega))
  have HF := Lib.hid (fr_say (m := g) (n := n) (by omega) (by omega) (by omega) (by omega))
  unfold TlPost at CU CF
  have HN := Lib.hid (And.intro (cl_pos (n := n) (by omega)).1 (cl_most (n := n) (by omega)))
  obtain ⟨f, hf⟩ : ∃ f, f = cl n := ⟨_, rfl⟩
  have HFN := Lib.hid hf
  rw [← hf] at HF HN CF
  clear bm bg hf
  go_enter Try.func6, Try.ntmps6
  go_wp2_with fail
  refine (CU.out _).mono ?_
  rintro e w1 ⟨rfl, hb1⟩
  rw [HU.out]
  have HB1 := Lib.hid hb1
  clear hb1
  go_wp2_with fail
  refine (CF.out _).mono ?_
  rintro e w2 ⟨rfl, hb2⟩
  rw [HF.out]
  have HB2 := Lib.hid (below_then HB1.out hb2)
  clear hb2
  obtain ⟨wo, rfl⟩ : ∃ wo : World, wo = w2 := ⟨_, rfl⟩
  go_wp2_with fail
  go_loopw [13, 14, 15] (fun x y i W => TockRel a g n wo x y i W) (fun x y i W => (2 * n - intOf i).toNat)
  case atStart => exact ⟨0, a, g, rfl, by omega, rfl, rfl, by constructor <;> omega, rfl⟩
  case round =>
    obtain ⟨k, z, u, rfl, hk, rfl, rfl, HT, rfl⟩ := hrel
    have ht1 := HT.out.lo
    have ht2 := HT.out.up
    have ht3 := HT.out.lc
    have ht4 := HT.out.uc
    by_cases hlt : (k : Int) < 2 * n
    · by_cases hl1 : k < l1.length
      · obtain ⟨ad, rfl, hadb, e0⟩ := (H1.out.below HB2.out).us k hl1
        have hr := R1.out.at k hl1
        have hkl : (k : Int) < (l1.length : Int) := by omega
        generalize iAt l1 k = b at *
        obtain ⟨hr1, hr2⟩ := hr
        go_wp2_with fail
        go_roundw
        case rel => exact ⟨k + 1, z + 7 + b % 9 % 3, u + 7 + b % 9 / 3, by go_num, by omega, by go_num, by go_num, Lib.hid (HT.out.step (by omega) (by omega) (by omega) (by omega)), rfl⟩
        case measure => simp [intOf]; omega
      · have hkl : ¬ (k : Int) < (l1.length : Int) := by omega
        go_wp2_with fail
        go_roundw
        case rel => exact ⟨k + 1, z + 7 + 0, u + 7 + 0, by go_num, by omega, by go_num, by go_num, Lib.hid (HT.out.step (by omega) (by omega) (by omega) (by omega)), rfl⟩
        case measure => simp [intOf]; omega
    · have HS := Lib.hid (HT.out.ends (n := n) (by omega) (by omega))
      have CH := Lib.hid (fun W => holds_any z (a + 8 * n) W)
      have CG := Lib.hid (fun W => gone_any u (g + f) W)
      rw [decide_eq_false HS.out.1] at CH
      rw [decide_eq_true (show g + f ≤ u by rw [HFN.out]; exact HS.out.2)] at CG
      go_wp2_with fail
      refine (CH.out _).mono ?_
      rintro e w8 ⟨rfl, rfl⟩
      go_wp2_with fail
      refine (CG.out _).mono ?_
      rintro e w8 ⟨rfl, rfl⟩
      go_wp2_with fail
      refine (knows_any _).mono ?_
      rintro e w9 ⟨rfl, hb9⟩
      have HB9 := Lib.hid (below_then HB2.out hb9)
      clear hb9
      go_wp2_with fail
      go_ret
      exact ⟨rfl, HB9.out⟩
end Go.Proofs.Ytgaebjnmcgmkfaa
