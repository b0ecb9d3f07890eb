import Derived.Test.YtgaebjnmcgmkfaaDoor
/-
  The walk of LeaseRenews. No condition but that numbers are numbers of 64 bits.
-/
namespace Go.Proofs.Ytgaebjnmcgmkfaa
open Go.ChangeShapes Go.WideShapes Go.ChangeAt Go.RowKit
set_option linter.unusedVariables false

abbrev Rw (n w c u f s v : Int) (i : Nat) : Prop := Renew 1073741824 n w c u f s v i
def RnRel (n : Int) (w : World) (x0 x1 x9 x10 x11 x12 x13 : Value) (W : World) : Prop := ∃ (k : Nat) (z y u f s v : Int), x0 = .int .i64 z ∧ x1 = .int .i64 y ∧ x9 = .int .i64 u ∧ x10 = .int .i64 f ∧ x11 = .int .i64 s ∧ x12 = .int .i64 v ∧ x13 = .int .i64 k ∧ k ≤ 100 ∧ Hid (Rw n z y u f s v k) ∧ Hid (Below w.heap.size w W)
set_option maxRecDepth 100000 in
set_option maxHeartbeats 8000000 in
theorem renews_walk (a g n : Int) (A1 : Option Addr) (c1 : Nat) (l1 : List Int) (w : World) (bm : -9223372036854775808 ≤ a ∧ a ≤ 9223372036854775807) (bg : -9223372036854775808 ≤ g ∧ g ≤ 9223372036854775807)
    (h1 : Lies w w.heap.size 1 A1 l1.length (uc l1)) (m1 : l1.length ≤ maxLen) (r1 : Bytes l1) :
    Calls Try.prog 8 #[.int .i64 a, .int .i64 g, .int .i64 n, .slice A1 l1.length c1] w fun e w' => e = .returned (.bool true) ∧ Below w.heap.size w w' := by
  have H1 := Lib.hid h1
  have R1 := Lib.hid r1
  have M1 : l1.length ≤ 9223372036854775807 := m1
  clear h1 r1 m1 bm bg
  by_cases g0 : a < 0
  · go_enter Try.func8, Try.ntmps8
    go_wp2_with fail
    refine (knows_any _).mono ?_
    rintro e w9 ⟨rfl, hb9⟩
    have HB9 := Lib.hid hb9
    clear hb9
    go_wp2_with fail
    go_ret
    exact ⟨rfl, HB9.out⟩
  by_cases g1 : 1073741824 < a
  · go_enter Try.func8, Try.ntmps8
    go_wp2_with fail
    refine (knows_any _).mono ?_
    rintro e w9 ⟨rfl, hb9⟩
    have HB9 := Lib.hid hb9
    clear hb9
    go_wp2_with fail
    go_ret
    exact ⟨rfl, HB9.out⟩
  by_cases g2 : g < 0
  · go_enter Try.func8, Try.ntmps8
    go_wp2_with fail
    refine (knows_any _).mono ?_
    rintro e w9 ⟨rfl, hb9⟩
    have HB9 := Lib.hid hb9
    clear hb9
    go_wp2_with fail
    go_ret
    exact ⟨rfl, HB9.out⟩
  by_cases g3 : 1073741824 < g
  · go_enter Try.func8, Try.ntmps8
    go_wp2_with fail
    refine (knows_any _).mono ?_
    rintro e w9 ⟨rfl, hb9⟩
    have HB9 := Lib.hid hb9
    clear hb9
    go_wp2_with fail
    go_ret
    exact ⟨rfl, HB9.out⟩
  by_cases g4 : n < 1
  · go_enter Try.func8, Try.ntmps8
    go_wp2_with fail
    refine (knows_any _).mono ?_
    rintro e w9 ⟨rfl, hb9⟩
    have HB9 := Lib.hid hb9
    clear hb9
    go_wp2_with fail
    go_ret
    exact ⟨rfl, HB9.out⟩
  by_cases g5 : 30 < n
  · go_enter Try.func8, Try.ntmps8
    go_wp2_with fail
    refine (knows_any _).mono ?_
    rintro e w9 ⟨rfl, hb9⟩
    have HB9 := Lib.hid hb9
    clear hb9
    go_wp2_with fail
    go_ret
    exact ⟨rfl, HB9.out⟩
  have CU := Lib.hid (fun (v : Int) (W : World) (h1 : 0 ≤ v) (h2 : v ≤ 1099500000000) => (show Calls Try.prog 9 #[.int .i64 v, .int .i64 n] W fun e w' => e = .returned (.tuple #[.int .i64 (v + 8 * n), .int .i64 0]) ∧ Below W.heap.size W w' by
    have h := until_any v n W (by omega) (by omega)
    unfold TlPost at h
    rw [un_say h1 h2 (by omega) (by omega)] at h
    exact h))
  have CF := Lib.hid (fun (v : Int) (W : World) (h1 : 0 ≤ v) (h2 : v ≤ 1099500000000) => (show Calls Try.prog 11 #[.int .i64 v, .int .i64 n] W fun e w' => e = .returned (.tuple #[.int .i64 (v + cl n), .int .i64 0]) ∧ Below W.heap.size W w' by
    have h := free_any v n W (by omega) (by omega)
    unfold TlPost at h
    rw [fr_say h1 h2 (by omega) (by omega)] at h
    exact h))
  have HN := Lib.hid (And.intro (cl_pos (n := n) (by omega)).1 (cl_most (n := n) (by omega)))
  have HST := Lib.hid (show Rw n a g 0 0 (-1) (-1) 0 from Renew.start (by omega) (by omega) (by omega) (by omega) (by omega))
  go_enter Try.func8, Try.ntmps8
  go_wp2_with fail
  go_loopw [0, 1, 9, 10, 11, 12, 13] (fun x0 x1 x9 x10 x11 x12 x13 W => RnRel n w x0 x1 x9 x10 x11 x12 x13 W) (fun x0 x1 x9 x10 x11 x12 x13 W => 100 - (intOf x13).toNat)
  case atStart => exact ⟨0, a, g, 0, 0, -1, -1, rfl, rfl, rfl, rfl, rfl, rfl, rfl, by omega, HST, Below.refl _ _⟩
  case round =>
    obtain ⟨k, z, y, u, f, s, v, rfl, rfl, rfl, rfl, rfl, rfl, rfl, hk, HR, HB⟩ := hrel
    by_cases hlt : k < l1.length
    · have hkl : (k : Int) < (l1.length : Int) := by omega
      by_cases h100 : k < 100
      · obtain ⟨ad, rfl, hadb, e0⟩ := (H1.out.below HB.out).us k hlt
        have hr := R1.out.at k hlt
        generalize iAt l1 k = b at *
        obtain ⟨hr1, hr2⟩ := hr
        have hz1 := HR.out.w0
        have hz2 := HR.out.wM
        have hy1 := HR.out.c0
        have hy2 := HR.out.cM
        have HR0 := Lib.hid (show Rw n (z + 7 + b % 3) (y + 7 + b / 3 % 3) u f s v (k + 1) from HR.out.tick (by omega) (by omega) (by omega) (by omega))
        go_upto_if 71 with fail
        go_cut [0, 1, 11] (fun x0 x1 x11 W => ∃ z1 y1 s1 : Int, x0 = .int .i64 z1 ∧ x1 = .int .i64 y1 ∧ x11 = .int .i64 s1 ∧ Hid (Rw n z1 y1 u f s1 v (k + 1)) ∧ W = wr)
        case first =>
          go_wp2_with fail
          all_goals go_meet
          all_goals first | exact ⟨_, _, _, rfl, rfl, rfl, HR0, rfl⟩ | exact ⟨_, _, _, rfl, rfl, rfl, Lib.hid HR0.out.ask, rfl⟩
        case rest =>
          obtain ⟨z1, y1, s1, rfl, rfl, rfl, HR1, rfl⟩ := hcut
          clear hz1 hz2 hy1 hy2 HR HR0
          have hz1 := HR1.out.w0
          have hz2 := HR1.out.wM
          have hy1 := HR1.out.c0
          have hy2 := HR1.out.cM
          have hs1 := HR1.out.s1
          have hs2 := HR1.out.sw
          go_upto_region 13 with fail
          go_cut [80] (fun x80 W => ∃ t : Bool, x80 = .bool t ∧ Hid (t = true → 0 ≤ s1) ∧ W = wc)
          case first =>
            go_wp2_with fail
            all_goals go_meet
            all_goals first | exact ⟨decide (0 ≤ s1), rfl, Lib.hid (fun h => of_decide_eq_true h), rfl⟩ | exact ⟨false, rfl, Lib.hid (fun h => by cases h), rfl⟩
          case rest =>
            obtain ⟨t, rfl, HT, rfl⟩ := hcut
            go_upto_if 80 with fail
            go_cut [10, 12] (fun x10 x12 W => ∃ f1 v1 : Int, x10 = .int .i64 f1 ∧ x12 = .int .i64 v1 ∧ Hid (Rw n z1 y1 u f1 s1 v1 (k + 1)) ∧ Hid (Below w.heap.size w W))
            case first =>
              cases t with
              | false =>
                go_wp2_with fail
                go_meet
                exact ⟨f, v, rfl, rfl, HR1, HB⟩
              | true =>
                have h0 := HT.out rfl
                go_wp2_with fail
                refine (CF.out y1 _ hy1 (by omega)).mono ?_
                rintro e w3 ⟨rfl, hb3⟩
                have HB3 := Lib.hid (below_then HB.out hb3)
                clear hb3
                go_wp2_with fail
                go_meet
                exact ⟨_, _, rfl, rfl, Lib.hid (HR1.out.give h0 (by omega)), HB3⟩
            case rest =>
              obtain ⟨f1, v1, rfl, rfl, HR2, HB'⟩ := hcut
              clear HB HR1 hs1 hs2 HT
              have HB := HB'
              clear HB'
              have hv1 := HR2.out.v1
              have hv2 := HR2.out.vs
              have hv3 := HR2.out.sw
              have hu0 := HR2.out.u0
              have huv := HR2.out.uv
              have hun := HR2.out.non
              go_upto_region 18 with fail
              go_cut [97] (fun x97 W => ∃ t : Bool, x97 = .bool t ∧ Hid (t = true → 0 ≤ v1) ∧ W = wc)
              case first =>
                go_wp2_with fail
                all_goals go_meet
                all_goals first | exact ⟨decide (0 ≤ v1), rfl, Lib.hid (fun h => of_decide_eq_true h), rfl⟩ | exact ⟨false, rfl, Lib.hid (fun h => by cases h), rfl⟩
              case rest =>
                obtain ⟨t, rfl, HT, rfl⟩ := hcut
                go_upto_if 97 with fail
                go_cut [9] (fun x9 W => ∃ u1 : Int, x9 = .int .i64 u1 ∧ Hid (Rw n z1 y1 u1 f1 s1 v1 (k + 1)) ∧ Hid (Below w.heap.size w W))
                case first =>
                  cases t with
                  | false =>
                    go_wp2_with fail
                    go_meet
                    exact ⟨u, rfl, HR2, HB⟩
                  | true =>
                    have h0 := HT.out rfl
                    have hu5 := huv h0
                    go_wp2_with fail
                    refine (CU.out v1 _ h0 (by omega)).mono ?_
                    rintro e w3 ⟨rfl, hb3⟩
                    have HB3 := Lib.hid (below_then HB.out hb3)
                    clear hb3
                    by_cases hu : u < v1 + 8 * n
                    · go_wp2_with fail
                      go_meet
                      exact ⟨_, rfl, Lib.hid (HR2.out.take h0 (by omega)), HB3⟩
                    · go_wp2_with fail
                      go_meet
                      exact ⟨_, rfl, HR2, HB3⟩
                case rest =>
                  obtain ⟨u1, rfl, HR3, HB'⟩ := hcut
                  clear HB HR2 hu0 huv hun HT
                  have HB := HB'
                  clear HB'
                  by_cases hv : 0 ≤ v1
                  · by_cases hu : 0 < u1
                    · have CH := Lib.hid (fun W => holds_any z1 u1 W)
                      by_cases hw : z1 < u1
                      · have CG := Lib.hid (fun W => gone_any y1 f1 W)
                        have HS := Lib.hid (show decide (f1 ≤ y1) = false from decide_eq_false (by have := HR3.out.safe hv hw; omega))
                        rw [decide_eq_true hw] at CH
                        rw [HS.out] at CG
                        clear hw
                        go_wp2_with fail
                        refine (CH.out _).mono ?_
                        rintro e w8 ⟨rfl, rfl⟩
                        go_wp2_with fail
                        refine (CG.out _).mono ?_
                        rintro e w8 ⟨rfl, rfl⟩
                        go_wp2_with fail
                        go_roundw
                        case rel => exact ⟨k + 1, z1, y1, u1, f1, s1, v1, rfl, rfl, rfl, rfl, rfl, rfl, by go_num, by omega, HR3, HB⟩
                        case measure => simp [intOf]; omega
                      · rw [decide_eq_false hw] at CH
                        clear hw
                        go_wp2_with fail
                        refine (CH.out _).mono ?_
                        rintro e w8 ⟨rfl, rfl⟩
                        go_wp2_with fail
                        go_roundw
                        case rel => exact ⟨k + 1, z1, y1, u1, f1, s1, v1, rfl, rfl, rfl, rfl, rfl, rfl, by go_num, by omega, HR3, HB⟩
                        case measure => simp [intOf]; omega
                    · go_wp2_with fail
                      go_roundw
                      case rel => exact ⟨k + 1, z1, y1, u1, f1, s1, v1, rfl, rfl, rfl, rfl, rfl, rfl, by go_num, by omega, HR3, HB⟩
                      case measure => simp [intOf]; omega
                  · go_wp2_with fail
                    go_roundw
                    case rel => exact ⟨k + 1, z1, y1, u1, f1, s1, v1, rfl, rfl, rfl, rfl, rfl, rfl, by go_num, by omega, HR3, HB⟩
                    case measure => simp [intOf]; omega
      · have h100' : ¬ (k : Int) < 100 := by omega
        go_wp2_with fail
        refine (knows_any _).mono ?_
        rintro e w9 ⟨rfl, hb9⟩
        have HB9 := Lib.hid (below_then HB.out hb9)
        clear hb9
        go_wp2_with fail
        go_ret
        exact ⟨rfl, HB9.out⟩
    · have hkl : ¬ (k : Int) < (l1.length : Int) := by omega
      go_wp2_with fail
      refine (knows_any _).mono ?_
      rintro e w9 ⟨rfl, hb9⟩
      have HB9 := Lib.hid (below_then HB.out hb9)
      clear hb9
      go_wp2_with fail
      go_ret
      exact ⟨rfl, HB9.out⟩
end Go.Proofs.Ytgaebjnmcgmkfaa
