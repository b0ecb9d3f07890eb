/-
  The walk of ProgRises. No condition but that the value and what came are numbers of 64 bits.
-/
import Derived.Test.YtielmlcgdolgkaaLawE
import Derived.BigQuiet
namespace Go.Proofs.Ytielmlcgdolgkaa
open Go.ChangeShapes Go.WideShapes Go.ChangeAt Go.RowKit
set_option linter.unusedVariables false

theorem msgL_to (p now m : Int) (es : List Ed) (k : Nat) (h : k < es.length) : (mAt (msgL p now m es) k).1 = (eAt es k).2.1 := by
  unfold mAt msgL
  rw [eAt_get es k h]
  simp [h]

/-- What a turn's answer is like. -/
theorem turnR_like (N : Int) (es : List Ed) (p s l q st v val got : Int) (sm : Bool) (x : Int) (ms : List Ms) (rs : Bool) (er : Int) (h : turnR N es p s l q st v val got sm = (x, ms, rs, er)) :
    (er ≠ 0 → x = 0 ∧ ms = []) ∧ (er = 0 → (1 ≤ p ∧ p ≤ 5) ∧ x = valX p st val got sm ∧ (ms = [] ∨ ms = msgL p x (outE N es v).length (outE N es v))) := by
  unfold turnR at h
  by_cases h1 : vchk N es p s l q v = 0
  · have hp := (badJ_not (jchk_zero (vchk_zero h1).1).2).1
    rw [if_pos h1] at h
    by_cases h2 : st < 0 ∨ 40 < st
    · rw [if_pos h2] at h
      obtain ⟨rfl, rfl, rfl, rfl⟩ := by simpa using h
      exact ⟨fun _ => ⟨rfl, rfl⟩, fun h => by cases h⟩
    · rw [if_neg h2] at h
      by_cases h3 : valB p st val got sm = true
      · rw [if_pos h3] at h
        by_cases h4 : sendB p s st v val (valX p st val got sm) = true
        · rw [if_pos h4] at h
          by_cases h5 : msgB p (valX p st val got sm) (outE N es v).length (outE N es v) = true
          · rw [if_pos h5] at h
            injection h with e1 h
            injection h with e2 h
            injection h with e3 e4
            subst e1 e2 e4
            exact ⟨fun h => absurd rfl h, fun _ => ⟨hp, rfl, .inr rfl⟩⟩
          · rw [if_neg h5] at h
            injection h with e1 h
            injection h with e2 h
            injection h with e3 e4
            subst e1 e2 e4
            exact ⟨fun _ => ⟨rfl, rfl⟩, fun h => by cases h⟩
        · rw [if_neg h4] at h
          injection h with e1 h
          injection h with e2 h
          injection h with e3 e4
          subst e1 e2 e4
          exact ⟨fun h => absurd rfl h, fun _ => ⟨hp, rfl, .inl rfl⟩⟩
      · rw [if_neg h3] at h
        injection h with e1 h
        injection h with e2 h
        injection h with e3 e4
        subst e1 e2 e4
        exact ⟨fun _ => ⟨rfl, rfl⟩, fun h => by cases h⟩
  · rw [if_neg h1] at h
    injection h with e1 h
    injection h with e2 h
    injection h with e3 e4
    subst e1 e2 e4
    exact ⟨fun _ => ⟨rfl, rfl⟩, fun h => absurd h h1⟩

theorem val_most (st val got : Int) (sm : Bool) : ¬ valX 4 st val got sm < val := by
  unfold valX
  rw [if_neg (by decide)]
  cases sm with
  | true =>
    rw [if_pos rfl]
    show ¬ greatI val got < val
    unfold greatI
    split <;> omega
  | false => show ¬ val < val; omega
theorem val_less (p st val got : Int) (sm : Bool) (hp : p < 4) : ¬ val < valX p st val got sm := by
  unfold valX
  rw [if_neg (by omega)]
  cases sm with
  | true =>
    rw [if_pos rfl]
    unfold foldX
    rw [if_neg (by omega), if_neg (by omega)]
    unfold lessI
    split <;> omega
  | false => show ¬ val < val; omega

set_option maxHeartbeats 2000000 in
set_option maxRecDepth 20000 in
theorem rises_walk (N : Int) (A : Option Addr) (n c : Nat) (es : List Ed) (p s l q st v val got : Int) (sm : Bool) (w : World) (hA : Lies w w.heap.size 3 A n (ec es)) (hnc : n ≤ c) (hn : n ≤ maxLen) (hvb : bd val) (hgb : bd got) :
    Calls Try.prog 8 #[.agg #[.int .i64 N, .slice A n c], .agg #[.int .i64 p, .int .i64 s, .int .i64 l, .int .i64 q], .agg #[.int .i64 st, .int .i64 v, .int .i64 val, .int .i64 got, .bool sm]] w fun e w' => e = .returned (.bool true) ∧ Below w.heap.size w w' := by
  have HBX := Lib.hid (Bx3.init w N A n c p s l q st v val got sm)
  by_cases h200 : 200 < n
  · skip
    go_enter Try.func8, Try.ntmps8
    go_wp2_with fail
    refine (great_any N A n c _ true (by simpa using h200)).mono ?_
    rintro e w1 ⟨rfl, hb1⟩
    have HX1 := Lib.hid (HBX.out.next hb1)
    clear hb1 HBX
    go_wp2_with fail
    refine (knows_any _).mono ?_
    rintro e wk ⟨rfl, hbk⟩
    have BK := Lib.hid (HX1.out.next hbk).x.bl
    clear hbk
    go_wp2_with fail
    go_ret
    exact ⟨rfl, BK.out⟩
  · have HT := Lib.hid (fun W (h : Bx3 w N A n c p s l q st v val got sm W) => turn_any N A n c es p s l q st v val got sm W (hA.next h.x.bl) hnc hn hvb hgb)
    have HO := Lib.hid (fun W (h : Bx3 w N A n c p s l q st v val got sm W) => rout_any N A n c es v W (hA.next h.x.bl) hnc hn)
    have HLE := Lib.hid (turnR_len N A n c es p s l q st v val got sm)
    obtain ⟨t, ht⟩ : ∃ t, t = turnR N es p s l q st v val got sm := ⟨_, rfl⟩
    rw [← ht] at HT HLE
    obtain ⟨x, ms, rs, er⟩ := t
    have HLK := Lib.hid (turnR_like N es p s l q st v val got sm x ms rs er ht.symm)
    clear ht
    by_cases her : er = 0
    · subst her
      obtain ⟨hp, hx, hm⟩ := HLK.out.2 rfl
      have HX := Lib.hid hx
      generalize outE N es v = out at *
      have HM := Lib.hid hm
      clear hx hm HLK
      by_cases h4 : p = 4
      · subst h4
        have x1 : ¬ x < val := by rw [HX.out]; exact val_most st val got sm
        clear HX
        go_enter Try.func8, Try.ntmps8
        go_wp2_with fail
        refine (great_any N A n c _ false (by simpa using h200)).mono ?_
        rintro e w1 ⟨rfl, hb1⟩
        have HX1 := Lib.hid (HBX.out.next hb1)
        clear hb1 HBX
        obtain ⟨⟨z1, g0, g1, j0, j1, j2, j3, bl1⟩, z2, a0, a1, a2, a3, a4⟩ := HX1.out
        go_wp2_with fail
        refine (HT.out _ HX1.out).mono ?_
        rintro e w2 ⟨hb2, A2, c2, he, ho2⟩
        subst he
        have HX2 := Lib.hid (HX1.out.next hb2)
        have HO2 := Lib.hid ho2
        clear z1 g0 g1 j0 j1 j2 j3 bl1 z2 a0 a1 a2 a3 a4 hb2 HX1 ho2
        obtain ⟨⟨z1, g0, g1, j0, j1, j2, j3, bl1⟩, z2, a0, a1, a2, a3, a4⟩ := HX2.out
        go_wp2_with fail
        refine (HO.out _ HX2.out).mono ?_
        rintro e w3 ⟨hb3, A3, c3, rfl, ho3⟩
        have HX3 := Lib.hid (HX2.out.next hb3)
        have HL2 := Lib.hid ((Lies.of_own HO2.out).next hb3)
        have HL3 := Lib.hid (Lies.of_own ho3)
        clear z1 g0 g1 j0 j1 j2 j3 bl1 z2 a0 a1 a2 a3 a4 hb3 ho3 HX2 HO2
        by_cases hm0 : ms.length = 0
        · have hms : ms = [] := List.eq_nil_of_length_eq_zero hm0
          subst hms
          clear hm0
          go_wp2_with fail
          go_loopw [12] (fun i W => i = .int .i64 0 ∧ W = w3) (fun i W => 0)
          case atStart => exact ⟨rfl, rfl⟩
          case round =>
            obtain ⟨rfl, hW⟩ := hrel
            subst hW
            go_wp2_with fail
            refine (knows_any _).mono ?_
            rintro e wk ⟨rfl, hbk⟩
            have BK := Lib.hid (HX3.out.next hbk).x.bl
            clear hbk
            go_wp2_with fail
            go_ret
            exact ⟨rfl, BK.out⟩
        · have hml : ms.length = out.length := by
            rcases HM.out with h | h
            · rw [h] at hm0; exact absurd rfl hm0
            · rw [h]; exact msgL_len _ _ _ _
          have HTO := Lib.hid (show ∀ k, k < ms.length → (mAt ms k).1 = (eAt out k).2.1 from fun k hk => by
            rcases HM.out with h | h
            · rw [h] at hk; simp at hk
            · rw [h]; exact msgL_to _ _ _ _ k (by omega))
          have hm1 : ((ms.length : Int) != 0) = true := bne_iff_ne.2 (by omega)
          have HML := Lib.hid hml
          rw [← hml] at HL3 ⊢
          clear hml hm0
          go_wp2_with fail
          go_loopw [12] (fun i W => SmRel ms.length w3 i W) (fun i W => ms.length - (intOf i).toNat)
          case atStart => exact ⟨0, rfl, Nat.zero_le _, 0, rfl⟩
          case round =>
            obtain ⟨k, rfl, hk, qq, rfl⟩ := hrel
            by_cases hlt : k < ms.length
            · obtain ⟨ad, rfl, hadb, e0, e1⟩ := HL2.out.ms k hlt
              obtain ⟨ad', rfl, hadb', e0', e1', e2'⟩ := HL3.out.ed k hlt
              have hkl : (k : Int) < (ms.length : Int) := by omega
              have hl80 := HLE.out
              rw [HTO.out k hlt] at e0
              go_wp2_with fail
              go_quiet (fail)
              go_wp2_with fail
              go_roundw
              case rel => exact ⟨k + 1, by go_num, by omega, qq + nq, rfl⟩
              case measure => simp [intOf]; omega
            · go_wp2_with fail
              refine (knows_any _).mono ?_
              rintro e wk ⟨rfl, hbk⟩
              have BK := Lib.hid (HX3.out.next ((below_to_drewN (Below.refl _ _) qq).trans hbk)).x.bl
              clear hbk
              go_wp2_with fail
              go_ret
              exact ⟨rfl, BK.out⟩
      · have h4' : (p == 4) = false := by simpa using h4
        have x1 : p < 4 → ¬ val < x := fun h => by rw [HX.out]; exact val_less p st val got sm h
        clear HX h4
        by_cases h3 : p < 4
        · have x2 := x1 h3
          clear x1
          go_enter Try.func8, Try.ntmps8
          go_wp2_with fail
          refine (great_any N A n c _ false (by simpa using h200)).mono ?_
          rintro e w1 ⟨rfl, hb1⟩
          have HX1 := Lib.hid (HBX.out.next hb1)
          clear hb1 HBX
          obtain ⟨⟨z1, g0, g1, j0, j1, j2, j3, bl1⟩, z2, a0, a1, a2, a3, a4⟩ := HX1.out
          go_wp2_with fail
          refine (HT.out _ HX1.out).mono ?_
          rintro e w2 ⟨hb2, A2, c2, he, ho2⟩
          subst he
          have HX2 := Lib.hid (HX1.out.next hb2)
          have HO2 := Lib.hid ho2
          clear z1 g0 g1 j0 j1 j2 j3 bl1 z2 a0 a1 a2 a3 a4 hb2 HX1 ho2
          obtain ⟨⟨z1, g0, g1, j0, j1, j2, j3, bl1⟩, z2, a0, a1, a2, a3, a4⟩ := HX2.out
          go_wp2_with fail
          refine (HO.out _ HX2.out).mono ?_
          rintro e w3 ⟨hb3, A3, c3, rfl, ho3⟩
          have HX3 := Lib.hid (HX2.out.next hb3)
          have HL2 := Lib.hid ((Lies.of_own HO2.out).next hb3)
          have HL3 := Lib.hid (Lies.of_own ho3)
          clear z1 g0 g1 j0 j1 j2 j3 bl1 z2 a0 a1 a2 a3 a4 hb3 ho3 HX2 HO2
          by_cases hm0 : ms.length = 0
          · have hms : ms = [] := List.eq_nil_of_length_eq_zero hm0
            subst hms
            clear hm0
            go_wp2_with fail
            go_loopw [12] (fun i W => i = .int .i64 0 ∧ W = w3) (fun i W => 0)
            case atStart => exact ⟨rfl, rfl⟩
            case round =>
              obtain ⟨rfl, hW⟩ := hrel
              subst hW
              go_wp2_with fail
              refine (knows_any _).mono ?_
              rintro e wk ⟨rfl, hbk⟩
              have BK := Lib.hid (HX3.out.next hbk).x.bl
              clear hbk
              go_wp2_with fail
              go_ret
              exact ⟨rfl, BK.out⟩
          · have hml : ms.length = out.length := by
              rcases HM.out with h | h
              · rw [h] at hm0; exact absurd rfl hm0
              · rw [h]; exact msgL_len _ _ _ _
            have HTO := Lib.hid (show ∀ k, k < ms.length → (mAt ms k).1 = (eAt out k).2.1 from fun k hk => by
              rcases HM.out with h | h
              · rw [h] at hk; simp at hk
              · rw [h]; exact msgL_to _ _ _ _ k (by omega))
            have hm1 : ((ms.length : Int) != 0) = true := bne_iff_ne.2 (by omega)
            have HML := Lib.hid hml
            rw [← hml] at HL3 ⊢
            clear hml hm0
            go_wp2_with fail
            go_loopw [12] (fun i W => SmRel ms.length w3 i W) (fun i W => ms.length - (intOf i).toNat)
            case atStart => exact ⟨0, rfl, Nat.zero_le _, 0, rfl⟩
            case round =>
              obtain ⟨k, rfl, hk, qq, rfl⟩ := hrel
              by_cases hlt : k < ms.length
              · obtain ⟨ad, rfl, hadb, e0, e1⟩ := HL2.out.ms k hlt
                obtain ⟨ad', rfl, hadb', e0', e1', e2'⟩ := HL3.out.ed k hlt
                have hkl : (k : Int) < (ms.length : Int) := by omega
                have hl80 := HLE.out
                rw [HTO.out k hlt] at e0
                go_wp2_with fail
                go_quiet (fail)
                go_wp2_with fail
                go_roundw
                case rel => exact ⟨k + 1, by go_num, by omega, qq + nq, rfl⟩
                case measure => simp [intOf]; omega
              · go_wp2_with fail
                refine (knows_any _).mono ?_
                rintro e wk ⟨rfl, hbk⟩
                have BK := Lib.hid (HX3.out.next ((below_to_drewN (Below.refl _ _) qq).trans hbk)).x.bl
                clear hbk
                go_wp2_with fail
                go_ret
                exact ⟨rfl, BK.out⟩
        · clear x1
          go_enter Try.func8, Try.ntmps8
          go_wp2_with fail
          refine (great_any N A n c _ false (by simpa using h200)).mono ?_
          rintro e w1 ⟨rfl, hb1⟩
          have HX1 := Lib.hid (HBX.out.next hb1)
          clear hb1 HBX
          obtain ⟨⟨z1, g0, g1, j0, j1, j2, j3, bl1⟩, z2, a0, a1, a2, a3, a4⟩ := HX1.out
          go_wp2_with fail
          refine (HT.out _ HX1.out).mono ?_
          rintro e w2 ⟨hb2, A2, c2, he, ho2⟩
          subst he
          have HX2 := Lib.hid (HX1.out.next hb2)
          have HO2 := Lib.hid ho2
          clear z1 g0 g1 j0 j1 j2 j3 bl1 z2 a0 a1 a2 a3 a4 hb2 HX1 ho2
          obtain ⟨⟨z1, g0, g1, j0, j1, j2, j3, bl1⟩, z2, a0, a1, a2, a3, a4⟩ := HX2.out
          go_wp2_with fail
          refine (HO.out _ HX2.out).mono ?_
          rintro e w3 ⟨hb3, A3, c3, rfl, ho3⟩
          have HX3 := Lib.hid (HX2.out.next hb3)
          have HL2 := Lib.hid ((Lies.of_own HO2.out).next hb3)
          have HL3 := Lib.hid (Lies.of_own ho3)
          clear z1 g0 g1 j0 j1 j2 j3 bl1 z2 a0 a1 a2 a3 a4 hb3 ho3 HX2 HO2
          by_cases hm0 : ms.length = 0
          · have hms : ms = [] := List.eq_nil_of_length_eq_zero hm0
            subst hms
            clear hm0
            go_wp2_with fail
            go_loopw [12] (fun i W => i = .int .i64 0 ∧ W = w3) (fun i W => 0)
            case atStart => exact ⟨rfl, rfl⟩
            case round =>
              obtain ⟨rfl, hW⟩ := hrel
              subst hW
              go_wp2_with fail
              refine (knows_any _).mono ?_
              rintro e wk ⟨rfl, hbk⟩
              have BK := Lib.hid (HX3.out.next hbk).x.bl
              clear hbk
              go_wp2_with fail
              go_ret
              exact ⟨rfl, BK.out⟩
          · have hml : ms.length = out.length := by
              rcases HM.out with h | h
              · rw [h] at hm0; exact absurd rfl hm0
              · rw [h]; exact msgL_len _ _ _ _
            have HTO := Lib.hid (show ∀ k, k < ms.length → (mAt ms k).1 = (eAt out k).2.1 from fun k hk => by
              rcases HM.out with h | h
              · rw [h] at hk; simp at hk
              · rw [h]; exact msgL_to _ _ _ _ k (by omega))
            have hm1 : ((ms.length : Int) != 0) = true := bne_iff_ne.2 (by omega)
            have HML := Lib.hid hml
            rw [← hml] at HL3 ⊢
            clear hml hm0
            go_wp2_with fail
            go_loopw [12] (fun i W => SmRel ms.length w3 i W) (fun i W => ms.length - (intOf i).toNat)
            case atStart => exact ⟨0, rfl, Nat.zero_le _, 0, rfl⟩
            case round =>
              obtain ⟨k, rfl, hk, qq, rfl⟩ := hrel
              by_cases hlt : k < ms.length
              · obtain ⟨ad, rfl, hadb, e0, e1⟩ := HL2.out.ms k hlt
                obtain ⟨ad', rfl, hadb', e0', e1', e2'⟩ := HL3.out.ed k hlt
                have hkl : (k : Int) < (ms.length : Int) := by omega
                have hl80 := HLE.out
                rw [HTO.out k hlt] at e0
                go_wp2_with fail
                go_quiet (fail)
                go_wp2_with fail
                go_roundw
                case rel => exact ⟨k + 1, by go_num, by omega, qq + nq, rfl⟩
                case measure => simp [intOf]; omega
              · go_wp2_with fail
                refine (knows_any _).mono ?_
                rintro e wk ⟨rfl, hbk⟩
                have BK := Lib.hid (HX3.out.next ((below_to_drewN (Below.refl _ _) qq).trans hbk)).x.bl
                clear hbk
                go_wp2_with fail
                go_ret
                exact ⟨rfl, BK.out⟩
    · obtain ⟨rfl, rfl⟩ := HLK.out.1 her
      have her' : (er != 0) = true := by simpa using her
      clear her HLK
      go_enter Try.func8, Try.ntmps8
      go_wp2_with fail
      refine (great_any N A n c _ false (by simpa using h200)).mono ?_
      rintro e w1 ⟨rfl, hb1⟩
      have HX1 := Lib.hid (HBX.out.next hb1)
      clear hb1 HBX
      obtain ⟨⟨z1, g0, g1, j0, j1, j2, j3, bl1⟩, z2, a0, a1, a2, a3, a4⟩ := HX1.out
      go_wp2_with fail
      refine (HT.out _ HX1.out).mono ?_
      rintro e w2 ⟨hb2, A2, c2, he, ho2⟩
      subst he
      have HX2 := Lib.hid (HX1.out.next hb2)
      clear z1 g0 g1 j0 j1 j2 j3 bl1 z2 a0 a1 a2 a3 a4 hb2 HX1 ho2
      go_wp2_with fail
      refine (knows_any _).mono ?_
      rintro e wk ⟨rfl, hbk⟩
      have BK := Lib.hid (HX2.out.next hbk).x.bl
      clear hbk
      go_wp2_with fail
      go_ret
      exact ⟨rfl, BK.out⟩

end Go.Proofs.Ytielmlcgdolgkaa
