import Derived.Test.YtabbpccfdpphjaaPlK
/-
  The walks of PlanApplies and PlanBack. No condition but that the lists are slices of Go.
-/
namespace Go.Proofs.Ytabbpccfdpphjaa
open Go.ChangeShapes Go.WideShapes Go.ChangeAt Go.RowKit
set_option linter.unusedVariables false

def MaRel (l : List Mv) (w : World) (o i : Value) (W : World) : Prop := ∃ (k : Nat) (D : Option Addr) (d : Nat), i = .int .i64 k ∧ k ≤ l.length ∧ o = .slice D k d ∧ Hid (Below w.heap.size w W) ∧ Hid (W.ownsRow w.heap.size 36 3 (.slice D k d) k (mc (l.take k)))

set_option maxRecDepth 20000 in
set_option maxHeartbeats 4000000 in
theorem applies_walk (A : Option Addr) (c : Nat) (os : List Int) (B : Option Addr) (d : Nat) (l : List Mv) (w : World) (hA : Lies w w.heap.size 1 A os.length (vc os)) (hB : Lies w w.heap.size 3 B l.length (mc l)) (n1 : os.length ≤ maxLen) (n2 : l.length ≤ maxLen) :
    Calls Try.prog 4 #[.slice A os.length c, .slice B l.length d] w fun e w' => e = .returned (.bool true) ∧ Below w.heap.size w w' := by
  have HA := Lib.hid hA
  have HB := Lib.hid hB
  have HSM := Lib.hid (ap_len os l)
  clear hA hB
  go_enter Try.func4, Try.ntmps4
  go_wp2_with fail
  refine (great_any A c os.length _ n1).mono ?_
  rintro e w1 ⟨rfl, rfl⟩
  by_cases g0 : 50 < os.length
  · rw [decide_eq_true g0]
    unfold maxLen at *
    go_wp2_with fail
    refine (knows_any _).mono ?_
    rintro e w8 ⟨rfl, hb8⟩
    have HB8 := Lib.hid (hb8)
    clear hb8
    go_wp2_with fail
    go_ret
    exact ⟨rfl, HB8.out⟩
  · rw [decide_eq_false g0]
    have l0 : os.length ≤ 50 := by omega
    clear g0 n1
    by_cases g1 : 50 < l.length
    · have g1i : (50 : Int) < (l.length : Int) := by omega
      unfold maxLen at *
      go_wp2_with fail
      refine (knows_any _).mono ?_
      rintro e w8 ⟨rfl, hb8⟩
      have HB8 := Lib.hid (hb8)
      clear hb8
      go_wp2_with fail
      go_ret
      exact ⟨rfl, HB8.out⟩
    · have g1i : ¬ (50 : Int) < (l.length : Int) := by omega
      have l1 : l.length ≤ 50 := by omega
      clear g1 n2
      obtain ⟨iv, hiv, hzv, hzsv, hzbv⟩ := info_parts (show (Try.prog.info? 36).map (fun i => (i.zero, i.size, i.bytes)) = some (some (.agg #[.int .i64 0, .int .i64 0, .int .i64 0]), 3, 24) by kernel_rfl)
      have IV := Lib.hid hiv
      have ZV := Lib.hid hzv
      have SV := Lib.hid hzsv
      have BV := Lib.hid hzbv
      clear hiv hzv hzsv hzbv
      obtain ⟨wo, hwo⟩ : ∃ x, x = w := ⟨_, rfl⟩
      subst hwo
      go_wp2_with fail
      go_loopw [5, 6] (fun o i W => MaRel l wo o i W) (fun o i W => l.length - (intOf i).toNat)
      case atStart => exact ⟨0, none, 0, rfl, Nat.zero_le _, rfl, Lib.hid (Below.refl _ _), Lib.hid (World.ownsRow_nil _ _ _ _)⟩
      case round =>
        obtain ⟨k, D, dd, rfl, hk, rfl, HW, HO⟩ := hrel
        by_cases hlt : k < l.length
        · obtain ⟨ad, rfl, hadb, e0, e1, e2⟩ := (HB.out.below HW.out).mv k hlt
          have hkl : (k : Int) < (l.length : Int) := by omega
          have HT := Lib.hid (mtake_at l k hlt)
          obtain ⟨m, hm0⟩ : ∃ m, m = mAt l k := ⟨_, rfl⟩
          rw [← hm0] at HT e0 e1 e2
          clear hm0
          obtain ⟨p, f, t⟩ := m
          simp only at e0 e1 e2
          have HO1 := Lib.hid (own_next (own_next HO.out (below_alloc wr (.cells #[.int .i64 p, .int .i64 f, .int .i64 t] 36))) (Below.refl _ (wr.alloc (.cells #[.int .i64 p, .int .i64 f, .int .i64 t] 36))).drew)
          have HL1 := Lib.hid (show Lies (wr.alloc (.cells #[.int .i64 p, .int .i64 f, .int .i64 t] 36)).drew (wr.heap.size + 1) 3 (some ⟨wr.heap.size, 0, none⟩) 1 (mc [(p, f, t)]) from lies_cells wr (mc [(p, f, t)]) 36 1 3 rfl)
          have HB1 := Lib.hid (show Below wo.heap.size wo (wr.alloc (.cells #[.int .i64 p, .int .i64 f, .int .i64 t] 36)).drew from (HW.out.trans ((below_alloc wr (.cells #[.int .i64 p, .int .i64 f, .int .i64 t] 36)).mono HW.out.size)).drew)
          go_upto_region 7 with fail
          go_region_law (refine step_own2 rfl _ _ 29 rfl wo.heap.size 36 iv _ 3 24 Try.underlying29 IV.out ZV.out SV.out BV.out rfl (by decide) D k dd (mc (l.take k)) (by simp [Act.eval]) HO1.out (wr.heap.size + 1) (some ⟨wr.heap.size, 0, none⟩) 1 1 (mc [(p, f, t)]) (by simp [Act.eval]) HL1.out (mc_one _) (k + 1) rfl (by unfold maxLen; omega) (by omega) HB1.out.size ?_; intro A9 c9 w9 ho9 hb9; have HO9 := Lib.hid ho9; have HB9 := Lib.hid (HB1.out.trans hb9))
          all_goals
            clear e0 e1 e2 ho9 hb9
            go_wp2_with fail
            go_roundw
            case rel => exact ⟨k + 1, A9, c9, by go_num, by omega, rfl, HB9, by rw [HT.out, mc_append]; exact HO9⟩
            case measure => simp [intOf]; omega
        · have hk' : k = l.length := by omega
          subst hk'
          have HM := Lib.hid (show Lies wr wr.heap.size 3 D l.length (mc l) by have h := Lies.of_own HO.out; rw [List.take_length] at h; exact h)
          have HA0 := Lib.hid (HA.out.next HW.out)
          have HB0 := Lib.hid (HB.out.next HW.out)
          clear HO
          go_wp2_with fail
          refine (apply_any A c os B d l _ HA0.out HB0.out (by omega) (by omega)).mono ?_
          rintro e w1 ⟨D1, d1, rfl, ho1, hb1⟩
          have HB1 := Lib.hid (HW.out.trans (hb1.mono HW.out.size))
          have HL1 := Lib.hid (Lies.of_own ho1)
          have HA1 := Lib.hid (HA0.out.next hb1)
          have HM1 := Lib.hid (HM.out.next hb1)
          clear ho1 hb1
          go_wp2_with fail
          refine (rapply_any A c os D dd l _ HA1.out HM1.out (by omega) (by omega)).mono ?_
          rintro e w2 ⟨D2, d2, rfl, ho2, hb2⟩
          have HB2 := Lib.hid (HB1.out.trans (hb2.mono HB1.out.size))
          have HL2 := Lib.hid (Lies.of_own ho2)
          have HL1' := Lib.hid (HL1.out.next hb2)
          clear ho2 hb2
          have hsm : (apR os l).length ≤ 50 := by have := HSM.out; omega
          have he' : (apX os l == apX os l) = true := by simp
          generalize apR os l = X at *
          generalize apX os l = E at *
          go_wp2_with fail
          refine (same_any D1 d1 X D2 d2 X _ HL1'.out HL2.out (by omega) (by omega)).mono ?_
          rw [decide_eq_true (rfl : X = X)]
          rintro e w3 ⟨rfl, hb3⟩
          have HB3 := Lib.hid (HB2.out.trans (hb3.mono HB2.out.size))
          clear hb3
          go_wp2_with fail
          refine (knows_any _).mono ?_
          rintro e w8 ⟨rfl, hb8⟩
          have HB8 := Lib.hid (HB3.out.trans (hb8.mono HB3.out.size))
          clear hb8
          go_wp2_with fail
          go_ret
          exact ⟨rfl, HB8.out⟩

theorem mvN_at {old fresh : List Int} {n k : Nat} (h : k < (mvN old fresh n).length) : ¬ (mAt (mvN old fresh n) k).2.1 = (mAt (mvN old fresh n) k).2.2 := (mvN_mem (mAt_mem _ k h)).2.2
theorem mvN_up {old fresh : List Int} {n k : Nat} (h : k < (mvN old fresh n).length) (h0 : 0 < k) : (mAt (mvN old fresh n) (k - 1)).1 < (mAt (mvN old fresh n) k).1 := by
  rw [mAt_get _ _ h, mAt_get _ _ (by omega)]
  exact List.pairwise_iff_getElem.1 (mvN_rise old fresh n) (k - 1) k (by omega) h (by omega)
theorem back_ap {old fresh : List Int} (h1 : rightO old = true) (h2 : rightO fresh = true) (hl : old.length = fresh.length) : apR old (mvN old fresh old.length) = fresh ∧ apX old (mvN old fresh old.length) = 0 := by
  unfold apR apX applyR
  rw [if_pos h1, back_mv hl h2]
  exact ⟨rfl, rfl⟩
def BkRel (n : Nat) (w : World) (i : Value) (W : World) : Prop := ∃ k : Nat, i = .int .i64 k ∧ k ≤ n ∧ Below w.heap.size w W

set_option maxRecDepth 20000 in
set_option maxHeartbeats 4000000 in
theorem back_walk (A : Option Addr) (c : Nat) (old : List Int) (B : Option Addr) (d : Nat) (fresh : List Int) (w : World) (hA : Lies w w.heap.size 1 A old.length (vc old)) (hB : Lies w w.heap.size 1 B fresh.length (vc fresh)) (n1 : old.length ≤ maxLen) (n2 : fresh.length ≤ maxLen) :
    Calls Try.prog 7 #[.slice A old.length c, .slice B fresh.length d] w fun e w' => e = .returned (.bool true) ∧ Below w.heap.size w w' := by
  have HA := Lib.hid hA
  have HB := Lib.hid hB
  clear hA hB
  go_enter Try.func7, Try.ntmps7
  go_wp2_with fail
  refine (great_any A c old.length _ n1).mono ?_
  rintro e w1 ⟨rfl, rfl⟩
  by_cases g0 : 50 < old.length
  · rw [decide_eq_true g0]
    unfold maxLen at *
    go_wp2_with fail
    refine (knows_any _).mono ?_
    rintro e w8 ⟨rfl, hb8⟩
    have HB8 := Lib.hid (hb8)
    clear hb8
    go_wp2_with fail
    go_ret
    exact ⟨rfl, HB8.out⟩
  · rw [decide_eq_false g0]
    have l0 : old.length ≤ 50 := by omega
    clear g0 n1
    go_wp2_with fail
    refine (great_any B d fresh.length _ n2).mono ?_
    rintro e w1 ⟨rfl, rfl⟩
    by_cases g1 : 50 < fresh.length
    · rw [decide_eq_true g1]
      unfold maxLen at *
      go_wp2_with fail
      refine (knows_any _).mono ?_
      rintro e w8 ⟨rfl, hb8⟩
      have HB8 := Lib.hid (hb8)
      clear hb8
      go_wp2_with fail
      go_ret
      exact ⟨rfl, HB8.out⟩
    · rw [decide_eq_false g1]
      have l1 : fresh.length ≤ 50 := by omega
      clear g1 n2
      go_wp2_with fail
      refine (moves_any A c old B d fresh _ HA.out HB.out (by omega) (by omega)).mono ?_
      rintro e w1 ⟨D1, d1, rfl, ho1, hb1⟩
      have HB1 := Lib.hid hb1
      have HL1 := Lib.hid (Lies.of_own ho1)
      have HA1 := Lib.hid (HA.out.next hb1)
      have HF1 := Lib.hid (HB.out.next hb1)
      clear ho1 hb1
      cases h1 : rightO old with
      | false =>
        have HX := Lib.hid (okM_no (show okM old fresh = false by unfold okM; rw [h1]; rfl))
        rw [HX.out.1, HX.out.2]
        have R1 := Lib.hid h1
        clear h1 HL1
        go_wp2_with fail
        refine (rrighto_any A c old _ HA1.out (by omega)).mono ?_
        rintro e w2 ⟨rfl, rfl⟩
        rw [R1.out]
        go_wp2_with fail
        refine (knows_any _).mono ?_
        rintro e w8 ⟨rfl, hb8⟩
        have HB8 := Lib.hid (HB1.out.trans (hb8.mono HB1.out.size))
        clear hb8
        go_wp2_with fail
        go_ret
        exact ⟨rfl, HB8.out⟩
      | true =>
        have R1 := Lib.hid h1
        clear h1
        cases h2 : rightO fresh with
        | false =>
          have HX := Lib.hid (okM_no (show okM old fresh = false by unfold okM; rw [h2]; simp))
          rw [HX.out.1, HX.out.2]
          have R2 := Lib.hid h2
          clear h2 HL1
          go_wp2_with fail
          refine (rrighto_any A c old _ HA1.out (by omega)).mono ?_
          rintro e w2 ⟨rfl, rfl⟩
          rw [R1.out]
          go_wp2_with fail
          refine (rrighto_any B d fresh _ HF1.out (by omega)).mono ?_
          rintro e w2 ⟨rfl, rfl⟩
          rw [R2.out]
          go_wp2_with fail
          refine (knows_any _).mono ?_
          rintro e w8 ⟨rfl, hb8⟩
          have HB8 := Lib.hid (HB1.out.trans (hb8.mono HB1.out.size))
          clear hb8
          go_wp2_with fail
          go_ret
          exact ⟨rfl, HB8.out⟩
        | true =>
          have R2 := Lib.hid h2
          clear h2
          by_cases hl : old.length = fresh.length
          · have HX := Lib.hid (okM_yes (show okM old fresh = true by unfold okM; rw [R1.out, R2.out, decide_eq_true hl]; rfl))
            rw [HX.out.1] at HL1
            rw [HX.out.1, HX.out.2]
            have HML := Lib.hid (mvN_len old fresh old.length)
            have HAT := Lib.hid (fun k => mvN_at (old := old) (fresh := fresh) (n := old.length) (k := k))
            have HUP := Lib.hid (fun k => mvN_up (old := old) (fresh := fresh) (n := old.length) (k := k))
            have HBK := Lib.hid (back_ap R1.out R2.out hl)
            have HLE := Lib.hid hl
            clear hl
            generalize mvN old fresh old.length = ml at *
            have hml : ml.length ≤ 50 := by have := HML.out; omega
            go_wp2_with fail
            go_loopw [7] (fun i W => BkRel ml.length w1 i W) (fun i W => ml.length - (intOf i).toNat)
            case atStart => exact ⟨0, rfl, Nat.zero_le _, Below.refl _ _⟩
            case round =>
              obtain ⟨k, rfl, hk, hb⟩ := hrel
              have HBR := Lib.hid hb
              by_cases hlt : k < ml.length
              · obtain ⟨ad, rfl, hadb, e0, e1, e2⟩ := (HL1.out.below hb).mv k hlt
                have hkl : (k : Int) < (ml.length : Int) := by omega
                have hne := HAT.out k hlt
                have he' : ((mAt ml k).2.1 == (mAt ml k).2.2) = false := by simpa using hne
                clear hb hne
                by_cases hk0 : k = 0
                · subst hk0
                  rw [show 0 * 3 = 0 from rfl, Ytabbpccfdpphjaa.add_zero] at e0 e1 e2
                  have hg0 : decide ((0 : Int) < 0) = false := by decide
                  go_upto_region 9 with fail
                  go_quiet (fail)
                  go_wp2_with fail
                  go_roundw
                  case rel => exact ⟨1, by go_num, by omega, below_to_drewN HBR.out _⟩
                  case measure => simp [intOf]; omega
                · obtain ⟨ad', ea, _, f0, _, _⟩ := (HL1.out.below HBR.out).mv (k - 1) (by omega)
                  injection ea with ea
                  subst ea
                  have hup := HUP.out k hlt (by omega)
                  have hk0' : decide (0 < k) = true := decide_eq_true (by omega)
                  have hk1 : ((k : Int) - 1) = ((k - 1 : Nat) : Int) := by omega
                  have hk1w : IntKind.i64.wrap ((k - 1 : Nat) : Int) = ((k - 1 : Nat) : Int) := wrap_small (by omega)
                  have hk2 : ((k - 1 : Nat) : Int) < (ml.length : Int) := by omega
                  have hge : decide ((mAt ml k).1 ≤ (mAt ml (k - 1)).1) = false := decide_eq_false (by omega)
                  have hge2 : ¬ (mAt ml k).1 ≤ (mAt ml (k - 1)).1 := by omega
                  clear hk0 hup
                  go_upto_region 9 with fail
                  go_quiet (fail)
                  clear hk1 hk1w
                  go_wp2_with fail
                  go_roundw
                  case rel => exact ⟨k + 1, by go_num, by omega, below_to_drewN HBR.out _⟩
                  case measure => simp [intOf]; omega
              · have hk' : k = ml.length := by omega
                subst hk'
                have HA2 := Lib.hid (HA1.out.next hb)
                have HF2 := Lib.hid (HF1.out.next hb)
                have HL2 := Lib.hid (HL1.out.next hb)
                have HB2 := Lib.hid (HB1.out.trans (hb.mono HB1.out.size))
                clear hb HBR
                go_wp2_with fail
                refine (apply_any A c old D1 d1 ml _ HA2.out HL2.out (by omega) (by omega)).mono ?_
                rw [HBK.out.1, HBK.out.2]
                rintro e w3 ⟨D3, d3, rfl, ho3, hb3⟩
                have HB3 := Lib.hid (HB2.out.trans (hb3.mono HB2.out.size))
                have HL3 := Lib.hid (Lies.of_own ho3)
                have HF3 := Lib.hid (HF2.out.next hb3)
                clear ho3 hb3
                go_wp2_with fail
                refine (same_any D3 d3 fresh B d fresh _ HL3.out HF3.out (by omega) (by omega)).mono ?_
                rw [decide_eq_true (rfl : fresh = fresh)]
                rintro e w4 ⟨rfl, hb4⟩
                have HB4 := Lib.hid (HB3.out.trans (hb4.mono HB3.out.size))
                clear hb4
                go_wp2_with fail
                refine (knows_any _).mono ?_
                rintro e w8 ⟨rfl, hb8⟩
                have HB8 := Lib.hid (HB4.out.trans (hb8.mono HB4.out.size))
                clear hb8
                go_wp2_with fail
                go_ret
                exact ⟨rfl, HB8.out⟩
          · have HX := Lib.hid (okM_no (show okM old fresh = false by unfold okM; rw [decide_eq_false hl]; simp))
            rw [HX.out.1, HX.out.2]
            have hl' : ((old.length : Int) != (fresh.length : Int)) = true := by simp; omega
            clear hl HL1
            go_wp2_with fail
            refine (rrighto_any A c old _ HA1.out (by omega)).mono ?_
            rintro e w2 ⟨rfl, rfl⟩
            rw [R1.out]
            go_wp2_with fail
            refine (rrighto_any B d fresh _ HF1.out (by omega)).mono ?_
            rintro e w2 ⟨rfl, rfl⟩
            rw [R2.out]
            go_wp2_with fail
            refine (knows_any _).mono ?_
            rintro e w8 ⟨rfl, hb8⟩
            have HB8 := Lib.hid (HB1.out.trans (hb8.mono HB1.out.size))
            clear hb8
            go_wp2_with fail
            go_ret
            exact ⟨rfl, HB8.out⟩

end Go.Proofs.Ytabbpccfdpphjaa
