import Derived.Test.YtemcmhpfpfmgdaaLawC
import Derived.Deep.RegionHeld3
/-
  The walk of ViewFences. No condition but that the numbers are of 64 bits.
-/
namespace Go.Proofs.Ytemcmhpfpfmgdaa
open Go.ChangeShapes Go.WideShapes Go.ChangeAt Go.RowKit Go.Maps
set_option linter.unusedVariables false

def FeRel (la : List Ac) (w : World) (i : Value) (W : World) : Prop := ∃ (k : Nat) (vn : Int) (V : Option Addr) (cv : Nat) (vl : List Mb), i = .int .i64 (k : Int) ∧ k ≤ la.length ∧ k ≤ 40 ∧ Hid (Vx w w.heap.size vn V cv vl W) ∧ Hid (rightV (vn, vl) = true)
set_option maxHeartbeats 4000000 in
set_option maxRecDepth 20000 in
theorem fences_walk (num : Int) (A : Option Addr) (c : Nat) (l : List Mb) (B : Option Addr) (cb : Nat) (la : List Ac) (id inc : Int) (w : World) (hA : Lies w w.heap.size 2 A l.length (mc l)) (hl : l.length ≤ maxLen) (hB : Lies w w.heap.size 3 B la.length (ac la)) (hla : la.length ≤ maxLen) (hwf : ∀ a ∈ la, (Lit.int .i64 a.2.1).wf = true) (hw : (Lit.int .i64 id).wf = true) :
    Calls Try.prog 7 #[.agg #[.int .i64 num, .slice A l.length c], .slice B la.length cb, .int .i64 id, .int .i64 inc] w fun e w' => e = .returned (.bool true) ∧ Below w.heap.size w w' := by
  have HA := Lib.hid hA
  have HB1 := Lib.hid (below_alloc w (.cells #[.int .i64 num, .slice A l.length c] 24))
  have h1 := World.alloc_heap_new w (.cells #[.int .i64 num, .slice A l.length c] 24)
  have HZ1 := Lib.hid (show w.heap.size < (w.alloc (.cells #[.int .i64 num, .slice A l.length c] 24)).heap.size by simp)
  have HL := Lib.hid hB
  clear hA hB
  go_enter Try.func7, Try.ntmps7
  go_upto_region 1 with fail
  generalize w.alloc (.cells #[.int .i64 num, .slice A l.length c] 24) = w1 at HB1 h1 HZ1 ⊢
  have d0 := c2_0 h1
  have d1 := c2_1 h1
  go_wp2_with fail
  refine (great_any num A c l.length _ hl).mono ?_
  rintro e w2 ⟨rfl, hb2⟩
  have HB := Lib.hid (HB1.out.trans (hb2.mono HB1.out.size))
  have H2 := Lib.hid ((hb2.block _ HZ1.out).trans h1)
  have HZ2 := Lib.hid (show w.heap.size < w2.heap.size from Nat.lt_of_lt_of_le HZ1.out hb2.size)
  clear d0 d1 h1 hb2
  have d0 := c2_0 H2.out
  have d1 := c2_1 H2.out
  by_cases hg : 50 < l.length
  · have hg' := decide_eq_true hg
    rw [hg']
    clear hg hg'
    go_wp2_with fail
    refine (knows_any _).mono ?_
    rintro e w3 ⟨rfl, hb3⟩
    have HB3 := Lib.hid (HB.out.trans (hb3.mono HB.out.size))
    clear hb3
    go_wp2_with fail
    go_ret
    exact ⟨rfl, HB3.out⟩
  · have hg' := decide_eq_false hg
    have hl50 : l.length ≤ 50 := by omega
    rw [hg']
    clear hg hg'
    have hla' : (la.length : Int) ≤ 9223372036854775807 := by unfold maxLen at hla; omega
    go_wp2_with fail
    refine (as_any num A c l _ (HA.out.next HB.out) (by omega)).mono ?_
    rintro e w3 ⟨A2, c2, rfl, ho3, hb3⟩
    simp only at ho3
    have HO3 := Lib.hid ho3
    have HV3 := Lib.hid (show Vx w w.heap.size num A c l w3 from ⟨(hb3.block _ HZ2.out).trans H2.out, Lx.of_low (HA.out.below (HB.out.trans (hb3.mono HB.out.size))) (Nat.le_refl _) (HB.out.trans (hb3.mono HB.out.size)).size, by omega, HB.out.trans (hb3.mono HB.out.size)⟩)
    clear ho3 hb3 d0 d1
    go_wp2_with fail
    refine (rright_any num A2 c2 l _ (Lies.of_own HO3.out) (by omega)).mono ?_
    rintro e w4 ⟨rfl, hb4⟩
    have HV4 := Lib.hid (HV3.out.next hb4)
    clear hb4
    cases hq : rightV (num, l) with
    | false =>
      clear hq
      go_wp2_with fail
      refine (knows_any _).mono ?_
      rintro e w12 ⟨rfl, hb12⟩
      have HVK := Lib.hid (HV4.out.next hb12)
      clear hb12
      go_wp2_with fail
      go_ret
      exact ⟨rfl, HVK.out.bl⟩
    | true =>
      have HQ := Lib.hid hq
      clear hq
      have d0 := c2_0 HV4.out.h
      have d1 := c2_1 HV4.out.h
      go_wp2_with fail
      go_loopw [10] (fun i W => FeRel la w i W) (fun i W => 41 - (intOf i).toNat)
      case atStart => exact ⟨0, num, A, c, l, rfl, Nat.zero_le _, Nat.zero_le _, HV4, HQ⟩
      case round =>
        clear d0 d1
        obtain ⟨k, vn, V, cv, vl, rfl, hk, hk40, HV, HRR⟩ := hrel
        have d0 := c2_0 HV.out.h
        have d1 := c2_1 HV.out.h
        by_cases hlt : k < la.length
        · by_cases h40 : k < 40
          · obtain ⟨ad, rfl, hadb, e0, e1, e2⟩ := (HL.out.below HV.out.bl).ac k hlt
            have hkl : (k : Int) < (la.length : Int) := by omega
            have hk40' : (k : Int) < 40 := by omega
            have HWA := Lib.hid (hwf _ (aAt_mem la k hlt))
            obtain ⟨a, ha⟩ : ∃ a, a = aAt la k := ⟨_, rfl⟩
            rw [← ha] at HWA e0 e1 e2
            clear ha
            obtain ⟨ak, ai, an⟩ := a
            simp only at e0 e1 e2
            have CD := Lib.hid (do_any vn V cv vl ak ai an wr.drew (HV.out.l.1.drewN 1) (by have := HV.out.n; omega) HWA.out)
            have HRX := Lib.hid (act_right (good_right (vn, vl)) ak ai an)
            have HLN := Lib.hid (act_len (good_right (vn, vl)) ak ai an)
            obtain ⟨y, hy⟩ : ∃ y, y = actG (good (vn, vl)) ak ai an := ⟨_, rfl⟩
            rw [← hy] at HRX HLN CD
            clear hy
            generalize actE (good (vn, vl)) ak ai an = E at *
            obtain ⟨yn, yl⟩ := y
            have CD := Lib.hid (show Calls Try.prog 14 #[.agg #[.int .i64 vn, .slice V vl.length cv], .agg #[.int .i64 ak, .int .i64 ai, .int .i64 an]] wr.drew fun e w' => ∃ A6 c6, e = .returned (.tuple #[.agg #[.int .i64 yn, .slice A6 yl.length c6], .int .i64 E]) ∧ w'.ownsRow wr.heap.size 59 2 (.slice A6 yl.length c6) yl.length (mc yl) ∧ Below wr.heap.size wr.drew w' from CD.out)
            go_upto_region 7 with fail
            go_region_law (first | (go_simp; go_at_call 14; (with_reducible refine CD.out.mono ?_); rintro e w6 ⟨A6, c6, rfl, ho6, hb6⟩; have HV6 := Lib.hid (HV.out.next (below_of_drew hb6)); have HX6 := Lib.hid (Lx.of_own ho6 HV.out.lt); have r0 := c2_0 HV6.out.h; have f0 := unfrozen HV6.out.h 0; have r1 := c2_1 HV6.out.h; have f1 := unfrozen HV6.out.h 1; clear ho6 hb6) | fail)
            all_goals
              have HVS := Lib.hid (HV6.out.set (Nat.le_refl _) yn A6 c6 yl HX6.out HLN.out)
              clear r0 f0 r1 f1 d0 d1 e0 e1 e2
              go_wp2_with fail
              go_roundw
              case rel => exact ⟨k + 1, yn, A6, c6, yl, by go_num, by omega, by omega, HVS, HRX⟩
              case measure => simp [intOf]; omega
          · have hkl : (k : Int) < (la.length : Int) := by omega
            have hk40' : ¬ (k : Int) < 40 := by omega
            have CF := Lib.hid (show Calls Try.prog 23 #[.agg #[.int .i64 vn, .slice V vl.length cv], .int .i64 num, .int .i64 id, .int .i64 inc] wr fun e w' => e = .returned (.int .i64 (fenE (vn, vl) num id inc)) ∧ Below wr.heap.size wr w' by
              have h := fenced_any vn V cv vl num id inc wr HV.out.l.1 (by have := HV.out.n; omega) hw
              rw [good_eq HRR.out] at h
              exact h)
            have CI := Lib.hid (show ∀ W : World, Below wr.heap.size wr W → Calls Try.prog 18 #[.agg #[.int .i64 vn, .slice V vl.length cv], .int .i64 id] W fun e w' => e = .returned (.int .i64 (incL vl id)) ∧ Below W.heap.size W w' from fun W hb => by
              have h := inc_any vn V cv vl id W (HV.out.next hb).l.1 (by have := HV.out.n; omega) hw
              rw [good_eq HRR.out] at h
              exact h)
            have HBD := Lib.hid ((incL_bd (right_rise HRR.out) id).1)
            have E9 := Lib.hid (fe_9 (g := (vn, vl)) (n := num) (id := id) (inc := inc))
            have E4 := Lib.hid (fe_4 (g := (vn, vl)) (n := num) (id := id) (inc := inc))
            have E0 := Lib.hid (fe_0 (g := (vn, vl)) (n := num) (id := id) (inc := inc))
            have E9' := Lib.hid (fe_9' (g := (vn, vl)) (n := num) (id := id) (inc := inc))
            obtain ⟨E, hE⟩ : ∃ E, E = fenE (vn, vl) num id inc := ⟨_, rfl⟩
            rw [← hE] at CF E9 E4 E0 E9'
            clear hE
            go_wp2_with fail
            refine CF.out.mono ?_
            rintro e w8 ⟨rfl, hb8⟩
            have HV8 := Lib.hid (HV.out.next hb8)
            have HB8 := Lib.hid hb8
            clear d0 d1 hb8
            have d0 := c2_0 HV8.out.h
            have d1 := c2_1 HV8.out.h
            by_cases n0 : num = vn
            · have HNE := Lib.hid n0
              have n0' : (vn != num) = false := by simp; exact n0.symm
              clear n0
              go_wp2_with fail
              refine (CI.out _ HB8.out).mono ?_
              rintro e w9 ⟨rfl, hb9⟩
              have HV9 := Lib.hid (HV8.out.next hb9)
              clear d0 d1 hb9
              obtain ⟨z, hz⟩ : ∃ z, z = incL vl id := ⟨_, rfl⟩
              have E4 := Lib.hid (E4.out HNE.out)
              have E0 := Lib.hid (E0.out HNE.out)
              have E9' := Lib.hid (E9'.out HNE.out)
              rw [← hz] at HBD E4 E0 E9' ⊢
              clear hz
              have HBZ := HBD.out
              by_cases g1 : inc < z
              · by_cases g2 : 0 < z
                · obtain rfl := E9'.out (by omega) (by omega)
                  go_wp2_with fail
                  refine (knows_any _).mono ?_
                  rintro e w12 ⟨rfl, hb12⟩
                  have HVK := Lib.hid (HV9.out.next hb12)
                  clear hb12
                  go_wp2_with fail
                  go_ret
                  exact ⟨rfl, HVK.out.bl⟩
                · have hz0 : z = 0 := by omega
                  subst hz0
                  obtain rfl := E4.out rfl
                  have g3 : ((0 : Int) == inc) = false := by simp; omega
                  go_wp2_with fail
                  refine (knows_any _).mono ?_
                  rintro e w12 ⟨rfl, hb12⟩
                  have HVK := Lib.hid (HV9.out.next hb12)
                  clear hb12
                  go_wp2_with fail
                  go_ret
                  exact ⟨rfl, HVK.out.bl⟩
              · by_cases g2 : z = 0
                · subst g2
                  obtain rfl := E4.out rfl
                  by_cases g4 : (0 : Int) = inc
                  · have g3 : ((0 : Int) == inc) = true := by simpa using g4
                    clear g4
                    go_wp2_with fail
                    refine (knows_any _).mono ?_
                    rintro e w12 ⟨rfl, hb12⟩
                    have HVK := Lib.hid (HV9.out.next hb12)
                    clear hb12
                    go_wp2_with fail
                    go_ret
                    exact ⟨rfl, HVK.out.bl⟩
                  · have g3 : ((0 : Int) == inc) = false := by simpa using g4
                    clear g4
                    go_wp2_with fail
                    refine (knows_any _).mono ?_
                    rintro e w12 ⟨rfl, hb12⟩
                    have HVK := Lib.hid (HV9.out.next hb12)
                    clear hb12
                    go_wp2_with fail
                    go_ret
                    exact ⟨rfl, HVK.out.bl⟩
                · have g5 : 0 < z := by omega
                  by_cases g4 : z = inc
                  · obtain rfl := E0.out g2 g4
                    have g3 : (z == inc) = true := by simpa using g4
                    clear g4
                    go_wp2_with fail
                    refine (knows_any _).mono ?_
                    rintro e w12 ⟨rfl, hb12⟩
                    have HVK := Lib.hid (HV9.out.next hb12)
                    clear hb12
                    go_wp2_with fail
                    go_ret
                    exact ⟨rfl, HVK.out.bl⟩
                  · obtain rfl := E9'.out g2 g4
                    have g3 : (z == inc) = false := by simpa using g4
                    clear g4
                    go_wp2_with fail
                    refine (knows_any _).mono ?_
                    rintro e w12 ⟨rfl, hb12⟩
                    have HVK := Lib.hid (HV9.out.next hb12)
                    clear hb12
                    go_wp2_with fail
                    go_ret
                    exact ⟨rfl, HVK.out.bl⟩
            · obtain rfl := E9.out n0
              have n0' : (vn != num) = true := by simp; exact fun h => n0 h.symm
              clear n0
              go_wp2_with fail
              refine (knows_any _).mono ?_
              rintro e w12 ⟨rfl, hb12⟩
              have HVK := Lib.hid (HV8.out.next hb12)
              clear hb12
              go_wp2_with fail
              go_ret
              exact ⟨rfl, HVK.out.bl⟩
        · have hkl : ¬ (k : Int) < (la.length : Int) := by omega
          have CF := Lib.hid (show Calls Try.prog 23 #[.agg #[.int .i64 vn, .slice V vl.length cv], .int .i64 num, .int .i64 id, .int .i64 inc] wr fun e w' => e = .returned (.int .i64 (fenE (vn, vl) num id inc)) ∧ Below wr.heap.size wr w' by
            have h := fenced_any vn V cv vl num id inc wr HV.out.l.1 (by have := HV.out.n; omega) hw
            rw [good_eq HRR.out] at h
            exact h)
          have CI := Lib.hid (show ∀ W : World, Below wr.heap.size wr W → Calls Try.prog 18 #[.agg #[.int .i64 vn, .slice V vl.length cv], .int .i64 id] W fun e w' => e = .returned (.int .i64 (incL vl id)) ∧ Below W.heap.size W w' from fun W hb => by
            have h := inc_any vn V cv vl id W (HV.out.next hb).l.1 (by have := HV.out.n; omega) hw
            rw [good_eq HRR.out] at h
            exact h)
          have HBD := Lib.hid ((incL_bd (right_rise HRR.out) id).1)
          have E9 := Lib.hid (fe_9 (g := (vn, vl)) (n := num) (id := id) (inc := inc))
          have E4 := Lib.hid (fe_4 (g := (vn, vl)) (n := num) (id := id) (inc := inc))
          have E0 := Lib.hid (fe_0 (g := (vn, vl)) (n := num) (id := id) (inc := inc))
          have E9' := Lib.hid (fe_9' (g := (vn, vl)) (n := num) (id := id) (inc := inc))
          obtain ⟨E, hE⟩ : ∃ E, E = fenE (vn, vl) num id inc := ⟨_, rfl⟩
          rw [← hE] at CF E9 E4 E0 E9'
          clear hE
          go_wp2_with fail
          refine CF.out.mono ?_
          rintro e w8 ⟨rfl, hb8⟩
          have HV8 := Lib.hid (HV.out.next hb8)
          have HB8 := Lib.hid hb8
          clear d0 d1 hb8
          have d0 := c2_0 HV8.out.h
          have d1 := c2_1 HV8.out.h
          by_cases n0 : num = vn
          · have HNE := Lib.hid n0
            have n0' : (vn != num) = false := by simp; exact n0.symm
            clear n0
            go_wp2_with fail
            refine (CI.out _ HB8.out).mono ?_
            rintro e w9 ⟨rfl, hb9⟩
            have HV9 := Lib.hid (HV8.out.next hb9)
            clear d0 d1 hb9
            obtain ⟨z, hz⟩ : ∃ z, z = incL vl id := ⟨_, rfl⟩
            have E4 := Lib.hid (E4.out HNE.out)
            have E0 := Lib.hid (E0.out HNE.out)
            have E9' := Lib.hid (E9'.out HNE.out)
            rw [← hz] at HBD E4 E0 E9' ⊢
            clear hz
            have HBZ := HBD.out
            by_cases g1 : inc < z
            · by_cases g2 : 0 < z
              · obtain rfl := E9'.out (by omega) (by omega)
                go_wp2_with fail
                refine (knows_any _).mono ?_
                rintro e w12 ⟨rfl, hb12⟩
                have HVK := Lib.hid (HV9.out.next hb12)
                clear hb12
                go_wp2_with fail
                go_ret
                exact ⟨rfl, HVK.out.bl⟩
              · have hz0 : z = 0 := by omega
                subst hz0
                obtain rfl := E4.out rfl
                have g3 : ((0 : Int) == inc) = false := by simp; omega
                go_wp2_with fail
                refine (knows_any _).mono ?_
                rintro e w12 ⟨rfl, hb12⟩
                have HVK := Lib.hid (HV9.out.next hb12)
                clear hb12
                go_wp2_with fail
                go_ret
                exact ⟨rfl, HVK.out.bl⟩
            · by_cases g2 : z = 0
              · subst g2
                obtain rfl := E4.out rfl
                by_cases g4 : (0 : Int) = inc
                · have g3 : ((0 : Int) == inc) = true := by simpa using g4
                  clear g4
                  go_wp2_with fail
                  refine (knows_any _).mono ?_
                  rintro e w12 ⟨rfl, hb12⟩
                  have HVK := Lib.hid (HV9.out.next hb12)
                  clear hb12
                  go_wp2_with fail
                  go_ret
                  exact ⟨rfl, HVK.out.bl⟩
                · have g3 : ((0 : Int) == inc) = false := by simpa using g4
                  clear g4
                  go_wp2_with fail
                  refine (knows_any _).mono ?_
                  rintro e w12 ⟨rfl, hb12⟩
                  have HVK := Lib.hid (HV9.out.next hb12)
                  clear hb12
                  go_wp2_with fail
                  go_ret
                  exact ⟨rfl, HVK.out.bl⟩
              · have g5 : 0 < z := by omega
                by_cases g4 : z = inc
                · obtain rfl := E0.out g2 g4
                  have g3 : (z == inc) = true := by simpa using g4
                  clear g4
                  go_wp2_with fail
                  refine (knows_any _).mono ?_
                  rintro e w12 ⟨rfl, hb12⟩
                  have HVK := Lib.hid (HV9.out.next hb12)
                  clear hb12
                  go_wp2_with fail
                  go_ret
                  exact ⟨rfl, HVK.out.bl⟩
                · obtain rfl := E9'.out g2 g4
                  have g3 : (z == inc) = false := by simpa using g4
                  clear g4
                  go_wp2_with fail
                  refine (knows_any _).mono ?_
                  rintro e w12 ⟨rfl, hb12⟩
                  have HVK := Lib.hid (HV9.out.next hb12)
                  clear hb12
                  go_wp2_with fail
                  go_ret
                  exact ⟨rfl, HVK.out.bl⟩
          · obtain rfl := E9.out n0
            have n0' : (vn != num) = true := by simp; exact fun h => n0 h.symm
            clear n0
            go_wp2_with fail
            refine (knows_any _).mono ?_
            rintro e w12 ⟨rfl, hb12⟩
            have HVK := Lib.hid (HV8.out.next hb12)
            clear hb12
            go_wp2_with fail
            go_ret
            exact ⟨rfl, HVK.out.bl⟩
end Go.Proofs.Ytemcmhpfpfmgdaa
