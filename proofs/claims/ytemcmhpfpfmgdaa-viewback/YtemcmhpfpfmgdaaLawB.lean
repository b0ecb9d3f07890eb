import Derived.Test.YtemcmhpfpfmgdaaVh
import Derived.Test.YtemcmhpfpfmgdaaVi
import Derived.Test.YtemcmhpfpfmgdaaVj
import Derived.Test.YtemcmhpfpfmgdaaVd
import Derived.Deep.RegionHeld3
/-
  The walk of ViewBack. No condition but that the numbers are of 64 bits.
-/
namespace Go.Proofs.Ytemcmhpfpfmgdaa
open Go.ChangeShapes Go.WideShapes Go.ChangeAt Go.RowKit Go.Maps
set_option linter.unusedVariables false

theorem field30_0 (a : Int) (A : Option Addr) (n c : Nat) (w : World) : (Instr.field 30 (.agg #[.int .i64 a, .slice A n c]) 0).run Try.prog w = .ok (.int .i64 a) w := by kernel_rfl
theorem field30_1 (a : Int) (A : Option Addr) (n c : Nat) (w : World) : (Instr.field 30 (.agg #[.int .i64 a, .slice A n c]) 1).run Try.prog w = .ok (.slice A n c) w := by kernel_rfl
/-- What comes of a view when one that was no member comes and goes. -/
theorem back_facts {gn : Int} {gl : List Mb} (hr : rightV (gn, gl) = true) {id inc : Int} (hE : joinE (gn, gl) id inc = 0) (h0 : incL gl id = 0) :
    joinG (gn, gl) id inc = (gn + 1, putL gl id inc) ∧ rightV (gn + 1, putL gl id inc) = true ∧ (¬ leaveE (gn + 1, putL gl id inc) id = 0 → leaveE (gn + 1, putL gl id inc) id = 6 ∧ gn + 1 = 1099511627776) ∧ (leaveE (gn + 1, putL gl id inc) id = 0 → leaveG (gn + 1, putL gl id inc) id = (gn + 2, gl)) := by
  have h1 := joinG_yes hE
  simp only at h1
  have h2 := join_right hr id inc
  rw [h1] at h2
  obtain ⟨j1, j2, j3, j4, j5⟩ := joinE_0 hE
  have hm := mayB_of j1
  have hi : incL (putL gl id inc) id = inc := by rw [incL_put gl 0 (right_rise hr), if_pos rfl]
  refine ⟨h1, h2, fun h => ?_, fun h => ?_⟩
  · unfold leaveE at h ⊢
    simp only at h ⊢
    rw [if_neg (by rw [hi]; omega)] at h ⊢
    by_cases hT : gn + 1 = 1099511627776
    · rw [if_pos hT]; exact ⟨rfl, hT⟩
    · rw [if_neg hT] at h; exact absurd rfl h
  · rw [leaveG_yes h]
    simp only
    rw [del_put (right_rise hr) j1 h0]
    congr 1
    omega
set_option maxHeartbeats 4000000 in
set_option maxRecDepth 20000 in
theorem back_walk (num : Int) (A : Option Addr) (c : Nat) (l : List Mb) (id inc : Int) (w : World) (hA : Lies w w.heap.size 2 A l.length (mc l)) (hl : l.length ≤ maxLen) (hw : (Lit.int .i64 id).wf = true) :
    Calls Try.prog 6 #[.agg #[.int .i64 num, .slice A l.length c], .int .i64 id, .int .i64 inc] w fun e w' => e = .returned (.bool true) ∧ Below w.heap.size w w' := by
  have HA := Lib.hid hA
  have HB1 := Lib.hid (below_alloc w (.cells #[.int .i64 num, .slice A l.length c] 24))
  have h1 := World.alloc_heap_new w (.cells #[.int .i64 num, .slice A l.length c] 24)
  have HZ1 := Lib.hid (show w.heap.size < (w.alloc (.cells #[.int .i64 num, .slice A l.length c] 24)).heap.size by simp)
  clear hA
  go_enter Try.func6, Try.ntmps6
  go_upto_region 1 with fail
  generalize w.alloc (.cells #[.int .i64 num, .slice A l.length c] 24) = w1 at HB1 h1 HZ1 ⊢
  have d0 := c2_0 h1
  have d1 := c2_1 h1
  go_wp2_with fail
  refine (great_any num A c l.length _ hl).mono ?_
  rintro e w2 ⟨rfl, hb2⟩
  have HB := Lib.hid (HB1.out.trans (hb2.mono HB1.out.size))
  have H2 := Lib.hid ((hb2.block _ HZ1.out).trans h1)
  have HZ2 := Lib.hid (show w.heap.size < w2.heap.size from Nat.lt_of_lt_of_le HZ1.out hb2.size)
  clear d0 d1 h1 hb2
  have d0 := c2_0 H2.out
  have d1 := c2_1 H2.out
  by_cases hg : 50 < l.length
  · have hg' := decide_eq_true hg
    rw [hg']
    clear hg hg'
    go_wp2_with fail
    refine (knows_any _).mono ?_
    rintro e w3 ⟨rfl, hb3⟩
    have HB3 := Lib.hid (HB.out.trans (hb3.mono HB.out.size))
    clear hb3
    go_wp2_with fail
    go_ret
    exact ⟨rfl, HB3.out⟩
  · have hg' := decide_eq_false hg
    have hl50 : l.length ≤ 50 := by omega
    rw [hg']
    clear hg hg'
    have CJ := Lib.hid (fun (W : World) (hb : Below w2.heap.size w2 W) => join_any num A c l id inc W (HA.out.next (HB.out.trans (hb.mono HB.out.size))) (by omega) hw)
    have CG := Lib.hid (fun (A2 : Option Addr) (c2 B : Nat) (W : World) (hB : B ≤ W.heap.size) (hL : Lies W B 2 A2 l.length (mc l)) => good_any num A2 c2 l B W hB hL (by omega))
    have CI := Lib.hid (fun (A2 : Option Addr) (c2 : Nat) (W : World) (hL : Lies W W.heap.size 2 A2 l.length (mc l)) => rinc_any num A2 c2 l id W hL (by omega))
    have CA := Lib.hid (fun (W : World) (hb : Below w2.heap.size w2 W) => as_any num A c l W (HA.out.next (HB.out.trans (hb.mono HB.out.size))) (by omega))
    obtain ⟨g, hg⟩ : ∃ g, g = good (num, l) := ⟨_, rfl⟩
    have HR := Lib.hid (show rightV g = true by rw [hg]; exact good_right _)
    rw [← hg] at CJ CG CI
    clear hg
    obtain ⟨gn, gl⟩ := g
    have HN := Lib.hid (right_num HR.out)
    have HBF := Lib.hid (fun h1 h2 => back_facts (id := id) (inc := inc) HR.out h1 h2)
    obtain ⟨E, hE⟩ : ∃ E, E = joinE (gn, gl) id inc := ⟨_, rfl⟩
    rw [← hE] at CJ HBF
    obtain ⟨x, hx⟩ : ∃ x, x = joinG (gn, gl) id inc := ⟨_, rfl⟩
    rw [← hx] at CJ HBF
    clear hE hx
    obtain ⟨xn, xl⟩ := x
    go_wp2_with fail
    refine (CJ.out _ (Below.refl _ _)).mono ?_
    rintro e w3 ⟨A3, c3, rfl, ho3, hb3⟩
    simp only at ho3
    have HB4 := Lib.hid (hb3.trans ((below_alloc w3 (.cells #[.int .i64 xn, .slice A3 xl.length c3] 24)).mono hb3.size))
    have H4 := Lib.hid (World.alloc_heap_new w3 (.cells #[.int .i64 xn, .slice A3 xl.length c3] 24))
    have HO4 := Lib.hid (own_next ho3 (below_alloc w3 (.cells #[.int .i64 xn, .slice A3 xl.length c3] 24)))
    have HZ4 := Lib.hid (show w3.heap.size < (w3.alloc (.cells #[.int .i64 xn, .slice A3 xl.length c3] 24)).heap.size by simp)
    clear d0 d1 ho3 hb3
    go_upto_region 4 with fail
    generalize w3.alloc (.cells #[.int .i64 xn, .slice A3 xl.length c3] 24) = w4 at HB4 H4 HO4 HZ4 ⊢
    have HBW := Lib.hid (HB.out.trans (HB4.out.mono HB.out.size))
    have HD := Lib.hid (show ∀ W : World, Below w4.heap.size w4 W → W.cell? ⟨w.heap.size, 0, none⟩ = some (.int .i64 num) ∧ W.cell? ⟨w.heap.size, 1, none⟩ = some (.slice A l.length c) ∧ W.cell? ⟨w3.heap.size, 0, none⟩ = some (.int .i64 xn) ∧ W.cell? ⟨w3.heap.size, 1, none⟩ = some (.slice A3 xl.length c3) by
      intro W hb
      have h24 := (hb.block w.heap.size (Nat.lt_of_lt_of_le HZ2.out HB4.out.size)).trans ((HB4.out.block w.heap.size HZ2.out).trans H2.out)
      have h4 := (hb.block w3.heap.size HZ4.out).trans H4.out
      exact ⟨c2_0 h24, c2_1 h24, c2_0 h4, c2_1 h4⟩)
    obtain ⟨d0, d1, x0, x1⟩ := HD.out w4 (Below.refl _ _)
    by_cases e0 : E = 0
    · have HBG := Lib.hid (HBF.out e0)
      clear HBF
      subst e0
      go_wp2_with fail
      refine (CA.out _ HB4.out).mono ?_
      rintro e w5 ⟨A5, c5, rfl, ho5, hb5⟩
      simp only at ho5
      have HO5 := Lib.hid ho5
      have HB5 := Lib.hid hb5
      clear d0 d1 x0 x1 ho5 hb5
      go_wp2_with fail
      refine (CI.out A5 c5 _ (Lies.of_own HO5.out)).mono ?_
      rintro e w6 ⟨rfl, hb6⟩
      simp only
      have HB6 := Lib.hid (HB5.out.trans (hb6.mono HB5.out.size))
      clear hb6
      obtain ⟨z, hz⟩ : ∃ z, z = incL gl id := ⟨_, rfl⟩
      rw [← hz] at HBG
      rw [← hz]
      clear hz
      obtain ⟨d0, d1, x0, x1⟩ := HD.out w6 HB6.out
      by_cases z0 : z = 0
      · obtain ⟨q1, q2, q3, q4⟩ := HBG.out z0
        obtain ⟨rfl, rfl⟩ := Prod.mk.inj q1
        subst z0
        have HXR := Lib.hid q2
        have HQ3 := Lib.hid q3
        have HQ4 := Lib.hid q4
        have CLV := Lib.hid (show ∀ W : World, Below w4.heap.size w4 W → Calls Try.prog 26 #[.agg #[.int .i64 (gn + 1), .slice A3 (putL gl id inc).length c3], .int .i64 id] W (EPost (leaveG (gn + 1, putL gl id inc) id) (leaveE (gn + 1, putL gl id inc) id) 59 W) from fun W hb => by
          have h := leave_any (gn + 1) A3 c3 (putL gl id inc) id W ((Lies.of_own HO4.out).next hb) (by have := right_num HXR.out; simp only at this; omega) hw
          rw [good_eq HXR.out] at h
          exact h)
        clear q1 q2 q3 q4 HBG
        generalize hxl : putL gl id inc = xl at *
        obtain ⟨E2, hE2⟩ : ∃ E2, E2 = leaveE (gn + 1, xl) id := ⟨_, rfl⟩
        rw [← hE2] at HQ3 HQ4 CLV
        obtain ⟨y, hy⟩ : ∃ y, y = leaveG (gn + 1, xl) id := ⟨_, rfl⟩
        rw [← hy] at HQ4 CLV
        clear hE2 hy hxl
        obtain ⟨yn, yl⟩ := y
        go_wp2_with fail
        refine (CLV.out _ HB6.out).mono ?_
        rintro e w7 ⟨A7, c7, rfl, ho7, hb7⟩
        simp only at ho7
        have HBA := Lib.hid (below_alloc w7 (.cells #[.int .i64 yn, .slice A7 yl.length c7] 24))
        have HB8 := Lib.hid ((HB6.out.trans (hb7.mono HB6.out.size)).trans (HBA.out.mono (HB6.out.trans (hb7.mono HB6.out.size)).size))
        have H8 := Lib.hid (World.alloc_heap_new w7 (.cells #[.int .i64 yn, .slice A7 yl.length c7] 24))
        have HL8 := Lib.hid (Lies.of_own (own_next ho7 HBA.out))
        have HZ8 := Lib.hid (show w7.heap.size < (w7.alloc (.cells #[.int .i64 yn, .slice A7 yl.length c7] 24)).heap.size by simp)
        clear d0 d1 x0 x1 ho7 hb7
        go_upto_region 7 with fail
        generalize w7.alloc (.cells #[.int .i64 yn, .slice A7 yl.length c7] 24) = w8 at HBA HB8 H8 HL8 HZ8 ⊢
        obtain ⟨d0, d1, x0, x1⟩ := HD.out w8 HB8.out
        by_cases e2 : E2 = 0
        · have hq := HQ4.out e2
          have hq1 := (Prod.mk.inj hq).1
          have hq2 := (Prod.mk.inj hq).2.symm
          subst hq1 hq2 e2
          clear hq
          have hwr : IntKind.i64.wrap (gn + 2) = gn + 2 := by have := HN.out; simp [IntKind.wrap, IntKind.bits, IntKind.signed]; omega
          have fl0 := field30_0
          have fl1 := field30_1
          have HF := Lib.hid (show ∀ W : World, Below w8.heap.size w8 W → W.cell? ⟨w.heap.size, 0, none⟩ = some (.int .i64 num) ∧ W.cell? ⟨w.heap.size, 1, none⟩ = some (.slice A l.length c) ∧ W.cell? ⟨w7.heap.size, 0, none⟩ = some (.int .i64 (gn + 2)) ∧ W.cell? ⟨w7.heap.size, 1, none⟩ = some (.slice A7 gl.length c7) ∧ Below w8.heap.size w8 W by
            intro W hb
            obtain ⟨y0, y1, _, _⟩ := HD.out W (HB8.out.trans (hb.mono HB8.out.size))
            have h8 := (hb.block w7.heap.size HZ8.out).trans H8.out
            exact ⟨y0, y1, c2_0 h8, c2_1 h8, hb⟩)
          have CAV := Lib.hid (show ∀ W : World, Below w8.heap.size w8 W → Calls Try.prog 11 #[.agg #[.int .i64 num, .slice A l.length c]] W fun e w' => ∃ D d, e = .returned (.agg #[.int .i64 num, .slice D l.length d]) ∧ Lies w' w'.heap.size 2 D l.length (mc l) ∧ Below W.heap.size W w' from fun W hb =>
            (CA.out W (HB4.out.trans ((HB8.out.trans (hb.mono HB8.out.size)).mono HB4.out.size))).mono fun e w' ⟨D, d, h1, h2, h3⟩ => ⟨D, d, h1, Lies.of_own h2, h3⟩)
          have CAY := Lib.hid (show ∀ W : World, Below w8.heap.size w8 W → Calls Try.prog 11 #[.agg #[.int .i64 (gn + 2), .slice A7 gl.length c7]] W fun e w' => ∃ D d, e = .returned (.agg #[.int .i64 (gn + 2), .slice D gl.length d]) ∧ Lies w' w'.heap.size 2 D gl.length (mc gl) ∧ Below W.heap.size W w' from fun W hb =>
            (as_any (gn + 2) A7 c7 gl W (HL8.out.next hb) (by have := HN.out; omega)).mono fun e w' ⟨D, d, h1, h2, h3⟩ => ⟨D, d, h1, Lies.of_own h2, h3⟩)
          have CGV := Lib.hid (show ∀ (D : Option Addr) (d : Nat) (W : World), Lies W W.heap.size 2 D l.length (mc l) → Calls Try.prog 27 #[.agg #[.int .i64 num, .slice D l.length d]] W fun e w' => ∃ F f, e = .returned (.agg #[.int .i64 gn, .slice F gl.length f]) ∧ Lies w' w'.heap.size 2 F gl.length (mc gl) ∧ Below W.heap.size W w' from fun D d W hL =>
            (CG.out D d W.heap.size W (Nat.le_refl _) hL).mono fun e w' ⟨F, f, h1, h2, h3⟩ => ⟨F, f, h1, h2.next h3, h3⟩)
          have CSM := Lib.hid (show ∀ (D : Option Addr) (d : Nat) (F : Option Addr) (f : Nat) (W : World), Lies W W.heap.size 2 D gl.length (mc gl) → Lies W W.heap.size 2 F gl.length (mc gl) → Calls Try.prog 17 #[.agg #[.int .i64 (gn + 2), .slice D gl.length d], .agg #[.int .i64 (gn + 2), .slice F gl.length f]] W fun e w' => e = .returned (.bool true) ∧ Below W.heap.size W w' from fun D d F f W h1 h2 => by
            have h := rsame_any (gn + 2) D d gl (gn + 2) F f gl W h1 h2 (by have := HN.out; omega) (by have := HN.out; omega)
            rw [show decide ((gn + 2, gl) = (gn + 2, gl)) = true from decide_eq_true rfl] at h
            exact h)
          have q1 := HF.out w8.drew (Below.refl _ _).drew
          clear d0 d1 x0 x1
          go_wp2_with fail
          go_region_held3 (fun w' => w'.cell? ⟨w.heap.size, 0, none⟩ = some (.int .i64 num) ∧ w'.cell? ⟨w.heap.size, 1, none⟩ = some (.slice A l.length c) ∧ w'.cell? ⟨w7.heap.size, 0, none⟩ = some (.int .i64 (gn + 2)) ∧ w'.cell? ⟨w7.heap.size, 1, none⟩ = some (.slice A7 gl.length c7) ∧ Below w8.heap.size w8 w')
            (exact q1)
            (first | ((go_at_call 11); (with_reducible refine (CAY.out _ q1.2.2.2.2).mono ?_); rintro e w9 ⟨Y1, y1, rfl, ho9, hb9⟩; have K1 := Lib.hid ho9; clear ho9; have q1 := HF.out w9 ((q1.2.2.2.2).trans (hb9.mono (q1.2.2.2.2).size)); clear hb9) | ((go_at_call 11); (with_reducible refine (CAV.out _ q1.2.2.2.2).mono ?_); rintro e w9 ⟨V1, u1, rfl, ho9, hb9⟩; have K2 := Lib.hid ho9; have K1 := Lib.hid (K1.out.next hb9); clear ho9; have q1 := HF.out w9 ((q1.2.2.2.2).trans (hb9.mono (q1.2.2.2.2).size)); clear hb9) | ((go_at_call 27); (with_reducible refine (CGV.out _ _ _ K2.out).mono ?_); rintro e w9 ⟨G1, g1, rfl, ho9, hb9⟩; have K5 := Lib.hid ho9; have K1 := Lib.hid (K1.out.next hb9); clear ho9; have q1 := HF.out w9 ((q1.2.2.2.2).trans (hb9.mono (q1.2.2.2.2).size)); clear hb9) | ((go_at_call 17); (with_reducible refine (CSM.out _ _ _ _ _ K1.out K5.out).mono ?_); rintro e w9 ⟨rfl, hb9⟩; have q1 := HF.out w9 ((q1.2.2.2.2).trans (hb9.mono (q1.2.2.2.2).size)); clear hb9) | ((go_at_call 10); (with_reducible refine (knows_any _).mono ?_); rintro e w9 ⟨rfl, hb9⟩; have q1 := HF.out w9 ((q1.2.2.2.2).trans (hb9.mono (q1.2.2.2.2).size)); clear hb9))
          all_goals
            go_wp2_with fail
            go_ret
            exact ⟨rfl, HBW.out.trans ((HB8.out.trans (q1.2.2.2.2.mono HB8.out.size)).mono HBW.out.size)⟩
        · obtain ⟨rfl, hT⟩ := HQ3.out e2
          have hT' : (gn + 1 == 1099511627776) = true := by simpa using hT
          clear e2 hT
          go_wp2_with fail
          refine (knows_any _).mono ?_
          rintro e w9 ⟨rfl, hb9⟩
          have HB9 := Lib.hid (HB8.out.trans (hb9.mono HB8.out.size))
          clear hb9
          go_wp2_with fail
          go_ret
          exact ⟨rfl, HBW.out.trans (HB9.out.mono HBW.out.size)⟩
      · have z0' : (z != 0) = true := by simpa using z0
        clear z0
        go_wp2_with fail
        refine (knows_any _).mono ?_
        rintro e w7 ⟨rfl, hb7⟩
        have HB7 := Lib.hid (HB6.out.trans (hb7.mono HB6.out.size))
        clear hb7
        go_wp2_with fail
        go_ret
        exact ⟨rfl, HBW.out.trans (HB7.out.mono HBW.out.size)⟩
    · have e0' : (E != 0) = true := by simpa using e0
      clear e0
      go_wp2_with fail
      refine (knows_any _).mono ?_
      rintro e w5 ⟨rfl, hb5⟩
      have HB5 := Lib.hid hb5
      clear hb5
      go_wp2_with fail
      go_ret
      exact ⟨rfl, HBW.out.trans (HB5.out.mono HBW.out.size)⟩
end Go.Proofs.Ytemcmhpfpfmgdaa
