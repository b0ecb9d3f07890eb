import Derived.Test.YtabbpccfdpphjaaPlB
/-
  The contracts of the statements' own same, of plan.check, plan.Apply and of the document's own Apply. No condition but that the lists have at most a million numbers.
-/
namespace Go.Proofs.Ytabbpccfdpphjaa
open Go.ChangeShapes Go.WideShapes Go.ChangeAt Go.RowKit
set_option linter.unusedVariables false

def SmRel (a b : List Mv) (w : World) (i : Value) (W : World) : Prop := ∃ k : Nat, i = .int .i64 k ∧ k ≤ a.length ∧ Hid (a.take k = b.take k) ∧ Below w.heap.size w W
theorem mv_eq {a b : Mv} (h0 : a.1 = b.1) (h1 : a.2.1 = b.2.1) (h2 : a.2.2 = b.2.2) : a = b := by
  obtain ⟨a0, a1, a2⟩ := a
  obtain ⟨b0, b1, b2⟩ := b
  simp only at h0 h1 h2
  rw [h0, h1, h2]
set_option maxHeartbeats 2000000 in
theorem smv_any (A : Option Addr) (c : Nat) (a : List Mv) (B : Option Addr) (d : Nat) (b : List Mv) (w : World) (hA : Lies w w.heap.size 3 A a.length (mc a)) (hB : Lies w w.heap.size 3 B b.length (mc b)) (hn : a.length ≤ 1000000) (hm : b.length ≤ 1000000) :
    Calls Try.prog 14 #[.slice A a.length c, .slice B b.length d] w fun e w' => e = .returned (.bool (decide (a = b))) ∧ Below w.heap.size w w' := by
  have HA := Lib.hid hA
  have HB := Lib.hid hB
  clear hA hB
  by_cases hl : a.length = b.length
  · obtain ⟨n, hn'⟩ : ∃ n : Nat, n = a.length := ⟨_, rfl⟩
    have HN1 := Lib.hid hn'
    have HN2 := Lib.hid (show n = b.length by omega)
    rw [← hl, ← hn']
    have hn6 : n ≤ 1000000 := by omega
    clear hn hm hl hn'
    go_enter Try.func14, Try.ntmps14
    go_wp2_with fail
    go_loopw [5] (fun i W => SmRel a b w i W) (fun i W => n - (intOf i).toNat)
    case atStart => exact ⟨0, rfl, Nat.zero_le _, Lib.hid (by simp), Below.refl _ _⟩
    case round =>
      obtain ⟨k, rfl, hk, HP, hb⟩ := hrel
      have HBW := Lib.hid hb
      by_cases hlt : k < n
      · obtain ⟨ad, rfl, hadb, e0, e1, e2⟩ := (HA.out.below hb).mv k (by have := HN1.out; omega)
        obtain ⟨ad', rfl, hadb', f0, f1, f2⟩ := (HB.out.below hb).mv k (by have := HN2.out; omega)
        have hkl : (k : Int) < (n : Int) := by omega
        have HT0 := Lib.hid (show mAt a k = mAt b k → a.take (k + 1) = b.take (k + 1) from fun he => by rw [mtake_at a k (by have := HN1.out; omega), mtake_at b k (by have := HN2.out; omega), HP.out, he])
        have HF := Lib.hid (show ¬ mAt a k = mAt b k → decide (a = b) = false from fun he => decide_eq_false (fun h => he (by rw [h])))
        generalize mAt a k = x at *
        generalize mAt b k = y at *
        clear hb
        by_cases g0 : x.1 = y.1
        · by_cases g1 : x.2.1 = y.2.1
          · by_cases g2 : x.2.2 = y.2.2
            · have HT := Lib.hid (HT0.out (mv_eq g0 g1 g2))
              have g0' : (x.1 != y.1) = false := by simpa using g0
              have g1' : (x.2.1 != y.2.1) = false := by simpa using g1
              have g2' : (x.2.2 != y.2.2) = false := by simpa using g2
              clear g0 g1 g2
              go_upto_region 6 with fail
              go_quiet (fail)
              go_wp2_with fail
              go_roundw
              case rel => exact ⟨k + 1, by go_num, by have := HN1.out; omega, HT, below_to_drewN HBW.out _⟩
              case measure => simp [intOf]; omega
            · have HT := Lib.hid (HF.out (fun h => g2 (by rw [h])))
              have g0' : (x.1 != y.1) = false := by simpa using g0
              have g1' : (x.2.1 != y.2.1) = false := by simpa using g1
              have g2' : (x.2.2 != y.2.2) = true := by simpa using g2
              clear g0 g1 g2
              go_upto_region 6 with fail
              go_quiet (fail)
              go_wp2_with fail
              go_ret
              exact ⟨ret_bool HT.out.symm, below_to_drewN HBW.out _⟩
          · have HT := Lib.hid (HF.out (fun h => g1 (by rw [h])))
            have g0' : (x.1 != y.1) = false := by simpa using g0
            have g1' : (x.2.1 != y.2.1) = true := by simpa using g1
            clear g0 g1
            go_upto_region 6 with fail
            go_quiet (fail)
            go_wp2_with fail
            go_ret
            exact ⟨ret_bool HT.out.symm, below_to_drewN HBW.out _⟩
        · have HT := Lib.hid (HF.out (fun h => g0 (by rw [h])))
          have g0' : (x.1 != y.1) = true := by simpa using g0
          clear g0
          go_upto_region 6 with fail
          go_quiet (fail)
          go_wp2_with fail
          go_ret
          exact ⟨ret_bool HT.out.symm, below_to_drewN HBW.out _⟩
      · have hk' : k = n := by have := HN1.out; omega
        subst hk'
        have HT := Lib.hid (show decide (a = b) = true from decide_eq_true (by have := HP.out; rwa [List.take_of_length_le (by have := HN1.out; omega), List.take_of_length_le (by have := HN2.out; omega)] at this))
        clear hb
        go_wp2_with fail
        go_ret
        exact ⟨ret_bool HT.out.symm, HBW.out⟩
  · have HT := Lib.hid (show decide (a = b) = false from decide_eq_false (fun h => hl (by rw [h])))
    have hl' : ((a.length : Int) != (b.length : Int)) = true := by simp; omega
    clear hl
    go_enter Try.func14, Try.ntmps14
    go_wp2_with fail
    go_ret
    exact ⟨ret_bool HT.out.symm, Below.refl _ _⟩
theorem apE_4 {out : List Int} {p f t : Int} (h : p < 0 ∨ (out.length : Int) ≤ p) : apE out (p, f, t) = 4 := by unfold apE; rw [if_pos h]
theorem apE_6 {out : List Int} {k : Nat} {f t : Int} (h : k < out.length) (h2 : ¬ iAt out k = f) : apE out ((k : Int), f, t) = 6 := by
  unfold apE; rw [if_neg (by simp only; omega), if_pos (by simpa using h2)]
theorem apE_in {out : List Int} {k : Nat} {f t : Int} (h : k < out.length) (h2 : iAt out k = f) : apE out ((k : Int), f, t) = if idB t = true then 0 else 1 := by
  unfold apE; rw [if_neg (by simp only; omega), if_neg (by simpa using h2)]
theorem apE_1 {out : List Int} {k : Nat} {f t : Int} (h : k < out.length) (h2 : iAt out k = f) (h3 : ¬ (1 ≤ t ∧ t ≤ 99)) : apE out ((k : Int), f, t) = 1 := by
  rw [apE_in h h2, idB_no h3]; rfl
theorem apE_0 {out : List Int} {k : Nat} {f t : Int} (h : k < out.length) (h2 : iAt out k = f) (h3 : 1 ≤ t ∧ t ≤ 99) : apE out ((k : Int), f, t) = 0 := by
  rw [apE_in h h2, idB_yes h3]; rfl
theorem apE_zero {out : List Int} {m : Mv} (h : apE out m = 0) : ∃ k : Nat, m.1 = k ∧ k < out.length := by
  unfold apE at h
  split at h
  · cases h
  · rename_i h1
    exact ⟨m.1.toNat, by omega, by omega⟩
set_option maxHeartbeats 2000000 in
theorem check_any (A : Option Addr) (c : Nat) (os : List Int) (p f t : Int) (w : World) (hA : Lies w w.heap.size 1 A os.length (vc os)) (hn : os.length ≤ 1000000) :
    Calls Try.prog 29 #[.slice A os.length c, .agg #[.int .i64 p, .int .i64 f, .int .i64 t]] w fun e w' => e = .returned (.int .i64 (apE os (p, f, t))) ∧ Below w.heap.size w w' := by
  have d0 : (w.alloc (.cells #[.int .i64 p, .int .i64 f, .int .i64 t] 35)).cell? ⟨w.heap.size, 0, none⟩ = some (.int .i64 p) := by simp [go_sem]
  have d1 : (w.alloc (.cells #[.int .i64 p, .int .i64 f, .int .i64 t] 35)).cell? ⟨w.heap.size, 1, none⟩ = some (.int .i64 f) := by simp [go_sem]
  have d2 : (w.alloc (.cells #[.int .i64 p, .int .i64 f, .int .i64 t] 35)).cell? ⟨w.heap.size, 2, none⟩ = some (.int .i64 t) := by simp [go_sem]
  have HB := Lib.hid (below_alloc w (.cells #[.int .i64 p, .int .i64 f, .int .i64 t] 35))
  have HA1 := Lib.hid (hA.next HB.out)
  clear hA
  go_enter Try.func29, Try.ntmps29
  go_upto_region 1 with fail
  generalize w.alloc (.cells #[.int .i64 p, .int .i64 f, .int .i64 t] 35) = w1 at d0 d1 d2 HB HA1 ⊢
  by_cases g0 : p < 0
  · have HT := Lib.hid (apE_4 (out := os) (f := f) (t := t) (.inl g0))
    go_wp2_with fail
    go_ret
    exact ⟨ret_int HT.out.symm, HB.out⟩
  · by_cases g1 : (os.length : Int) ≤ p
    · have HT := Lib.hid (apE_4 (out := os) (f := f) (t := t) (.inr g1))
      go_wp2_with fail
      go_ret
      exact ⟨ret_int HT.out.symm, HB.out⟩
    · obtain ⟨k, rfl⟩ : ∃ k : Nat, p = (k : Int) := ⟨p.toNat, by omega⟩
      have hk : k < os.length := by omega
      have hkl : (k : Int) < (os.length : Int) := by omega
      obtain ⟨ad, rfl, hadb, e0⟩ := HA1.out.vs k hk
      by_cases g2 : iAt os k = f
      · have HT1 := Lib.hid (fun h3 => apE_1 (t := t) hk g2 h3)
        have HT0 := Lib.hid (fun h3 => apE_0 (t := t) hk g2 h3)
        have g2' : (iAt os k != f) = false := by simpa using g2
        clear g2
        go_upto_region 3 with fail
        go_quiet (fail)
        by_cases g5 : t < 1
        · have HT := Lib.hid (HT1.out (by omega))
          go_wp2_with fail
          go_ret
          exact ⟨ret_int HT.out.symm, below_to_drewN HB.out _⟩
        · by_cases g6 : 99 < t
          · have HT := Lib.hid (HT1.out (by omega))
            go_wp2_with fail
            go_ret
            exact ⟨ret_int HT.out.symm, below_to_drewN HB.out _⟩
          · have HT := Lib.hid (HT0.out (by omega))
            go_wp2_with fail
            go_ret
            exact ⟨ret_int HT.out.symm, below_to_drewN HB.out _⟩
      · have HT := Lib.hid (apE_6 (t := t) hk g2)
        have g2' : (iAt os k != f) = true := by simpa using g2
        clear g2
        go_upto_region 3 with fail
        go_quiet (fail)
        go_wp2_with fail
        go_ret
        exact ⟨ret_int HT.out.symm, below_to_drewN HB.out _⟩
theorem own_some {w : World} {base n c : Nat} {A : Option Addr} {e : TypeId} {s : Nat} {xs : List Value} (h : w.ownsRow base e s (.slice A n c) n xs) (hn : 0 < n) : ∃ g, A = some ⟨g, 0, none⟩ ∧ base ≤ g ∧ g < w.heap.size := by
  rcases h.2 with ⟨hv, rfl⟩ | ⟨g, cap, cur, hv, hb, hg, rest⟩
  · omega
  · injection hv with e1 e2 e3
    exact ⟨g, e1, hb, (Array.getElem?_eq_some_iff.1 hg).1⟩
def apR (os : List Int) (l : List Mv) : List Int := (applyR os l).1
def apX (os : List Int) (l : List Mv) : Int := (applyR os l).2
theorem ap_err {os : List Int} {l : List Mv} {E : Int} {w w' : World} (h : applyR os l = ([], E)) (hb : Below w.heap.size w w') : OlPost (apR os l) (apX os l) w (.returned (.tuple #[.slice none 0 0, .int .i64 E])) w' := by
  unfold apR apX
  rw [h]
  exact ⟨none, 0, rfl, World.ownsRow_nil _ _ _ _, hb⟩
theorem ap_ok {os : List Int} {l : List Mv} {cur : List Int} {n : Nat} {w w' : World} {D : Option Addr} {d : Nat} (h : applyR os l = (cur, 0)) (hn : cur.length = n) (ho : w'.ownsRow w.heap.size 3 1 (.slice D n d) n (vc cur)) (hb : Below w.heap.size w w') :
    OlPost (apR os l) (apX os l) w (.returned (.tuple #[.slice D n d, .int .i64 0])) w' := by
  unfold apR apX
  rw [h]
  subst hn
  exact ⟨D, d, rfl, ho, hb⟩
theorem apL_no {cur : List Int} {l : List Mv} {k : Nat} (h : k < l.length) (h2 : ¬ apE cur (mAt l k) = 0) : apL cur (l.drop k) = ([], apE cur (mAt l k)) := by
  rw [mdrop_at l k h, apL, if_neg h2]
theorem apL_yes {cur : List Int} {l : List Mv} {k : Nat} (h : k < l.length) (h2 : apE cur (mAt l k) = 0) : apL cur (l.drop k) = apL (cur.set (mAt l k).1.toNat (mAt l k).2.2) (l.drop (k + 1)) := by
  rw [mdrop_at l k h, apL, if_pos h2]
def ApRel (os : List Int) (l : List Mv) (w : World) (b g cV : Nat) (i : Value) (W : World) : Prop := ∃ (k : Nat) (cur : List Int), i = .int .i64 k ∧ k ≤ l.length ∧ Hid (applyR os l = apL cur (l.drop k)) ∧ Hid (cur.length = os.length) ∧ Hid (Below w.heap.size w W) ∧ Hid (W.ownsRow b 3 1 (.slice (some ⟨g, 0, none⟩) os.length cV) os.length (vc cur))
set_option maxHeartbeats 4000000 in
theorem apply_any (A : Option Addr) (c : Nat) (os : List Int) (B : Option Addr) (d : Nat) (l : List Mv) (w : World) (hA : Lies w w.heap.size 1 A os.length (vc os)) (hB : Lies w w.heap.size 3 B l.length (mc l)) (hn : os.length ≤ 1000000) (hm : l.length ≤ 1000000) :
    Calls Try.prog 17 #[.slice A os.length c, .slice B l.length d] w (OlPost (apR os l) (apX os l) w) := by
  have HA := Lib.hid hA
  have HB := Lib.hid hB
  clear hA hB
  cases h1 : rightO os with
  | false =>
    have HT := Lib.hid (show applyR os l = ([], 1) by unfold applyR; rw [h1]; rfl)
    have H1 := Lib.hid h1
    clear h1
    go_enter Try.func17, Try.ntmps17
    go_wp2_with fail
    refine (pright_any A c os _ HA.out hn).mono ?_
    rintro e w1 ⟨rfl, rfl⟩
    rw [H1.out]
    go_wp2_with fail
    go_ret2
    exact ap_err HT.out (Below.refl _ _)
  | true =>
    have HT := Lib.hid (show applyR os l = apL os l by unfold applyR; rw [h1]; rfl)
    have H1 := Lib.hid h1
    have HL6 := Lib.hid (rightO_len h1)
    clear h1
    go_enter Try.func17, Try.ntmps17
    go_wp2_with fail
    refine (pright_any A c os _ HA.out hn).mono ?_
    rintro e w1 ⟨rfl, rfl⟩
    rw [H1.out]
    go_wp2_with fail
    refine (clone_v A c os _ HA.out hn).mono ?_
    rintro e w2 ⟨V, cV, rfl, ho2, hb2⟩
    obtain ⟨g, rfl, hbg, hgz⟩ := own_some ho2 (by have := HL6.out; omega)
    have HO2 := Lib.hid ho2
    have HB2 := Lib.hid hb2
    clear ho2 hb2
    go_wp2_with fail
    go_loopw [17] (fun i W => ApRel os l w w.heap.size g cV i W) (fun i W => l.length - (intOf i).toNat)
    case atStart => exact ⟨0, os, rfl, Nat.zero_le _, HT, Lib.hid rfl, HB2, HO2⟩
    case round =>
      obtain ⟨k, cur, rfl, hk, HE, HC, HW, HO⟩ := hrel
      have HMIN := Lib.hid (show w.heap.size ≤ wr.heap.size from HW.out.size)
      by_cases hlt : k < l.length
      · obtain ⟨ad, rfl, hadb, e0, e1, e2⟩ := (HB.out.below HW.out).mv k hlt
        have hkl : (k : Int) < (l.length : Int) := by omega
        have HNO := Lib.hid (apL_no (cur := cur) hlt)
        have HYE := Lib.hid (apL_yes (cur := cur) hlt)
        obtain ⟨m, hm0⟩ : ∃ m, m = mAt l k := ⟨_, rfl⟩
        rw [← hm0] at HNO HYE e0 e1 e2
        clear hm0
        obtain ⟨p, f, t⟩ := m
        simp only at e0 e1 e2
        have HBA := Lib.hid (below_alloc wr (.cells #[.int .i64 p, .int .i64 f, .int .i64 t] 35))
        have d0 : (wr.alloc (.cells #[.int .i64 p, .int .i64 f, .int .i64 t] 35)).cell? ⟨wr.heap.size, 0, none⟩ = some (.int .i64 p) := by simp [go_sem]
        have d1 : (wr.alloc (.cells #[.int .i64 p, .int .i64 f, .int .i64 t] 35)).cell? ⟨wr.heap.size, 1, none⟩ = some (.int .i64 f) := by simp [go_sem]
        have d2 : (wr.alloc (.cells #[.int .i64 p, .int .i64 f, .int .i64 t] 35)).cell? ⟨wr.heap.size, 2, none⟩ = some (.int .i64 t) := by simp [go_sem]
        have HSZ := Lib.hid (show wr.heap.size < (wr.alloc (.cells #[.int .i64 p, .int .i64 f, .int .i64 t] 35)).heap.size by simp)
        have HO4 := Lib.hid (own_next HO.out HBA.out)
        have HW4 := Lib.hid (HW.out.trans (HBA.out.mono HW.out.size))
        go_upto_region 7 with fail
        clear e0 e1 e2
        generalize wr.alloc (.cells #[.int .i64 p, .int .i64 f, .int .i64 t] 35) = w4 at HBA d0 d1 d2 HSZ HO4 HW4 ⊢
        have HL4 := Lib.hid (show Lies w4 w4.heap.size 1 (some ⟨g, 0, none⟩) cur.length (vc cur) by rw [HC.out]; exact Lies.of_own HO4.out)
        have CK := Lib.hid (show Calls Try.prog 29 #[.slice (some ⟨g, 0, none⟩) os.length cV, .agg #[.int .i64 p, .int .i64 f, .int .i64 t]] w4 (fun e w' => e = .returned (.int .i64 (apE cur (p, f, t))) ∧ Below w4.heap.size w4 w') by
          have h := check_any (some ⟨g, 0, none⟩) cV cur p f t w4 HL4.out (by rw [HC.out]; exact hn)
          rw [HC.out] at h
          exact h)
        go_wp2_with fail
        refine CK.out.mono ?_
        rintro e w5 ⟨rfl, hb5⟩
        have D0 := Lib.hid ((hb5.cell (p := ⟨wr.heap.size, 0, none⟩) HSZ.out).trans d0)
        have D2 := Lib.hid ((hb5.cell (p := ⟨wr.heap.size, 2, none⟩) HSZ.out).trans d2)
        have HW5 := Lib.hid (HW4.out.trans (hb5.mono HW4.out.size))
        have HO5 := Lib.hid (own_next HO4.out hb5)
        clear hb5 d0 d1 d2
        by_cases hE : apE cur (p, f, t) = 0
        · have HS := Lib.hid (HE.out.trans (HYE.out hE))
          obtain ⟨j, hj, hjl⟩ := apE_zero hE
          simp only at hj
          subst hj
          rw [hE]
          have hjo : j < os.length := by have := HC.out; omega
          have hji : (j : Int) < (os.length : Int) := by omega
          have d0 := D0.out
          have d2 := D2.out
          obtain ⟨x0, hx0⟩ : ∃ x0, w5.cell? ⟨g, j, none⟩ = some x0 := ⟨_, (HO5.out.cellAt j (by omega)).trans (vc_at _ j hjl)⟩
          have fz := HO5.out.frozenAt j
          have HO6 := Lib.hid ((HO5.out.stored j (.int .i64 t)).1)
          have HW6 := Lib.hid (HW5.out.setCell (p := ⟨g, j, none⟩) (by show w.heap.size ≤ g; exact hbg) (.int .i64 t))
          clear hE
          go_wp2_with fail
          go_roundw
          case rel => exact ⟨k + 1, cur.set j t, by go_num, by omega, Lib.hid (by have := HS.out; simpa using this), Lib.hid (by rw [List.length_set]; exact HC.out), HW6, by rw [← vc_set]; exact HO6⟩
          case measure => simp [intOf]; omega
        · have HS := Lib.hid (HE.out.trans (HNO.out hE))
          have hE' : (apE cur (p, f, t) != 0) = true := by simpa using hE
          generalize apE cur (p, f, t) = E at *
          clear hE
          go_wp2_with fail
          go_ret2
          exact ap_err HS.out HW5.out
      · have hk' : k = l.length := by omega
        subst hk'
        have HS := Lib.hid (show applyR os l = (cur, 0) by rw [HE.out, List.drop_length]; rfl)
        go_wp2_with fail
        go_ret2
        exact ap_ok HS.out HC.out HO.out HW.out
set_option maxHeartbeats 4000000 in
theorem rapply_any (A : Option Addr) (c : Nat) (os : List Int) (B : Option Addr) (d : Nat) (l : List Mv) (w : World) (hA : Lies w w.heap.size 1 A os.length (vc os)) (hB : Lies w w.heap.size 3 B l.length (mc l)) (hn : os.length ≤ 1000000) (hm : l.length ≤ 1000000) :
    Calls Try.prog 18 #[.slice A os.length c, .slice B l.length d] w (OlPost (apR os l) (apX os l) w) := by
  have HA := Lib.hid hA
  have HB := Lib.hid hB
  clear hA hB
  cases h1 : rightO os with
  | false =>
    have HT := Lib.hid (show applyR os l = ([], 1) by unfold applyR; rw [h1]; rfl)
    have H1 := Lib.hid h1
    clear h1
    go_enter Try.func18, Try.ntmps18
    go_wp2_with fail
    refine (rrighto_any A c os _ HA.out hn).mono ?_
    rintro e w1 ⟨rfl, rfl⟩
    rw [H1.out]
    go_wp2_with fail
    go_ret2
    exact ap_err HT.out (Below.refl _ _)
  | true =>
    have HT := Lib.hid (show applyR os l = apL os l by unfold applyR; rw [h1]; rfl)
    have H1 := Lib.hid h1
    have HL6 := Lib.hid (rightO_len h1)
    clear h1
    obtain ⟨iv, hiv, hzv, hzsv, hzbv⟩ := info_parts (show (Try.prog.info? 3).map (fun i => (i.zero, i.size, i.bytes)) = some (some (.int .i64 0), 1, 8) by kernel_rfl)
    have IV := Lib.hid hiv
    have ZV := Lib.hid hzv
    have SV := Lib.hid hzsv
    have BV := Lib.hid hzbv
    clear hiv hzv hzsv hzbv
    go_enter Try.func18, Try.ntmps18
    go_wp2_with fail
    refine (rrighto_any A c os _ HA.out hn).mono ?_
    rintro e w1 ⟨rfl, rfl⟩
    rw [H1.out]
    have HO1 := Lib.hid (own_empty w 3 w.heap.size (Nat.le_refl _))
    have HBA := Lib.hid (below_alloc w (.cells #[] 3))
    have HL2 := Lib.hid (HA.out.next HBA.out)
    go_wp2_with (at_builtin; go_must (refine wpList_app2 _ rfl (.tmp 12) (.tmp 13) 22 rfl w.heap.size 3 iv _ 1 8 Try.underlying22 IV.out ZV.out SV.out BV.out rfl (by decide) (some ⟨w.heap.size, 0, none⟩) 0 0 [] rfl HO1.out (w.alloc (.cells #[] 3)).heap.size A os.length c (vc os) rfl HL2.out (vc_one _) os.length (vc os) (Nat.zero_add _) rfl (by have := HL6.out; unfold maxLen; omega) (by have := HL6.out; omega) HBA.out.size ?_))
    intro V cV w2 ho2 hb2 hg2
    obtain ⟨g, rfl, hbg, hgz⟩ := own_some ho2 (by have := HL6.out; omega)
    have HO2 := Lib.hid ho2
    have HB2 := Lib.hid (HBA.out.trans hb2)
    clear ho2 hb2 hg2
    go_wp2_with fail
    go_loopw [7] (fun i W => ApRel os l w w.heap.size g cV i W) (fun i W => l.length - (intOf i).toNat)
    case atStart => exact ⟨0, os, rfl, Nat.zero_le _, HT, Lib.hid rfl, HB2, HO2⟩
    case round =>
      obtain ⟨k, cur, rfl, hk, HE, HC, HW, HO⟩ := hrel
      have HMIN := Lib.hid (show w.heap.size ≤ wr.heap.size from HW.out.size)
      by_cases hlt : k < l.length
      · obtain ⟨ad, rfl, hadb, e0, e1, e2⟩ := (HB.out.below HW.out).mv k hlt
        have hkl : (k : Int) < (l.length : Int) := by omega
        have HNO := Lib.hid (apL_no (cur := cur) hlt)
        have HYE := Lib.hid (apL_yes (cur := cur) hlt)
        obtain ⟨m, hm0⟩ : ∃ m, m = mAt l k := ⟨_, rfl⟩
        rw [← hm0] at HNO HYE e0 e1 e2
        clear hm0
        obtain ⟨p, f, t⟩ := m
        simp only at e0 e1 e2
        have HBA4 := Lib.hid (below_alloc wr (.cells #[.int .i64 p, .int .i64 f, .int .i64 t] 36))
        have d0 : (wr.alloc (.cells #[.int .i64 p, .int .i64 f, .int .i64 t] 36)).cell? ⟨wr.heap.size, 0, none⟩ = some (.int .i64 p) := by simp [go_sem]
        have d1 : (wr.alloc (.cells #[.int .i64 p, .int .i64 f, .int .i64 t] 36)).cell? ⟨wr.heap.size, 1, none⟩ = some (.int .i64 f) := by simp [go_sem]
        have d2 : (wr.alloc (.cells #[.int .i64 p, .int .i64 f, .int .i64 t] 36)).cell? ⟨wr.heap.size, 2, none⟩ = some (.int .i64 t) := by simp [go_sem]
        have HO4 := Lib.hid (own_next HO.out HBA4.out)
        have HW4 := Lib.hid (HW.out.trans (HBA4.out.mono HW.out.size))
        go_upto_region 8 with fail
        clear e0 e1 e2
        generalize wr.alloc (.cells #[.int .i64 p, .int .i64 f, .int .i64 t] 36) = w4 at HBA4 d0 d1 d2 HO4 HW4 ⊢
        by_cases g0 : p < 0
        · have hE := apE_4 (out := cur) (f := f) (t := t) (.inl g0)
          have HS := Lib.hid (HE.out.trans (HNO.out (by rw [hE]; decide)))
          rw [hE] at HS
          clear hE
          go_wp2_with fail
          go_ret2
          exact ap_err HS.out HW4.out
        · by_cases g1 : (os.length : Int) ≤ p
          · have hE := apE_4 (out := cur) (f := f) (t := t) (.inr (by rw [HC.out]; exact g1))
            have HS := Lib.hid (HE.out.trans (HNO.out (by rw [hE]; decide)))
            rw [hE] at HS
            clear hE
            go_wp2_with fail
            go_ret2
            exact ap_err HS.out HW4.out
          · obtain ⟨j, rfl⟩ : ∃ j : Nat, p = (j : Int) := ⟨p.toNat, by omega⟩
            have hjl : j < cur.length := by rw [HC.out]; omega
            have hji : (j : Int) < (os.length : Int) := by omega
            have e0 : w4.cell? ⟨g, j, none⟩ = some (.int .i64 (iAt cur j)) := (HO4.out.cellAt j (by have := HC.out; omega)).trans (vc_at _ j hjl)
            by_cases g2 : iAt cur j = f
            · have HX1 := Lib.hid (fun h3 => apE_1 (t := t) hjl g2 h3)
              have HX0 := Lib.hid (fun h3 => apE_0 (t := t) hjl g2 h3)
              have g2' : (iAt cur j != f) = false := by simpa using g2
              clear g2
              go_upto_region 10 with fail
              go_quiet (fail)
              by_cases g5 : 1 ≤ t ∧ t ≤ 99
              · have HS := Lib.hid (HE.out.trans (HYE.out (HX0.out g5)))
                have HI := Lib.hid (idB_yes g5)
                obtain ⟨wq, hwq⟩ : ∃ wq, wq = w4.drewN nq := ⟨_, rfl⟩
                have HWD := Lib.hid (show Below w.heap.size w wq by rw [hwq]; exact below_to_drewN HW4.out nq)
                have HOD := Lib.hid (show wq.ownsRow w.heap.size 3 1 (.slice (some ⟨g, 0, none⟩) os.length cV) os.length (vc cur) by rw [hwq]; exact own_next HO4.out (below_to_drewN (Below.refl _ w4) nq))
                have D0 : wq.cell? ⟨wr.heap.size, 0, none⟩ = some (.int .i64 (j : Int)) := by rw [hwq]; exact d0
                have D2 : wq.cell? ⟨wr.heap.size, 2, none⟩ = some (.int .i64 t) := by rw [hwq]; exact d2
                rw [← hwq]
                clear hwq d0 d1 d2 e0
                obtain ⟨x0, hx0⟩ : ∃ x0, wq.cell? ⟨g, j, none⟩ = some x0 := ⟨_, (HOD.out.cellAt j (by omega)).trans (vc_at _ j hjl)⟩
                have fz := HOD.out.frozenAt j
                have HO6 := Lib.hid ((HOD.out.stored j (.int .i64 t)).1)
                have HW6 := Lib.hid (HWD.out.setCell (p := ⟨g, j, none⟩) (by show w.heap.size ≤ g; exact hbg) (.int .i64 t))
                clear g5
                go_wp2_with fail
                refine (rid_any t _).mono ?_
                rintro e w6 ⟨rfl, rfl⟩
                rw [HI.out]
                go_wp2_with fail
                go_roundw
                case rel => exact ⟨k + 1, cur.set j t, by go_num, by omega, Lib.hid (by have := HS.out; simpa using this), Lib.hid (by rw [List.length_set]; exact HC.out), HW6, by rw [← vc_set]; exact HO6⟩
                case measure => simp [intOf]; omega
              · have hE := HX1.out g5
                have HS := Lib.hid (HE.out.trans (HNO.out (by rw [hE]; decide)))
                rw [hE] at HS
                have HI := Lib.hid (idB_no g5)
                clear g5 hE
                go_wp2_with fail
                refine (rid_any t _).mono ?_
                rintro e w6 ⟨rfl, rfl⟩
                rw [HI.out]
                go_wp2_with fail
                go_ret2
                exact ap_err HS.out (below_to_drewN HW4.out _)
            · have hE := apE_6 (t := t) hjl g2
              have HS := Lib.hid (HE.out.trans (HNO.out (by rw [hE]; decide)))
              rw [hE] at HS
              have g2' : (iAt cur j != f) = true := by simpa using g2
              clear g2 hE
              go_upto_region 10 with fail
              go_quiet (fail)
              go_wp2_with fail
              go_ret2
              exact ap_err HS.out (below_to_drewN HW4.out _)
      · have hk' : k = l.length := by omega
        subst hk'
        have HS := Lib.hid (show applyR os l = (cur, 0) by rw [HE.out, List.drop_length]; rfl)
        go_wp2_with fail
        go_ret2
        exact ap_ok HS.out HC.out HO.out HW.out
end Go.Proofs.Ytabbpccfdpphjaa
