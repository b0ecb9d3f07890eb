import Derived.Test.YtemcmhpfpfmgdaaVm
/-
  Words for members and views in memory; the contracts of view.mayBe, view.Right, the statements' own great and the document's own Right. No condition but that the lists have at most a million members.
-/
namespace Go.Proofs.Ytemcmhpfpfmgdaa
open Go.ChangeShapes Go.WideShapes Go.ChangeAt Go.RowKit
set_option linter.unusedVariables false

/-- Members as cells. -/
def mc (l : List Mb) : List Value := l.flatMap fun m => [.int .i64 m.1, .int .i64 m.2]
theorem mc_length (l : List Mb) : (mc l).length = l.length * 2 := by
  unfold mc
  induction l with
  | nil => rfl
  | cons e r ih => simp only [List.flatMap_cons, List.length_append, ih, List.length_cons, List.length_nil]; omega
theorem mc_append (a b : List Mb) : mc (a ++ b) = mc a ++ mc b := by unfold mc; simp
theorem mc_one (l : List Mb) : ∀ u ∈ mc l, u.oneCell' = true := by
  intro u hu
  unfold mc at hu
  obtain ⟨e, _, he⟩ := List.mem_flatMap.1 hu
  simp at he
  rcases he with rfl | rfl <;> rfl
def mAt (l : List Mb) (k : Nat) : Mb := l.getD k (0, 0)
theorem mAt_get (l : List Mb) (k : Nat) (h : k < l.length) : mAt l k = l[k] := by unfold mAt; rw [List.getD_eq_getElem?_getD, List.getElem?_eq_getElem h]; rfl
theorem mAt_mem (l : List Mb) (k : Nat) (h : k < l.length) : mAt l k ∈ l := by rw [mAt_get l k h]; exact List.getElem_mem h
theorem mtake_at (l : List Mb) (k : Nat) (h : k < l.length) : l.take (k + 1) = l.take k ++ [mAt l k] := by rw [mAt_get l k h]; exact List.take_succ_eq_append_getElem h
theorem mdrop_at (l : List Mb) (k : Nat) (h : k < l.length) : l.drop k = mAt l k :: l.drop (k + 1) := by rw [mAt_get l k h]; exact List.drop_eq_getElem_cons h
theorem mc_at (l : List Mb) (k : Nat) (h : k < l.length) : (mc l)[k * 2]? = some (.int .i64 (mAt l k).1) ∧ (mc l)[k * 2 + 1]? = some (.int .i64 (mAt l k).2) := by
  induction l generalizing k with
  | nil => simp at h
  | cons e r ih =>
    cases k with
    | zero => simp [mc, mAt]
    | succ k =>
      have := ih k (by simpa using h)
      have e1 : (k + 1) * 2 = k * 2 + 2 := by omega
      have e2 : k * 2 + 2 + 1 = k * 2 + 1 + 2 := by omega
      rw [e1, e2]
      exact this
theorem Lies.mb {w : World} {B : Nat} {A : Option Addr} {n : Nat} {l : List Mb} (h : Lies w B 2 A n (mc l)) (k : Nat) (hk : k < l.length) :
    ∃ ad, A = some ad ∧ ad.block < B ∧ w.cell? (ad.add (k * 2)) = some (.int .i64 (mAt l k).1) ∧ w.cell? ⟨(ad.add (k * 2)).block, (ad.add (k * 2)).off + 1, none⟩ = some (.int .i64 (mAt l k).2) := by
  obtain ⟨a0, a1⟩ := mc_at l k hk
  obtain ⟨ad, e, hb, c0⟩ := h.2 _ _ a0
  obtain ⟨ad1, e1, _, c1⟩ := h.2 _ _ a1
  rw [e] at e1
  injection e1 with e1
  subst e1
  rw [← add_add] at c1
  exact ⟨ad, e, hb, c0, c1⟩
set_option maxHeartbeats 1000000 in
theorem maybe_any (id inc : Int) (w : World) : Calls Try.prog 28 #[.agg #[.int .i64 id, .int .i64 inc]] w fun e w' => e = .returned (.bool (mayB id inc)) ∧ Below w.heap.size w w' := by
  have d0 : (w.alloc (.cells #[.int .i64 id, .int .i64 inc] 59)).cell? ⟨w.heap.size, 0, none⟩ = some (.int .i64 id) := by simp [go_sem]
  have d1 : (w.alloc (.cells #[.int .i64 id, .int .i64 inc] 59)).cell? ⟨w.heap.size, 1, none⟩ = some (.int .i64 inc) := by simp [go_sem]
  have HB := Lib.hid (below_alloc w (.cells #[.int .i64 id, .int .i64 inc] 59))
  go_enter Try.func28, Try.ntmps28
  go_upto_region 1 with fail
  generalize w.alloc (.cells #[.int .i64 id, .int .i64 inc] 59) = w1 at d0 d1 HB ⊢
  have HN := Lib.hid (mayB_no (id := id) (inc := inc))
  have HY := Lib.hid (mayB_yes (id := id) (inc := inc))
  by_cases g1 : 1 ≤ id
  · by_cases g2 : id ≤ 99
    · by_cases g3 : 1 ≤ inc
      · by_cases g4 : inc ≤ 1099511627776
        · have HT := Lib.hid (HY.out ⟨g1, g2, g3, g4⟩)
          go_wp2_with fail
          go_ret
          exact ⟨ret_bool HT.out.symm, HB.out⟩
        · have HT := Lib.hid (HN.out (by omega))
          go_wp2_with fail
          go_ret
          exact ⟨ret_bool HT.out.symm, HB.out⟩
      · have HT := Lib.hid (HN.out (by omega))
        go_wp2_with fail
        go_ret
        exact ⟨ret_bool HT.out.symm, HB.out⟩
    · have HT := Lib.hid (HN.out (by omega))
      go_wp2_with fail
      go_ret
      exact ⟨ret_bool HT.out.symm, HB.out⟩
  · have HT := Lib.hid (HN.out (by omega))
    go_wp2_with fail
    go_ret
    exact ⟨ret_bool HT.out.symm, HB.out⟩
theorem great_any (num : Int) (A : Option Addr) (c : Nat) (n : Nat) (w : World) (hn : n ≤ maxLen) :
    Calls Try.prog 9 #[.agg #[.int .i64 num, .slice A n c]] w fun e w' => e = .returned (.bool (decide (50 < n))) ∧ Below w.heap.size w w' := by
  unfold maxLen at hn
  have d1 : (w.alloc (.cells #[.int .i64 num, .slice A n c] 24)).cell? ⟨w.heap.size, 1, none⟩ = some (.slice A n c) := by simp [go_sem]
  have HB := Lib.hid (below_alloc w (.cells #[.int .i64 num, .slice A n c] 24))
  by_cases h : 50 < n
  · have h' : (50 : Int) < (n : Int) := by omega
    have HT := Lib.hid (decide_eq_true h)
    clear h
    go_enter Try.func9, Try.ntmps9
    go_wp2_with fail
    go_ret
    exact ⟨ret_bool HT.out.symm, HB.out⟩
  · have h' : ¬ (50 : Int) < (n : Int) := by omega
    have HT := Lib.hid (decide_eq_false h)
    clear h
    go_enter Try.func9, Try.ntmps9
    go_wp2_with fail
    go_ret
    exact ⟨ret_bool HT.out.symm, HB.out⟩
theorem riseM_step {a : Int} {l : List Mb} {k : Nat} (h : k < l.length) : riseM a (l.drop k) = (decide (1 ≤ (mAt l k).1 ∧ (mAt l k).1 ≤ 99 ∧ 1 ≤ (mAt l k).2 ∧ (mAt l k).2 ≤ 1099511627776 ∧ a < (mAt l k).1) && riseM (mAt l k).1 (l.drop (k + 1))) := by
  rw [mdrop_at l k h]; rfl
theorem right_no {v : V} (h : ¬ (0 ≤ v.1 ∧ v.1 ≤ 1099511627776 ∧ v.2.length ≤ 5)) : rightV v = false := by unfold rightV; rw [decide_eq_false h]; rfl
theorem right_yes {v : V} (h : 0 ≤ v.1 ∧ v.1 ≤ 1099511627776 ∧ v.2.length ≤ 5) : rightV v = riseM 0 v.2 := by unfold rightV; rw [decide_eq_true h]; rfl
def RgRel (l : List Mb) (w : World) (a i : Value) (W : World) : Prop := ∃ (k : Nat) (x : Int), i = .int .i64 k ∧ a = .int .i64 x ∧ k ≤ l.length ∧ Hid (riseM 0 l = riseM x (l.drop k)) ∧ Hid (Below w.heap.size w W)
set_option maxHeartbeats 1000000 in
theorem right_any (num : Int) (A : Option Addr) (c : Nat) (l : List Mb) (w : World) (hA : Lies w w.heap.size 2 A l.length (mc l)) (hn : l.length ≤ 1000000) :
    Calls Try.prog 12 #[.agg #[.int .i64 num, .slice A l.length c]] w fun e w' => e = .returned (.bool (rightV (num, l))) ∧ Below w.heap.size w w' := by
  have d0 : (w.alloc (.cells #[.int .i64 num, .slice A l.length c] 24)).cell? ⟨w.heap.size, 0, none⟩ = some (.int .i64 num) := by simp [go_sem]
  have d1 : (w.alloc (.cells #[.int .i64 num, .slice A l.length c] 24)).cell? ⟨w.heap.size, 1, none⟩ = some (.slice A l.length c) := by simp [go_sem]
  have HB := Lib.hid (below_alloc w (.cells #[.int .i64 num, .slice A l.length c] 24))
  have HA := Lib.hid hA
  have HNO := Lib.hid (right_no (v := (num, l)))
  clear hA
  go_enter Try.func12, Try.ntmps12
  go_upto_region 1 with fail
  generalize w.alloc (.cells #[.int .i64 num, .slice A l.length c] 24) = w1 at d0 d1 HB HA ⊢
  by_cases h1 : num < 0
  · have HT := Lib.hid (HNO.out (by simp only; omega))
    go_wp2_with fail
    go_ret
    exact ⟨ret_bool HT.out.symm, HB.out⟩
  · by_cases h2 : 1099511627776 < num
    · have HT := Lib.hid (HNO.out (by simp only; omega))
      go_wp2_with fail
      go_ret
      exact ⟨ret_bool HT.out.symm, HB.out⟩
    · by_cases h3 : 5 < l.length
      · have HT := Lib.hid (HNO.out (by simp only; omega))
        have h3' : (5 : Int) < (l.length : Int) := by omega
        go_wp2_with fail
        go_ret
        exact ⟨ret_bool HT.out.symm, HB.out⟩
      · have HF := Lib.hid (right_yes (v := (num, l)) (by simp only; omega))
        have h3' : ¬ (5 : Int) < (l.length : Int) := by omega
        go_wp2_with fail
        go_loopw [3, 5, 23] (fun a _ i W => RgRel l w a i W) (fun _ _ i W => l.length - (intOf i).toNat)
        case atStart => exact ⟨0, 0, rfl, rfl, Nat.zero_le _, Lib.hid rfl, HB⟩
        case round =>
          obtain ⟨k, a, rfl, rfl, hk, HP, HW⟩ := hrel
          by_cases hlt : k < l.length
          · obtain ⟨ad, rfl, hadb, e0, e1⟩ := (HA.out.below HW.out).mb k hlt
            have hkl : (k : Int) < (l.length : Int) := by omega
            have HR := Lib.hid (riseM_step (a := a) hlt)
            obtain ⟨m, hm⟩ : ∃ m, m = mAt l k := ⟨_, rfl⟩
            rw [← hm] at HR e0 e1
            clear hm
            obtain ⟨id, inc⟩ := m
            simp only at e0 e1
            have HBA := Lib.hid (below_alloc wr (.cells #[.int .i64 id, .int .i64 inc] 59))
            have f0 : (wr.alloc (.cells #[.int .i64 id, .int .i64 inc] 59)).cell? ⟨wr.heap.size, 0, none⟩ = some (.int .i64 id) := by simp [go_sem]
            have f1 : (wr.alloc (.cells #[.int .i64 id, .int .i64 inc] 59)).cell? ⟨wr.heap.size, 1, none⟩ = some (.int .i64 inc) := by simp [go_sem]
            have HSZ := Lib.hid (show wr.heap.size < (wr.alloc (.cells #[.int .i64 id, .int .i64 inc] 59)).heap.size by simp)
            have HW4 := Lib.hid (HW.out.trans (HBA.out.mono HW.out.size))
            go_upto_region 7 with fail
            clear e0 e1
            generalize wr.alloc (.cells #[.int .i64 id, .int .i64 inc] 59) = w4 at HBA f0 f1 HSZ HW4 ⊢
            go_wp2_with fail
            refine (maybe_any id inc _).mono ?_
            rintro e w5 ⟨rfl, hb5⟩
            have D0 := Lib.hid ((hb5.cell (p := ⟨wr.heap.size, 0, none⟩) HSZ.out).trans f0)
            have HW5 := Lib.hid (HW4.out.trans (hb5.mono HW4.out.size))
            clear hb5 f0 f1
            have f0 := D0.out
            cases hq : mayB id inc with
            | false =>
              have HT := Lib.hid (show rightV (num, l) = false by
                rw [HF.out]; show riseM 0 l = false; rw [HP.out, HR.out, decide_eq_false (fun h => by have := mayB_yes (id := id) (inc := inc) ⟨h.1, h.2.1, h.2.2.1, h.2.2.2.1⟩; rw [hq] at this; cases this)]; rfl)
              clear hq
              go_wp2_with fail
              go_ret
              exact ⟨ret_bool HT.out.symm, HW5.out⟩
            | true =>
              have HM := Lib.hid (mayB_of hq)
              clear hq
              by_cases g : id ≤ a
              · have HT := Lib.hid (show rightV (num, l) = false by rw [HF.out]; show riseM 0 l = false; rw [HP.out, HR.out, decide_eq_false (fun h => by have := h.2.2.2.2; omega)]; rfl)
                go_wp2_with fail
                go_ret
                exact ⟨ret_bool HT.out.symm, HW5.out⟩
              · have HT := Lib.hid (show riseM 0 l = riseM id (l.drop (k + 1)) by rw [HP.out, HR.out, decide_eq_true (by have := HM.out; omega)]; rfl)
                go_wp2_with fail
                go_roundw
                case rel => exact ⟨k + 1, _, by go_num, rfl, by omega, HT, HW5⟩
                case measure => simp [intOf]; omega
          · have hk' : k = l.length := by omega
            subst hk'
            have HT := Lib.hid (show rightV (num, l) = true by rw [HF.out]; show riseM 0 l = true; rw [HP.out, List.drop_length]; rfl)
            go_wp2_with fail
            go_ret
            exact ⟨ret_bool HT.out.symm, HW.out⟩
/-- The Id ahead of a place, or 0. -/
def lastM (l : List Mb) (k : Nat) : Int := if k = 0 then 0 else (mAt l (k - 1)).1
theorem lastM_succ (l : List Mb) (k : Nat) : lastM l (k + 1) = (mAt l k).1 := by unfold lastM; rw [if_neg (by omega)]; rfl
def RrRel (v : V) (w1 : World) (o i : Value) (W : World) : Prop := ∃ (k : Nat) (b : Bool), i = .int .i64 k ∧ o = .bool b ∧ k ≤ v.2.length ∧ Hid (rightV v = (b && riseM (lastM v.2 k) (v.2.drop k))) ∧ Hid (Below w1.heap.size w1 W)
set_option maxHeartbeats 4000000 in
set_option maxRecDepth 20000 in
theorem rright_any (num : Int) (A : Option Addr) (c : Nat) (l : List Mb) (w : World) (hA : Lies w w.heap.size 2 A l.length (mc l)) (hn : l.length ≤ 1000000) :
    Calls Try.prog 13 #[.agg #[.int .i64 num, .slice A l.length c]] w fun e w' => e = .returned (.bool (rightV (num, l))) ∧ Below w.heap.size w w' := by
  have d0 : (w.alloc (.cells #[.int .i64 num, .slice A l.length c] 30)).cell? ⟨w.heap.size, 0, none⟩ = some (.int .i64 num) := by simp [go_sem]
  have d1 : (w.alloc (.cells #[.int .i64 num, .slice A l.length c] 30)).cell? ⟨w.heap.size, 1, none⟩ = some (.slice A l.length c) := by simp [go_sem]
  have HB := Lib.hid (below_alloc w (.cells #[.int .i64 num, .slice A l.length c] 30))
  have HSZ0 := Lib.hid (show w.heap.size < (w.alloc (.cells #[.int .i64 num, .slice A l.length c] 30)).heap.size by simp)
  have HA := Lib.hid (hA.next HB.out)
  clear hA
  obtain ⟨b0, hb0⟩ : ∃ b0 : Bool, b0 = decide (0 ≤ num ∧ num ≤ 1099511627776 ∧ l.length ≤ 5) := ⟨_, rfl⟩
  have HB0 := Lib.hid hb0
  have HREL := Lib.hid (show rightV (num, l) = (b0 && riseM (lastM l 0) (l.drop 0)) by rw [hb0]; rfl)
  clear hb0
  go_enter Try.func13, Try.ntmps13
  go_upto_region 1 with fail
  generalize w.alloc (.cells #[.int .i64 num, .slice A l.length c] 30) = w1 at d0 d1 HB HA HSZ0 ⊢
  have D1 := Lib.hid (show ∀ W : World, Below w1.heap.size w1 W → W.cell? ⟨w.heap.size, 1, none⟩ = some (.slice A l.length c) from fun W hb => (hb.cell (p := ⟨w.heap.size, 1, none⟩) HSZ0.out).trans d1)
  go_cut [3] (fun o W => o = .bool b0 ∧ W = w1)
  case first =>
    by_cases h1 : 0 ≤ num
    · by_cases h2 : num ≤ 1099511627776
      · by_cases h3 : l.length ≤ 5
        · have h3' : (l.length : Int) ≤ 5 := by omega
          have hd : b0 = true := by rw [HB0.out]; exact decide_eq_true ⟨h1, h2, h3⟩
          subst hd
          go_wp2_with fail
          go_meet
          exact ⟨rfl, rfl⟩
        · have h3' : ¬ (l.length : Int) ≤ 5 := by omega
          have hd : b0 = false := by rw [HB0.out]; exact decide_eq_false (fun h => h3 h.2.2)
          subst hd
          go_wp2_with fail
          go_meet
          exact ⟨rfl, rfl⟩
      · have hd : b0 = false := by rw [HB0.out]; exact decide_eq_false (fun h => h2 h.2.1)
        subst hd
        go_wp2_with fail
        go_meet
        exact ⟨rfl, rfl⟩
    · have hd : b0 = false := by rw [HB0.out]; exact decide_eq_false (fun h => h1 h.1)
      subst hd
      go_wp2_with fail
      go_meet
      exact ⟨rfl, rfl⟩
  case rest =>
    obtain ⟨rfl, hwc⟩ := hcut
    subst hwc
    clear d0 d1
    go_wp2_with fail
    go_loopw [3, 4, 5] (fun o i _ W => RrRel (num, l) wc o i W) (fun o i _ W => l.length - (intOf i).toNat)
    case atStart => exact ⟨0, b0, rfl, rfl, Nat.zero_le _, HREL, Lib.hid (Below.refl _ _)⟩
    case round =>
      obtain ⟨k, b, rfl, rfl, hk, HP, HW⟩ := hrel
      have hk : k ≤ l.length := hk
      have d1 := D1.out wr HW.out
      by_cases hlt : k < l.length
      · obtain ⟨ad, rfl, hadb, e0, e1⟩ := (HA.out.below HW.out).mb k hlt
        have hkl : (k : Int) < (l.length : Int) := by omega
        have HR := Lib.hid (riseM_step (a := lastM l k) hlt)
        have HE := Lib.hid (lastM_succ l k)
        have HPRE := Lib.hid (show 0 < k → ∃ ad', some ad = some ad' ∧ ad'.block < wr.heap.size ∧ wr.cell? (ad'.add ((k - 1) * 2)) = some (.int .i64 (mAt l (k - 1)).1) ∧ wr.cell? ⟨(ad'.add ((k - 1) * 2)).block, (ad'.add ((k - 1) * 2)).off + 1, none⟩ = some (.int .i64 (mAt l (k - 1)).2) from fun h => (HA.out.next HW.out).mb (k - 1) (by omega))
        obtain ⟨m, hm⟩ : ∃ m, m = mAt l k := ⟨_, rfl⟩
        rw [← hm] at HR HE e0 e1
        clear hm
        obtain ⟨id, inc⟩ := m
        simp only at e0 e1
        have HBA := Lib.hid (below_alloc wr (.cells #[.int .i64 id, .int .i64 inc] 60))
        have f0 : (wr.alloc (.cells #[.int .i64 id, .int .i64 inc] 60)).cell? ⟨wr.heap.size, 0, none⟩ = some (.int .i64 id) := by simp [go_sem]
        have f1 : (wr.alloc (.cells #[.int .i64 id, .int .i64 inc] 60)).cell? ⟨wr.heap.size, 1, none⟩ = some (.int .i64 inc) := by simp [go_sem]
        have HW4 := Lib.hid (HW.out.trans (HBA.out.mono HW.out.size))
        have fin : ∀ b' : Bool, b' = (b && decide (1 ≤ id ∧ id ≤ 99 ∧ 1 ≤ inc ∧ inc ≤ 1099511627776 ∧ lastM l k < id)) → Hid (rightV (num, l) = (b' && riseM (lastM l (k + 1)) (l.drop (k + 1)))) := by
          intro b' hb'
          refine Lib.hid ?_
          have h1 := HP.out
          simp only at h1
          rw [h1, HR.out, HE.out, hb', Bool.and_assoc]
        have FIN := Lib.hid fin
        clear fin
        go_upto_region 6 with fail
        clear e0 e1
        have HPW := Lib.hid (show 0 < k → (wr.alloc (.cells #[.int .i64 id, .int .i64 inc] 60)).cell? (ad.add ((k - 1) * 2)) = some (.int .i64 (mAt l (k - 1)).1) from fun h => by
          obtain ⟨ad', ea, hb', c0, _⟩ := HPRE.out h
          injection ea with ea
          subst ea
          exact (HBA.out.cell (by rw [block_add]; exact hb')).trans c0)
        have d1' := D1.out _ HW4.out
        generalize wr.alloc (.cells #[.int .i64 id, .int .i64 inc] 60) = w4 at HBA f0 f1 HW4 HPW d1' ⊢
        cases b with
        | false =>
          have HT := FIN.out false rfl
          go_quiet (fail)
          go_wp2_with fail
          go_roundw
          case rel => exact ⟨k + 1, false, by go_num, rfl, by show k + 1 ≤ l.length; omega, HT, Lib.hid (below_to_drewN HW4.out _)⟩
          case measure => simp [intOf]; omega
        | true =>
          by_cases g1 : 1 ≤ id
          · by_cases g2 : id ≤ 99
            · by_cases g3 : 1 ≤ inc
              · by_cases g4 : inc ≤ 1099511627776
                · by_cases k0 : k = 0
                  · have HT := FIN.out true (by rw [decide_eq_true ⟨g1, g2, g3, g4, by rw [k0]; show (0 : Int) < _; omega⟩]; rfl)
                    have k0' : ((k : Int) == 0) = true := by rw [k0]; rfl
                    clear k0
                    go_quiet (fail)
                    go_wp2_with fail
                    go_roundw
                    case rel => exact ⟨k + 1, true, by go_num, rfl, by show k + 1 ≤ l.length; omega, HT, Lib.hid (below_to_drewN HW4.out _)⟩
                    case measure => simp [intOf]; omega
                  · have e1 := HPW.out (by omega)
                    have k0' : ((k : Int) == 0) = false := by simp; omega
                    have HQ := Lib.hid (show lastM l k = (mAt l (k - 1)).1 by unfold lastM; rw [if_neg k0])
                    have hk1 : ((k : Int) - 1) = ((k - 1 : Nat) : Int) := by omega
                    have hk2 : ((k - 1 : Nat) : Int) < (l.length : Int) := by omega
                    by_cases g5 : (mAt l (k - 1)).1 < id
                    · have HT := FIN.out true (by rw [decide_eq_true ⟨g1, g2, g3, g4, by rw [HQ.out]; exact g5⟩]; rfl)
                      clear k0
                      go_quiet (fail)
                      go_wp2_with fail
                      go_roundw
                      case rel => exact ⟨k + 1, true, by go_num, rfl, by show k + 1 ≤ l.length; omega, HT, Lib.hid (below_to_drewN HW4.out _)⟩
                      case measure => simp [intOf]; omega
                    · have HT := FIN.out false (by rw [decide_eq_false (by rw [HQ.out]; omega)]; rfl)
                      have g5' := decide_eq_false g5
                      clear k0 g5
                      go_quiet (fail)
                      go_wp2_with fail
                      go_roundw
                      case rel => exact ⟨k + 1, false, by go_num, rfl, by show k + 1 ≤ l.length; omega, HT, Lib.hid (below_to_drewN HW4.out _)⟩
                      case measure => simp [intOf]; omega
                · have HT := FIN.out false (by rw [decide_eq_false (by omega)]; rfl)
                  have g4' := decide_eq_false g4
                  clear g4
                  go_quiet (fail)
                  go_wp2_with fail
                  go_roundw
                  case rel => exact ⟨k + 1, false, by go_num, rfl, by show k + 1 ≤ l.length; omega, HT, Lib.hid (below_to_drewN HW4.out _)⟩
                  case measure => simp [intOf]; omega
              · have HT := FIN.out false (by rw [decide_eq_false (by omega)]; rfl)
                have g3' := decide_eq_false g3
                clear g3
                go_quiet (fail)
                go_wp2_with fail
                go_roundw
                case rel => exact ⟨k + 1, false, by go_num, rfl, by show k + 1 ≤ l.length; omega, HT, Lib.hid (below_to_drewN HW4.out _)⟩
                case measure => simp [intOf]; omega
            · have HT := FIN.out false (by rw [decide_eq_false (by omega)]; rfl)
              have g2' := decide_eq_false g2
              clear g2
              go_quiet (fail)
              go_wp2_with fail
              go_roundw
              case rel => exact ⟨k + 1, false, by go_num, rfl, by show k + 1 ≤ l.length; omega, HT, Lib.hid (below_to_drewN HW4.out _)⟩
              case measure => simp [intOf]; omega
          · have HT := FIN.out false (by rw [decide_eq_false (by omega)]; rfl)
            have g1' := decide_eq_false g1
            clear g1
            go_quiet (fail)
            go_wp2_with fail
            go_roundw
            case rel => exact ⟨k + 1, false, by go_num, rfl, by show k + 1 ≤ l.length; omega, HT, Lib.hid (below_to_drewN HW4.out _)⟩
            case measure => simp [intOf]; omega
      · have hk' : k = l.length := by omega
        subst hk'
        have HT := Lib.hid (show rightV (num, l) = b by have h1 := HP.out; simp only [List.drop_length] at h1; rw [h1]; cases b <;> rfl)
        go_wp2_with fail
        go_ret
        exact ⟨ret_bool HT.out.symm, HB.out.trans (HW.out.mono HB.out.size)⟩
end Go.Proofs.Ytemcmhpfpfmgdaa
