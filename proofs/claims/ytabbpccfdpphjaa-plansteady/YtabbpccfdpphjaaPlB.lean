import Derived.Test.YtabbpccfdpphjaaPlA
import Derived.Lib.BufferMore
/-
  Words for moves in memory; the contracts of slices.Clone, plan.Moves, of the document's own Moves, and of the statements' own same, great. No condition but that the lists have at most a million numbers.
-/
namespace Go.Proofs.Ytabbpccfdpphjaa
open Go.ChangeShapes Go.WideShapes Go.ChangeAt Go.RowKit
set_option linter.unusedVariables false

theorem great_any (A : Option Addr) (c : Nat) (n : Nat) (w : World) (hn : n ≤ maxLen) :
    Calls Try.prog 10 #[.slice A n c] w fun e w' => e = .returned (.bool (decide (50 < n))) ∧ w = w' := by
  unfold maxLen at hn
  by_cases h : 50 < n
  · have h' : (50 : Int) < (n : Int) := by omega
    have HT := Lib.hid (decide_eq_true h)
    clear h
    go_enter Try.func10, Try.ntmps10
    go_wp2_with fail
    go_ret
    exact ⟨ret_bool HT.out.symm, rfl⟩
  · have h' : ¬ (50 : Int) < (n : Int) := by omega
    have HT := Lib.hid (decide_eq_false h)
    clear h
    go_enter Try.func10, Try.ntmps10
    go_wp2_with fail
    go_ret
    exact ⟨ret_bool HT.out.symm, rfl⟩
set_option maxHeartbeats 1000000 in
set_option maxRecDepth 20000 in
theorem clone_v (A : Option Addr) (c : Nat) (l : List Int) (w : World) (hA : Lies w w.heap.size 1 A l.length (vc l)) (hn : l.length ≤ 1000000) :
    Calls Try.prog 28 #[.slice A l.length c] w fun e w' => ∃ A' c', e = .returned (.slice A' l.length c') ∧ w'.ownsRow w.heap.size 3 1 (.slice A' l.length c') l.length (vc l) ∧ Below w.heap.size w w' := by
  cases A with
  | none =>
    obtain rfl : l = [] := by
      cases l with
      | nil => rfl
      | cons x r => obtain ⟨ad, e, _⟩ := hA.vs 0 (by simp); cases e
    simp only [List.length_nil] at hA ⊢
    have hnil : ∀ W : World, (binOp .eql 22 (.slice none 0 c) (.slice none 0 0)).run Try.prog W = .ok (.bool true) W := fun W => Lib.run_eql_slice_nil_nil W _ _ Try.underlying22
    go_enter Try.func28, Try.ntmps28
    go_wp2_with fail
    go_ret
    exact ⟨none, 0, rfl, World.ownsRow_nil _ _ _ _, Below.refl _ _⟩
  | some ad =>
    obtain ⟨i0, hi0, hz0, hzs, hzb⟩ := info_parts (show (Try.prog.info? 3).map (fun i => (i.zero, i.size, i.bytes)) = some (some (.int .i64 0), 1, 8) by kernel_rfl)
    have HI0 := Lib.hid hi0
    have HZ0 := Lib.hid hz0
    have HZS := Lib.hid hzs
    have HZB := Lib.hid hzb
    have HO := Lib.hid (own_empty w 3 w.heap.size (Nat.le_refl _))
    have HL := Lib.hid (hA.below (below_alloc w (.cells #[] 3)))
    have hnil : ∀ W : World, (binOp .eql 22 (.slice (some ad) l.length c) (.slice none 0 0)).run Try.prog W = .ok (.bool false) W := fun W => Lib.run_eql_slice_some_nil W _ _ _ Try.underlying22
    clear hi0 hz0 hzs hzb hA
    go_enter Try.func28, Try.ntmps28
    go_wp2_with (at_builtin; go_must (refine wpList_app _ rfl (.tmp 5) (.tmp 6) 22 rfl w.heap.size 3 i0 _ 1 8 Try.underlying22 HI0.out HZ0.out HZS.out HZB.out rfl (by decide) (some ⟨w.heap.size, 0, none⟩) 0 0 [] rfl HO.out w.heap.size (some ad) l.length c (vc l) rfl HL.out (vc_one _) l.length (vc l) (Nat.zero_add _) rfl (by unfold maxLen; omega) (by omega) (by simp) ?_))
    intro A4 c4 w4 ho4 hb4
    have HO4 := Lib.hid ho4
    have HB4 := Lib.hid ((below_alloc w _).trans hb4)
    clear ho4 hb4
    go_wp2_with fail
    go_ret
    exact ⟨A4, c4, rfl, HO4.out, HB4.out⟩
/-- Moves as cells. -/
def mc (l : List Mv) : List Value := l.flatMap fun m => [.int .i64 m.1, .int .i64 m.2.1, .int .i64 m.2.2]
theorem mc_length (l : List Mv) : (mc l).length = l.length * 3 := by
  unfold mc
  induction l with
  | nil => rfl
  | cons e r ih => simp only [List.flatMap_cons, List.length_append, ih, List.length_cons, List.length_nil]; omega
theorem mc_append (a b : List Mv) : mc (a ++ b) = mc a ++ mc b := by unfold mc; simp
theorem mc_one (l : List Mv) : ∀ u ∈ mc l, u.oneCell' = true := by
  intro u hu
  unfold mc at hu
  obtain ⟨e, _, he⟩ := List.mem_flatMap.1 hu
  simp at he
  rcases he with rfl | rfl | rfl <;> rfl
def mAt (l : List Mv) (k : Nat) : Mv := l.getD k (0, 0, 0)
theorem mAt_get (l : List Mv) (k : Nat) (h : k < l.length) : mAt l k = l[k] := by unfold mAt; rw [List.getD_eq_getElem?_getD, List.getElem?_eq_getElem h]; rfl
theorem mAt_mem (l : List Mv) (k : Nat) (h : k < l.length) : mAt l k ∈ l := by rw [mAt_get l k h]; exact List.getElem_mem h
theorem mtake_at (l : List Mv) (k : Nat) (h : k < l.length) : l.take (k + 1) = l.take k ++ [mAt l k] := by rw [mAt_get l k h]; exact List.take_succ_eq_append_getElem h
theorem mdrop_at (l : List Mv) (k : Nat) (h : k < l.length) : l.drop k = mAt l k :: l.drop (k + 1) := by rw [mAt_get l k h]; exact List.drop_eq_getElem_cons h
theorem mc_at (l : List Mv) (k : Nat) (h : k < l.length) : (mc l)[k * 3]? = some (.int .i64 (mAt l k).1) ∧ (mc l)[k * 3 + 1]? = some (.int .i64 (mAt l k).2.1) ∧ (mc l)[k * 3 + 2]? = some (.int .i64 (mAt l k).2.2) := by
  induction l generalizing k with
  | nil => simp at h
  | cons e r ih =>
    cases k with
    | zero => simp [mc, mAt]
    | succ k =>
      have := ih k (by simpa using h)
      have e1 : (k + 1) * 3 = k * 3 + 3 := by omega
      have e2 : k * 3 + 3 + 1 = k * 3 + 1 + 3 := by omega
      have e3 : k * 3 + 3 + 2 = k * 3 + 2 + 3 := by omega
      rw [e1, e2, e3]
      exact this
theorem Lies.mv {w : World} {B : Nat} {A : Option Addr} {n : Nat} {l : List Mv} (h : Lies w B 3 A n (mc l)) (k : Nat) (hk : k < l.length) :
    ∃ ad, A = some ad ∧ ad.block < B ∧ w.cell? (ad.add (k * 3)) = some (.int .i64 (mAt l k).1) ∧ w.cell? ⟨(ad.add (k * 3)).block, (ad.add (k * 3)).off + 1, none⟩ = some (.int .i64 (mAt l k).2.1) ∧ w.cell? ⟨(ad.add (k * 3)).block, (ad.add (k * 3)).off + 2, none⟩ = some (.int .i64 (mAt l k).2.2) := by
  obtain ⟨a0, a1, a2⟩ := mc_at l k hk
  obtain ⟨ad, e, hb, c0⟩ := h.2 _ _ a0
  obtain ⟨ad1, e1, _, c1⟩ := h.2 _ _ a1
  obtain ⟨ad2, e2, _, c2⟩ := h.2 _ _ a2
  rw [e] at e1 e2
  injection e1 with e1
  injection e2 with e2
  subst e1 e2
  rw [← add_add] at c1 c2
  exact ⟨ad, e, hb, c0, c1, c2⟩
/-- What a call answers that makes moves and tells an error. -/
def MlPost (t : TypeId) (l : List Mv) (E : Int) (w : World) (r : Ending) (w' : World) : Prop :=
  ∃ D d, r = .returned (.tuple #[.slice D l.length d, .int .i64 E]) ∧ w'.ownsRow w.heap.size t 3 (.slice D l.length d) l.length (mc l) ∧ Below w.heap.size w w'
def okM (old fresh : List Int) : Bool := rightO old && rightO fresh && decide (old.length = fresh.length)
def movR (old fresh : List Int) : List Mv := if okM old fresh then mvN old fresh old.length else []
def movE (old fresh : List Int) : Int := if okM old fresh then 0 else 1
theorem okM_no {old fresh : List Int} (h : okM old fresh = false) : movR old fresh = [] ∧ movE old fresh = 1 := by unfold movR movE; rw [h]; exact ⟨rfl, rfl⟩
theorem okM_yes {old fresh : List Int} (h : okM old fresh = true) : movR old fresh = mvN old fresh old.length ∧ movE old fresh = 0 := by unfold movR movE; rw [h]; exact ⟨rfl, rfl⟩
theorem ml_no {t : TypeId} {old fresh : List Int} {w w' : World} (h : okM old fresh = false) (hb : Below w.heap.size w w') : MlPost t (movR old fresh) (movE old fresh) w (.returned (.tuple #[.slice none 0 0, .int .i64 1])) w' := by
  rw [(okM_no h).1, (okM_no h).2]
  exact ⟨none, 0, rfl, World.ownsRow_nil _ _ _ _, hb⟩
theorem ml_yes {t : TypeId} {old fresh : List Int} {w w' : World} {D : Option Addr} {d : Nat} (h : okM old fresh = true) (ho : w'.ownsRow w.heap.size t 3 (.slice D (mvN old fresh old.length).length d) (mvN old fresh old.length).length (mc (mvN old fresh old.length))) (hb : Below w.heap.size w w') :
    MlPost t (movR old fresh) (movE old fresh) w (.returned (.tuple #[.slice D (mvN old fresh old.length).length d, .int .i64 0])) w' := by
  rw [(okM_yes h).1, (okM_yes h).2]
  exact ⟨D, d, rfl, ho, hb⟩
def MoRel (t : TypeId) (old fresh : List Int) (w : World) (o i : Value) (W : World) : Prop := ∃ (k : Nat) (D : Option Addr) (d : Nat), i = .int .i64 k ∧ k ≤ old.length ∧ o = .slice D (mvN old fresh k).length d ∧ Hid (Below w.heap.size w W) ∧ Hid (W.ownsRow w.heap.size t 3 (.slice D (mvN old fresh k).length d) (mvN old fresh k).length (mc (mvN old fresh k)))
set_option maxHeartbeats 2000000 in
theorem moves_any (A : Option Addr) (c : Nat) (old : List Int) (B : Option Addr) (d : Nat) (fresh : List Int) (w : World) (hA : Lies w w.heap.size 1 A old.length (vc old)) (hB : Lies w w.heap.size 1 B fresh.length (vc fresh)) (hn : old.length ≤ 1000000) (hm : fresh.length ≤ 1000000) :
    Calls Try.prog 12 #[.slice A old.length c, .slice B fresh.length d] w (MlPost 35 (movR old fresh) (movE old fresh) w) := by
  have HA := Lib.hid hA
  have HB := Lib.hid hB
  clear hA hB
  cases h1 : rightO old with
  | false =>
    have HT := Lib.hid (show okM old fresh = false by unfold okM; rw [h1]; rfl)
    have H1 := Lib.hid h1
    clear h1
    go_enter Try.func12, Try.ntmps12
    go_wp2_with fail
    refine (pright_any A c old _ HA.out hn).mono ?_
    rintro e w1 ⟨rfl, rfl⟩
    rw [H1.out]
    go_wp2_with fail
    go_ret2
    exact ml_no HT.out (Below.refl _ _)
  | true =>
    have H1 := Lib.hid h1
    clear h1
    cases h2 : rightO fresh with
    | false =>
      have HT := Lib.hid (show okM old fresh = false by unfold okM; rw [h2]; cases rightO old <;> rfl)
      have H2 := Lib.hid h2
      clear h2
      go_enter Try.func12, Try.ntmps12
      go_wp2_with fail
      refine (pright_any A c old _ HA.out hn).mono ?_
      rintro e w1 ⟨rfl, rfl⟩
      rw [H1.out]
      go_wp2_with fail
      refine (pright_any B d fresh _ HB.out hm).mono ?_
      rintro e w1 ⟨rfl, rfl⟩
      rw [H2.out]
      go_wp2_with fail
      go_ret2
      exact ml_no HT.out (Below.refl _ _)
    | true =>
      have H2 := Lib.hid h2
      clear h2
      by_cases hl : old.length = fresh.length
      · have HT := Lib.hid (show okM old fresh = true by unfold okM; rw [H1.out, H2.out, decide_eq_true hl]; rfl)
        have HLE := Lib.hid hl
        have HL6 := Lib.hid (rightO_len H1.out)
        have hl' : ((old.length : Int) != (fresh.length : Int)) = false := by simp; omega
        clear hl
        obtain ⟨iv, hiv, hzv, hzsv, hzbv⟩ := info_parts (show (Try.prog.info? 35).map (fun i => (i.zero, i.size, i.bytes)) = some (some (.agg #[.int .i64 0, .int .i64 0, .int .i64 0]), 3, 24) by kernel_rfl)
        have IV := Lib.hid hiv
        have ZV := Lib.hid hzv
        have SV := Lib.hid hzsv
        have BV := Lib.hid hzbv
        clear hiv hzv hzsv hzbv
        go_enter Try.func12, Try.ntmps12
        go_wp2_with fail
        refine (pright_any A c old _ HA.out hn).mono ?_
        rintro e w1 ⟨rfl, rfl⟩
        rw [H1.out]
        go_wp2_with fail
        refine (pright_any B d fresh _ HB.out hm).mono ?_
        rintro e w1 ⟨rfl, rfl⟩
        rw [H2.out]
        go_wp2_with fail
        go_loopw [6, 27] (fun o i W => MoRel 35 old fresh w o i W) (fun o i W => old.length - (intOf i).toNat)
        case atStart => exact ⟨0, none, 0, rfl, Nat.zero_le _, rfl, Lib.hid (Below.refl _ _), Lib.hid (World.ownsRow_nil _ _ _ _)⟩
        case round =>
          obtain ⟨k, D, dd, rfl, hk, rfl, HW, HO⟩ := hrel
          by_cases hlt : k < old.length
          · obtain ⟨ad, rfl, hadb, e0⟩ := (HA.out.below HW.out).vs k hlt
            obtain ⟨ad', rfl, hadb', e1⟩ := (HB.out.below HW.out).vs k (by have := HLE.out; omega)
            have hkl : (k : Int) < (old.length : Int) := by omega
            have hkf : (k : Int) < (fresh.length : Int) := by have := HLE.out; omega
            have HN := Lib.hid (mvN_len old fresh k)
            have hk6 : k < 6 := by have := HL6.out; omega
            by_cases he : iAt old k = iAt fresh k
            · have HY := Lib.hid (mvN_no he)
              have he' : (iAt fresh k != iAt old k) = false := by simp; exact he.symm
              clear he
              go_wp2_with fail
              go_roundw
              case rel => exact ⟨k + 1, D, dd, by go_num, by omega, by rw [HY.out], HW, by rw [HY.out]; exact HO⟩
              case measure => simp [intOf]; omega
            · have HY := Lib.hid (mvN_yes he)
              have he' : (iAt fresh k != iAt old k) = true := by simp; exact fun h => he h.symm
              clear he
              generalize mvN old fresh k = X at HO HY HN ⊢
              generalize iAt fresh k = tz at *
              generalize iAt old k = from' at *
              have HO1 := Lib.hid (own_next HO.out (below_alloc wr (.cells #[.int .i64 (k : Int), .int .i64 from', .int .i64 tz] 35)))
              have HL1 := Lib.hid (lies_cells wr (mc [((k : Int), from', tz)]) 35 1 3 rfl)
              have HB1 := Lib.hid (HW.out.trans ((below_alloc wr (.cells #[.int .i64 (k : Int), .int .i64 from', .int .i64 tz] 35)).mono HW.out.size))
              go_wp2_with (at_builtin; go_must (refine wpList_app2 _ rfl (.tmp 39) (.tmp 44) 25 rfl w.heap.size 35 iv _ 3 24 Try.underlying25 IV.out ZV.out SV.out BV.out rfl (by decide) D X.length dd (mc X) rfl HO1.out (wr.heap.size + 1) (some ⟨wr.heap.size, 0, none⟩) 1 1 (mc [((k : Int), from', tz)]) rfl HL1.out (mc_one _) (X.length + 1) (mc X ++ mc [((k : Int), from', tz)]) rfl rfl (by have := HN.out; unfold maxLen; omega) (by have := HN.out; omega) HB1.out.size ?_))
              intro A9 c9 w9 ho9 hb9 hg9
              have HO9 := Lib.hid ho9
              have HB9 := Lib.hid (HB1.out.trans hb9)
              clear ho9 hb9 hg9
              go_wp2_with fail
              go_roundw
              case rel => exact ⟨k + 1, A9, c9, by go_num, by omega, by rw [HY.out]; simp, HB9, by rw [HY.out, mc_append, List.length_append]; exact HO9⟩
              case measure => simp [intOf]; omega
          · have hk' : k = old.length := by omega
            subst hk'
            go_wp2_with fail
            go_ret2
            exact ml_yes HT.out HO.out HW.out
      · have HT := Lib.hid (show okM old fresh = false by unfold okM; rw [decide_eq_false hl]; simp)
        have hl' : ((old.length : Int) != (fresh.length : Int)) = true := by simp; omega
        clear hl
        go_enter Try.func12, Try.ntmps12
        go_wp2_with fail
        refine (pright_any A c old _ HA.out hn).mono ?_
        rintro e w1 ⟨rfl, rfl⟩
        rw [H1.out]
        go_wp2_with fail
        refine (pright_any B d fresh _ HB.out hm).mono ?_
        rintro e w1 ⟨rfl, rfl⟩
        rw [H2.out]
        go_wp2_with fail
        go_ret2
        exact ml_no HT.out (Below.refl _ _)
set_option maxHeartbeats 2000000 in
theorem rmoves_any (A : Option Addr) (c : Nat) (old : List Int) (B : Option Addr) (d : Nat) (fresh : List Int) (w : World) (hA : Lies w w.heap.size 1 A old.length (vc old)) (hB : Lies w w.heap.size 1 B fresh.length (vc fresh)) (hn : old.length ≤ 1000000) (hm : fresh.length ≤ 1000000) :
    Calls Try.prog 13 #[.slice A old.length c, .slice B fresh.length d] w (MlPost 36 (movR old fresh) (movE old fresh) w) := by
  have HA := Lib.hid hA
  have HB := Lib.hid hB
  clear hA hB
  cases h1 : rightO old with
  | false =>
    have HT := Lib.hid (show okM old fresh = false by unfold okM; rw [h1]; rfl)
    have H1 := Lib.hid h1
    clear h1
    go_enter Try.func13, Try.ntmps13
    go_wp2_with fail
    refine (rrighto_any A c old _ HA.out hn).mono ?_
    rintro e w1 ⟨rfl, rfl⟩
    rw [H1.out]
    go_wp2_with fail
    go_ret2
    exact ml_no HT.out (Below.refl _ _)
  | true =>
    have H1 := Lib.hid h1
    clear h1
    cases h2 : rightO fresh with
    | false =>
      have HT := Lib.hid (show okM old fresh = false by unfold okM; rw [h2]; cases rightO old <;> rfl)
      have H2 := Lib.hid h2
      clear h2
      go_enter Try.func13, Try.ntmps13
      go_wp2_with fail
      refine (rrighto_any A c old _ HA.out hn).mono ?_
      rintro e w1 ⟨rfl, rfl⟩
      rw [H1.out]
      go_wp2_with fail
      refine (rrighto_any B d fresh _ HB.out hm).mono ?_
      rintro e w1 ⟨rfl, rfl⟩
      rw [H2.out]
      go_wp2_with fail
      go_ret2
      exact ml_no HT.out (Below.refl _ _)
    | true =>
      have H2 := Lib.hid h2
      clear h2
      by_cases hl : old.length = fresh.length
      · have HT := Lib.hid (show okM old fresh = true by unfold okM; rw [H1.out, H2.out, decide_eq_true hl]; rfl)
        have HLE := Lib.hid hl
        have HL6 := Lib.hid (rightO_len H1.out)
        have hl' : ((old.length : Int) != (fresh.length : Int)) = false := by simp; omega
        clear hl
        obtain ⟨iv, hiv, hzv, hzsv, hzbv⟩ := info_parts (show (Try.prog.info? 36).map (fun i => (i.zero, i.size, i.bytes)) = some (some (.agg #[.int .i64 0, .int .i64 0, .int .i64 0]), 3, 24) by kernel_rfl)
        have IV := Lib.hid hiv
        have ZV := Lib.hid hzv
        have SV := Lib.hid hzsv
        have BV := Lib.hid hzbv
        clear hiv hzv hzsv hzbv
        go_enter Try.func13, Try.ntmps13
        go_wp2_with fail
        refine (rrighto_any A c old _ HA.out hn).mono ?_
        rintro e w1 ⟨rfl, rfl⟩
        rw [H1.out]
        go_wp2_with fail
        refine (rrighto_any B d fresh _ HB.out hm).mono ?_
        rintro e w1 ⟨rfl, rfl⟩
        rw [H2.out]
        go_wp2_with fail
        go_loopw [6, 7] (fun o i W => MoRel 36 old fresh w o i W) (fun o i W => old.length - (intOf i).toNat)
        case atStart => exact ⟨0, none, 0, rfl, Nat.zero_le _, rfl, Lib.hid (Below.refl _ _), Lib.hid (World.ownsRow_nil _ _ _ _)⟩
        case round =>
          obtain ⟨k, D, dd, rfl, hk, rfl, HW, HO⟩ := hrel
          by_cases hlt : k < old.length
          · obtain ⟨ad, rfl, hadb, e0⟩ := (HA.out.below HW.out).vs k hlt
            obtain ⟨ad', rfl, hadb', e1⟩ := (HB.out.below HW.out).vs k (by have := HLE.out; omega)
            have hkl : (k : Int) < (old.length : Int) := by omega
            have hkf : (k : Int) < (fresh.length : Int) := by have := HLE.out; omega
            have HN := Lib.hid (mvN_len old fresh k)
            have hk6 : k < 6 := by have := HL6.out; omega
            by_cases he : iAt old k = iAt fresh k
            · have HY := Lib.hid (mvN_no he)
              have he' : (iAt old k != iAt fresh k) = false := by simp; exact he
              clear he
              go_upto_region 7 with fail
              go_quiet (fail)
              have HWD := Lib.hid (below_to_drewN HW.out nq)
              have HOD := Lib.hid (own_next HO.out (below_to_drewN (Below.refl _ wr) nq))
              go_wp2_with fail
              go_roundw
              case rel => exact ⟨k + 1, D, dd, by go_num, by omega, by rw [HY.out], HWD, by rw [HY.out]; exact HOD⟩
              case measure => simp [intOf]; omega
            · have HY := Lib.hid (mvN_yes he)
              have he' : (iAt old k != iAt fresh k) = true := by simp; exact he
              clear he
              generalize mvN old fresh k = X at HO HY HN ⊢
              generalize hto : iAt fresh k = tz at *
              generalize hfrom : iAt old k = from' at *
              have hX : X.length ≤ 6 := by have := HN.out; omega
              go_upto_region 7 with fail
              go_quiet (fail)
              obtain ⟨wq, hwq⟩ : ∃ wq, wq = wr.drewN nq := ⟨_, rfl⟩
              have HWD := Lib.hid (show Below w.heap.size w wq by rw [hwq]; exact below_to_drewN HW.out nq)
              have HOD := Lib.hid (show wq.ownsRow w.heap.size 36 3 (.slice D X.length dd) X.length (mc X) by rw [hwq]; exact own_next HO.out (below_to_drewN (Below.refl _ wr) nq))
              rw [← hwq]
              clear hwq e0 e1
              obtain ⟨ad0, ea0, _, e0⟩ := (HA.out.below HWD.out).vs k hlt
              obtain ⟨ad1, ea1, _, e1⟩ := (HB.out.below HWD.out).vs k (by have := HLE.out; omega)
              injection ea0 with ea0
              injection ea1 with ea1
              subst ea0 ea1
              rw [hto] at e1
              rw [hfrom] at e0
              have HO1 := Lib.hid (own_next (own_next HOD.out (below_alloc wq (.cells #[.int .i64 (k : Int), .int .i64 from', .int .i64 tz] 36))) (Below.refl _ (wq.alloc (.cells #[.int .i64 (k : Int), .int .i64 from', .int .i64 tz] 36))).drew)
              have HL1 := Lib.hid (show Lies (wq.alloc (.cells #[.int .i64 (k : Int), .int .i64 from', .int .i64 tz] 36)).drew (wq.heap.size + 1) 3 (some ⟨wq.heap.size, 0, none⟩) 1 (mc [((k : Int), from', tz)]) from lies_cells wq (mc [((k : Int), from', tz)]) 36 1 3 rfl)
              have HB1 := Lib.hid (show Below w.heap.size w (wq.alloc (.cells #[.int .i64 (k : Int), .int .i64 from', .int .i64 tz] 36)).drew from (HWD.out.trans ((below_alloc wq (.cells #[.int .i64 (k : Int), .int .i64 from', .int .i64 tz] 36)).mono HWD.out.size)).drew)
              go_upto_region 8 with fail
              go_region_law (refine step_own2 rfl _ _ 29 rfl w.heap.size 36 iv _ 3 24 Try.underlying29 IV.out ZV.out SV.out BV.out rfl (by decide) D X.length dd (mc X) (by simp [Act.eval]) HO1.out (wq.heap.size + 1) (some ⟨wq.heap.size, 0, none⟩) 1 1 (mc [((k : Int), from', tz)]) (by simp [Act.eval]) HL1.out (mc_one _) (X.length + 1) rfl (by unfold maxLen; omega) (by omega) HB1.out.size ?_; intro A9 c9 w9 ho9 hb9; have HO9 := Lib.hid ho9; have HB9 := Lib.hid (HB1.out.trans hb9))
              all_goals
                clear e0 e1 ho9 hb9
                go_wp2_with fail
                go_roundw
                case rel => exact ⟨k + 1, A9, c9, by go_num, by omega, by rw [HY.out]; simp, HB9, by rw [HY.out, mc_append, List.length_append]; exact HO9⟩
                case measure => simp [intOf]; omega
          · have hk' : k = old.length := by omega
            subst hk'
            go_wp2_with fail
            go_ret2
            exact ml_yes HT.out HO.out HW.out
      · have HT := Lib.hid (show okM old fresh = false by unfold okM; rw [decide_eq_false hl]; simp)
        have hl' : ((old.length : Int) != (fresh.length : Int)) = true := by simp; omega
        clear hl
        go_enter Try.func13, Try.ntmps13
        go_wp2_with fail
        refine (rrighto_any A c old _ HA.out hn).mono ?_
        rintro e w1 ⟨rfl, rfl⟩
        rw [H1.out]
        go_wp2_with fail
        refine (rrighto_any B d fresh _ HB.out hm).mono ?_
        rintro e w1 ⟨rfl, rfl⟩
        rw [H2.out]
        go_wp2_with fail
        go_ret2
        exact ml_no HT.out (Below.refl _ _)
end Go.Proofs.Ytabbpccfdpphjaa
