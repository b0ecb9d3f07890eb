/-
  The walk of BoxParts. No condition but that the numbers are of 64 bits.
-/
import Derived.Test.YtoadileebdejbaaLawA
namespace Go.Proofs.Ytoadileebdejbaa
open Go.RowKit Go.Sort
set_option linter.unusedVariables false

theorem fd_of {p : Int} {l l' : List Ms} (h : fdL p (msort l) = fdL p (msort l')) : fdR p l = fdR p l' ∧ fdC p l = fdC p l' := by
  unfold fdR fdC; rw [h]; exact ⟨rfl, rfl⟩
theorem fd_sorted (p : Int) (l : List Ms) : fdR p (msort l) = fdR p l ∧ fdC p (msort l) = fdC p l := fd_of (by rw [msort_of (msort_perm l)])
theorem fdC_zero {p : Int} {l : List Ms} (h : fdC p l = 0) : (1 ≤ p ∧ p ≤ 5) ∧ fdL p (msort l) = some (fdR p l) := by
  by_cases hp : 1 ≤ p ∧ p ≤ 5
  · refine ⟨hp, ?_⟩
    cases hf : fdL p (msort l) with
    | none => rw [(fd_none hp hf).2] at h; cases h
    | some y => rw [(fd_some hp hf).1]
  · rw [(fd_not hp).2] at h; cases h
theorem fdC_not {p : Int} {l : List Ms} (h : ¬ fdC p l = 0) : fdR p l = [] ∧ (¬ (1 ≤ p ∧ p ≤ 5) ∨ ((1 ≤ p ∧ p ≤ 5) ∧ fdL p (msort l) = none)) := by
  by_cases hp : 1 ≤ p ∧ p ≤ 5
  · cases hf : fdL p (msort l) with
    | none => exact ⟨(fd_none hp hf).1, .inr ⟨hp, rfl⟩⟩
    | some y => exact absurd (fd_some hp hf).2 h
  · exact ⟨(fd_not hp).1, .inl hp⟩
/-- Folded in parts and then together, with the errors. -/
theorem fd_parts {p : Int} {a b : List Ms} (ha : ∀ e ∈ a, bd e.2) (hb : ∀ e ∈ b, bd e.2) (h0 : p = 5 → ∀ e ∈ a ++ b, 0 ≤ e.2) (h1 : fdC p a = 0) (h2 : fdC p b = 0) :
    fdR p (fdR p a ++ fdR p b) = fdR p (a ++ b) ∧ fdC p (fdR p a ++ fdR p b) = fdC p (a ++ b) := by
  obtain ⟨hp, e1⟩ := fdC_zero h1
  obtain ⟨_, e2⟩ := fdC_zero h2
  exact fd_of (parts_yes hp ha hb h0 e1 e2)
theorem fd_parts_no {p : Int} {a b : List Ms} (ha : ∀ e ∈ a, bd e.2) (hb : ∀ e ∈ b, bd e.2) (h0 : p = 5 → ∀ e ∈ a ++ b, 0 ≤ e.2) (h : ¬ fdC p a = 0 ∨ ¬ fdC p b = 0) : ¬ fdC p (a ++ b) = 0 := by
  by_cases hp : 1 ≤ p ∧ p ≤ 5
  · have : fdL p (msort a) = none ∨ fdL p (msort b) = none := by
      rcases h with h | h
      · rcases (fdC_not h).2 with h | h
        · exact absurd hp h
        · exact .inl h.2
      · rcases (fdC_not h).2 with h | h
        · exact absurd hp h
        · exact .inr h.2
    rw [(fd_none hp (parts_no hp ha hb h0 this)).2]
    decide
  · rw [(fd_not hp).2]; decide
theorem fdR_bd {p : Int} {l : List Ms} (h : ∀ e ∈ l, bd e.2) : ∀ e ∈ fdR p l, bd e.2 := by
  intro e he
  by_cases hc : fdC p l = 0
  · exact (fold_some h (fdC_zero hc).2).2.2 e he
  · rw [(fdC_not hc).1] at he; cases he

def PaRel (p : Int) (l : List Ms) (w2 : World) (i : Value) (W : World) : Prop := ∃ k : Nat, i = .int .i64 k ∧ k ≤ l.length ∧ Hid (p = 5 → ∀ i, i < k → 0 ≤ (mAt l i).2) ∧ w2 = W

set_option maxHeartbeats 4000000 in
theorem parts_walk (p : Int) (A : Option Addr) (n c : Nat) (a : List Ms) (A' : Option Addr) (n' c' : Nat) (b : List Ms) (w : World) (hA : Lies w w.heap.size 2 A n (mc a)) (hA' : Lies w w.heap.size 2 A' n' (mc b)) (hba : ∀ e ∈ a, bd e.2) (hbb : ∀ e ∈ b, bd e.2) :
    Calls Try.prog 8 #[.int .i64 p, .slice A n c, .slice A' n' c'] w fun e w' => e = .returned (.bool true) ∧ Below w.heap.size w w' := by
  obtain rfl := hA.ms_len
  obtain rfl := hA'.ms_len
  have HA := Lib.hid hA
  have HA' := Lib.hid hA'
  have HBA := Lib.hid hba
  have HBB := Lib.hid hbb
  clear hA hA' hba hbb
  by_cases hg : 300 < a.length
  · have HG := Lib.hid (show decide (300 < a.length) = true from decide_eq_true hg)
    clear hg
    go_enter Try.func8, Try.ntmps8
    go_wp2_with fail
    refine (great_any A a.length c _).mono ?_
    rintro e w1 ⟨rfl, rfl⟩
    rw [HG.out]
    go_wp2_with fail
    refine (knows_any _).mono ?_
    rintro e w2 ⟨rfl, hb2⟩
    have HB2 := Lib.hid hb2
    clear hb2
    go_wp2_with fail
    go_ret
    exact ⟨rfl, HB2.out⟩
  by_cases hg' : 300 < b.length
  · have HG := Lib.hid (show decide (300 < a.length) = false from decide_eq_false hg)
    have HG' := Lib.hid (show decide (300 < b.length) = true from decide_eq_true hg')
    clear hg hg'
    go_enter Try.func8, Try.ntmps8
    go_wp2_with fail
    refine (great_any A a.length c _).mono ?_
    rintro e w1 ⟨rfl, rfl⟩
    rw [HG.out]
    go_wp2_with fail
    refine (great_any A' b.length c' _).mono ?_
    rintro e w1 ⟨rfl, rfl⟩
    rw [HG'.out]
    go_wp2_with fail
    refine (knows_any _).mono ?_
    rintro e w2 ⟨rfl, hb2⟩
    have HB2 := Lib.hid hb2
    clear hb2
    go_wp2_with fail
    go_ret
    exact ⟨rfl, HB2.out⟩
  have HG := Lib.hid (show decide (300 < a.length) = false from decide_eq_false hg)
  have HG' := Lib.hid (show decide (300 < b.length) = false from decide_eq_false hg')
  have HN := Lib.hid (show a.length ≤ 300 by omega)
  have HN' := Lib.hid (show b.length ≤ 300 by omega)
  clear hg hg'
  obtain ⟨i0, hi0, hz0, hzs, hzb⟩ := info_parts (show (Try.prog.info? 40).map (fun i => (i.zero, i.size, i.bytes)) = some (some (.agg #[.int .i64 0, .int .i64 0]), 2, 16) by kernel_rfl)
  have HI0 := Lib.hid hi0
  have HZ0 := Lib.hid hz0
  have HZS := Lib.hid hzs
  have HZB := Lib.hid hzb
  clear hi0 hz0 hzs hzb
  go_enter Try.func8, Try.ntmps8
  go_wp2_with fail
  refine (great_any A a.length c _).mono ?_
  rintro e w1 ⟨rfl, rfl⟩
  rw [HG.out]
  go_wp2_with fail
  refine (great_any A' b.length c' _).mono ?_
  rintro e w1 ⟨rfl, rfl⟩
  rw [HG'.out]
  go_wp2_with fail
  refine (own_any A a.length c a _ HA.out (by have := HN.out; omega)).mono ?_
  rintro e w1 ⟨A1, c1, rfl, ho1, hb1⟩
  have HO1 := Lib.hid ho1
  have HB1 := Lib.hid hb1
  have HL1 := Lib.hid (HA'.out.below hb1)
  have hz1 := hb1.size
  clear ho1 hb1
  go_wp2_with (at_builtin; go_must (refine wpList_app _ rfl (.tmp 25) (.tmp 26) 22 rfl w.heap.size 40 i0 _ 2 16 Try.underlying22 HI0.out HZ0.out HZS.out HZB.out rfl (by decide) A1 a.length c1 (mc a) rfl HO1.out w.heap.size A' b.length c' (mc b) rfl HL1.out (mc_one _) (a.length + b.length) (mc (a ++ b)) rfl (by rw [mc_append]) (by have := HN.out; have := HN'.out; unfold maxLen; omega) (by have := HN.out; have := HN'.out; omega) hz1 ?_))
  intro A2 c2 w2 ho2 hb2
  have HB2 := Lib.hid (HB1.out.trans hb2)
  have HO2 := Lib.hid ho2
  clear ho2 hb2 HO1 HB1 HL1 hz1
  obtain ⟨z, hz⟩ : ∃ z, z = a ++ b := ⟨_, rfl⟩
  have HZ := Lib.hid hz
  have hzl : a.length + b.length = z.length := by rw [hz, List.length_append]
  rw [hzl, ← hz] at HO2
  rw [hzl]
  have HZN := Lib.hid (show z.length ≤ 600 by have := HN.out; have := HN'.out; omega)
  have HL2 := Lib.hid (Lies.of_own HO2.out)
  clear hz hzl HO2
  go_wp2_with fail
  go_loopw [8] (fun i W => PaRel p z w2 i W) (fun i W => z.length - (intOf i).toNat)
  case atStart => exact ⟨0, rfl, Nat.zero_le _, fun _ i hi => by omega, rfl⟩
  case round =>
    obtain ⟨k, rfl, hk, HK, rfl⟩ := hrel
    by_cases hlt : k < z.length
    · obtain ⟨ad, rfl, hadb, e0, e1⟩ := HL2.out.ms k hlt
      have hkl : (k : Int) < (z.length : Int) := by omega
      have hzn : z.length ≤ 600 := HZN.out
      by_cases h5 : p = 5
      · subst h5
        by_cases hneg : (mAt z k).2 < 0
        · go_wp2_with fail
          refine (knows_any _).mono ?_
          rintro e w3 ⟨rfl, hb3⟩
          have HB3 := Lib.hid (HB2.out.trans (hb3.mono HB2.out.size))
          clear hb3
          go_wp2_with fail
          go_ret
          exact ⟨rfl, HB3.out⟩
        · have HK2 := Lib.hid (show (5 : Int) = 5 → ∀ i, i < k + 1 → 0 ≤ (mAt z i).2 from fun h i hi => by
            by_cases e : i = k
            · rw [e]; omega
            · exact HK.out h i (by omega))
          go_wp2_with fail
          go_roundw
          case rel => exact ⟨k + 1, by go_num, by omega, HK2, by first | rfl | trivial⟩
          case measure => simp [intOf]; omega
      · have h5' : (p == 5) = false := by simpa using h5
        have HK2 := Lib.hid (show p = 5 → ∀ i, i < k + 1 → 0 ≤ (mAt z i).2 from fun h => absurd h h5)
        clear h5
        go_wp2_with fail
        go_roundw
        case rel => exact ⟨k + 1, by go_num, by omega, HK2, by first | rfl | trivial⟩
        case measure => simp [intOf]; omega
    · have hk' : k = z.length := by omega
      subst hk'
      have H0 := Lib.hid (show p = 5 → ∀ e ∈ a ++ b, 0 ≤ e.2 from fun h5 e he => by
        rw [← HZ.out] at he
        obtain ⟨i, hi, rfl⟩ := List.getElem_of_mem he
        have := HK.out h5 i hi
        rwa [mAt_get z i hi] at this)
      clear HK
      have HC3 := Lib.hid (own_any A a.length c a w2 (HA.out.next HB2.out) (by have := HN.out; omega))
      go_wp2_with fail
      refine HC3.out.mono ?_
      rintro e w3 ⟨A3, c3, rfl, ho3, hb3⟩
      have HB3 := Lib.hid hb3
      have HC4 := Lib.hid (fdf_any p A3 a.length c3 a w3 (Lies.of_own ho3) (by have := HN.out; omega) HBA.out)
      clear ho3 hb3 HC3
      go_wp2_with fail
      refine HC4.out.mono ?_
      rintro e w4 ⟨A4, c4, rfl, ho4, hb4⟩
      have HX4 := Lib.hid ho4
      have HB4 := Lib.hid (HB3.out.trans (hb4.mono HB3.out.size))
      have HC5 := Lib.hid (own_any A' b.length c' b w4 ((HA'.out.next HB2.out).next HB4.out) (by have := HN'.out; omega))
      clear ho4 hb4 HB3 HC4
      go_wp2_with fail
      refine HC5.out.mono ?_
      rintro e w5 ⟨A5, c5, rfl, ho5, hb5⟩
      have HX5 := Lib.hid (own_next HX4.out hb5)
      have HB5 := Lib.hid (HB4.out.trans (hb5.mono HB4.out.size))
      have HC6 := Lib.hid (fdf_any p A5 b.length c5 b w5 (Lies.of_own ho5) (by have := HN'.out; omega) HBB.out)
      clear ho5 hb5 HB4 HC5 HX4
      go_wp2_with fail
      refine HC6.out.mono ?_
      rintro e w6 ⟨A6, c6, rfl, ho6, hb6⟩
      have HX6 := Lib.hid (own_next HX5.out hb6)
      have HY6 := Lib.hid ho6
      have HB6 := Lib.hid (HB5.out.trans (hb6.mono HB5.out.size))
      have HC7 := Lib.hid (fdf_any p A2 z.length c2 z w6 (HL2.out.next HB6.out) (by have := HZN.out; omega) (by
        rw [HZ.out]
        intro e he
        rcases List.mem_append.1 he with he | he
        · exact HBA.out e he
        · exact HBB.out e he))
      clear ho6 hb6 HB5 HC6 HX5
      go_wp2_with fail
      refine HC7.out.mono ?_
      rintro e w7 ⟨A7, c7, rfl, ho7, hb7⟩
      have HX7 := Lib.hid (own_next HX6.out hb7)
      have HY7 := Lib.hid (own_next HY6.out hb7)
      have HZ7 := Lib.hid ho7
      have HB7 := Lib.hid (HB6.out.trans (hb7.mono HB6.out.size))
      clear ho7 hb7 HB6 HC7 HX6 HY6
      by_cases h1 : fdC p a = 0
      · by_cases h2 : fdC p b = 0
        · have HP := Lib.hid (fd_parts HBA.out HBB.out H0.out h1 h2)
          rw [h1, h2]
          clear h1 h2
          have hll : LL (w7.alloc (.cells #[.slice A4 (fdR p a).length c4, .slice A6 (fdR p b).length c6] 22)) (w7.alloc (.cells #[.slice A4 (fdR p a).length c4, .slice A6 (fdR p b).length c6] 22)).heap.size (some ⟨w7.heap.size, 0, none⟩) 2 [(A4, (fdR p a).length, c4, fdR p a), (A6, (fdR p b).length, c6, fdR p b)] := by
            refine ⟨(lies_cells w7 [.slice A4 (fdR p a).length c4, .slice A6 (fdR p b).length c6] 22 2 1 rfl).more (by simp), fun x hx => ?_⟩
            rcases List.mem_cons.1 hx with rfl | hx
            · exact (Lies.of_own HX7.out).next (below_alloc _ _)
            · rw [List.mem_singleton.1 hx]
              exact (Lies.of_own HY7.out).next (below_alloc _ _)
          have hcat : lcat [(A4, (fdR p a).length, c4, fdR p a), (A6, (fdR p b).length, c6, fdR p b)] = fdR p a ++ fdR p b := by simp [lcat]
          have hlc : (fdR p a ++ fdR p b).length ≤ 1000000 := by have := fdR_len p a; have := fdR_len p b; have := HN.out; have := HN'.out; rw [List.length_append]; omega
          have hc := join_any _ 2 2 _ _ hll (by omega) (by rw [hcat]; exact hlc)
          rw [hcat] at hc
          have HLC := Lib.hid hlc
          have HC8 := Lib.hid hc
          clear hc hll hcat hlc
          go_wp2_with fail
          refine HC8.out.mono ?_
          rintro e w8 h8
          obtain ⟨A8, c8, rfl, ho8, hb8⟩ := h8.up (below_alloc _ _)
          have HZ8 := Lib.hid (own_next HZ7.out hb8)
          have HB8 := Lib.hid (HB7.out.trans (hb8.mono HB7.out.size))
          have hc := fdf_any p A8 _ c8 (msort (fdR p a ++ fdR p b)) w8 (Lies.of_own ho8) (by rw [msort_len]; exact HLC.out) (fun e he => by
            rcases List.mem_append.1 ((msort_perm _).mem_iff.1 he) with he | he
            · exact fdR_bd HBA.out e he
            · exact fdR_bd HBB.out e he)
          rw [(fd_sorted p _).1, (fd_sorted p _).2, HP.out.1, HP.out.2, ← HZ.out] at hc
          have HC9 := Lib.hid hc
          clear hc ho8 hb8 h8 HC8 HX7 HY7 HZ7 HB7
          go_wp2_with fail
          refine HC9.out.mono ?_
          rintro e w9 ⟨A9, c9, rfl, ho9, hb9⟩
          have hc := sameM_any A9 _ c9 (fdR p z) A7 _ c7 (fdR p z) w9 (Lies.of_own ho9) ((Lies.of_own HZ8.out).next hb9) (by have := fdR_len p z; have := HZN.out; omega) (by have := fdR_len p z; have := HZN.out; omega)
          rw [show decide (fdR p z = fdR p z) = true from decide_eq_true rfl] at hc
          have HC10 := Lib.hid hc
          have HB9 := Lib.hid (HB8.out.trans (hb9.mono HB8.out.size))
          clear hc ho9 hb9 HC9 HZ8 HB8
          generalize fdC p z = ec
          go_wp2_with fail
          refine HC10.out.mono ?_
          rintro e w10 ⟨rfl, hb10⟩
          have HB10 := Lib.hid (HB9.out.trans (hb10.mono HB9.out.size))
          clear hb10 HC10 HB9
          go_wp2_with fail
          refine (knows_any _).mono ?_
          rintro e w11 ⟨rfl, hb11⟩
          have HB11 := Lib.hid (HB2.out.trans ((HB10.out.trans (hb11.mono HB10.out.size)).mono HB2.out.size))
          clear hb11
          go_wp2_with fail
          go_ret
          exact ⟨rfl, HB11.out⟩
        · have HP := Lib.hid (fd_parts_no HBA.out HBB.out H0.out (.inr h2))
          rw [← HZ.out] at HP
          rw [h1]
          have hq : (fdC p z != 0) = true := by simpa using HP.out
          have h2' : (fdC p b != 0) = true := by simpa using h2
          clear h1 h2
          generalize fdC p z = ec at *
          generalize fdC p b = eb at *
          go_wp2_with fail
          refine (knows_any _).mono ?_
          rintro e w11 ⟨rfl, hb11⟩
          have HB11 := Lib.hid (HB2.out.trans ((HB7.out.trans (hb11.mono HB7.out.size)).mono HB2.out.size))
          clear hb11
          go_wp2_with fail
          go_ret
          exact ⟨rfl, HB11.out⟩
      · have HP := Lib.hid (fd_parts_no HBA.out HBB.out H0.out (.inl h1))
        rw [← HZ.out] at HP
        have hq : (fdC p z != 0) = true := by simpa using HP.out
        have h1' : (fdC p a != 0) = true := by simpa using h1
        clear h1
        generalize fdC p z = ec at *
        generalize fdC p a = ea at *
        go_wp2_with fail
        refine (knows_any _).mono ?_
        rintro e w11 ⟨rfl, hb11⟩
        have HB11 := Lib.hid (HB2.out.trans ((HB7.out.trans (hb11.mono HB7.out.size)).mono HB2.out.size))
        clear hb11
        go_wp2_with fail
        go_ret
        exact ⟨rfl, HB11.out⟩

end Go.Proofs.Ytoadileebdejbaa
