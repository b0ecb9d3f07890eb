/-
  The walk of BoxStays. No condition but that the numbers are of 64 bits.
-/
import Derived.Test.YtoadileebdejbaaLawD
namespace Go.Proofs.Ytoadileebdejbaa
open Go.RowKit Go.Sort
set_option linter.unusedVariables false

theorem srt_step {s : List Ms} (h : Srt s) (k : Nat) (hk : k + 1 < s.length) : ¬ (mAt s (k + 1)).1 < (mAt s k).1 ∧ ¬ ((mAt s (k + 1)).1 = (mAt s k).1 ∧ (mAt s (k + 1)).2 < (mAt s k).2) := by
  unfold Srt at h
  rw [List.pairwise_iff_getElem] at h
  have := h k (k + 1) (by omega) hk (by omega)
  rw [← mAt_get s _ hk, ← mAt_get s k (by omega), ltM_not] at this
  omega
theorem ris_step {s : List Ms} (h : Ris s) (k : Nat) (hk : k + 1 < s.length) : ¬ (mAt s (k + 1)).1 ≤ (mAt s k).1 := by
  unfold Ris at h
  rw [List.pairwise_iff_getElem] at h
  have := h k (k + 1) (by omega) hk (by omega)
  rw [← mAt_get s _ hk, ← mAt_get s k (by omega)] at this
  omega
theorem at_in {p : Int} {l y : List Ms} (ht : ∀ t, tot p t y = tot p t l) : (∀ e ∈ y, atB l e.1 = true) ∧ ∀ e ∈ l, atB y e.1 = true := by
  have key : ∀ (a b : List Ms), (∀ t, tot p t a = tot p t b) → ∀ e ∈ a, atB b e.1 = true := fun a b h e he => by
    have hn : tot p e.1 b ≠ none := by rw [← h]; intro hh; exact tot_none.1 hh e he rfl
    obtain ⟨v, hv⟩ := Option.ne_none_iff_exists'.1 hn
    obtain ⟨m, hm, em⟩ := tot_some hv
    exact atB_iff.2 ⟨m, hm, em⟩
  exact ⟨key y l ht, key l y (fun t => (ht t).symm)⟩
theorem mAt_mem {l : List Ms} {k : Nat} (h : k < l.length) : mAt l k ∈ l := by rw [mAt_get l k h]; exact List.getElem_mem h

def S1Rel (n : Nat) (w3 : World) (i : Value) (W : World) : Prop := ∃ k : Nat, i = .int .i64 (k + 1 : Nat) ∧ k ≤ n ∧ Hid (Below w3.heap.size w3 W)
def S2Rel (n : Nat) (w3 : World) (i : Value) (W : World) : Prop := ∃ k : Nat, i = .int .i64 k ∧ k ≤ n ∧ Hid (Below w3.heap.size w3 W)

set_option maxHeartbeats 4000000 in
set_option maxRecDepth 20000 in
theorem stays_walk (p : Int) (A : Option Addr) (n c : Nat) (l : List Ms) (w : World) (hA : Lies w w.heap.size 2 A n (mc l)) (hbd : ∀ e ∈ l, bd e.2) :
    Calls Try.prog 7 #[.int .i64 p, .slice A n c] w fun e w' => e = .returned (.bool true) ∧ Below w.heap.size w w' := by
  have mixed : Try.prog.follows .mixedOrders = true := by kernel_rfl
  obtain rfl := hA.ms_len
  have HA := Lib.hid hA
  have HBD := Lib.hid hbd
  clear hA hbd
  by_cases hg : 300 < l.length
  · have HG := Lib.hid (show decide (300 < l.length) = true from decide_eq_true hg)
    clear hg
    go_enter Try.func7, Try.ntmps7
    go_wp2_with fail
    refine (great_any A l.length c _).mono ?_
    rintro e w1 ⟨rfl, rfl⟩
    rw [HG.out]
    go_wp2_with fail
    refine (knows_any _).mono ?_
    rintro e w2 ⟨rfl, hb2⟩
    have HB2 := Lib.hid hb2
    clear hb2
    go_wp2_with fail
    go_ret
    exact ⟨rfl, HB2.out⟩
  have HG := Lib.hid (show decide (300 < l.length) = false from decide_eq_false hg)
  have hn : l.length ≤ 300 := by omega
  clear hg
  go_enter Try.func7, Try.ntmps7
  go_wp2_with fail
  refine (great_any A l.length c _).mono ?_
  rintro e w1 ⟨rfl, rfl⟩
  rw [HG.out]
  go_wp2_with fail
  refine (own_any A l.length c l _ HA.out (by omega)).mono ?_
  rintro e w2 ⟨A2, c2, rfl, ho2, hb2⟩
  have HB2 := Lib.hid hb2
  have HC := Lib.hid (sort_any A2 l.length c2 l w2 (Lies.of_own ho2) (by omega))
  clear ho2 hb2
  go_wp2_with fail
  refine HC.out.mono ?_
  rintro e w3 ⟨A3, c3, rfl, ho3, hb3⟩
  obtain ⟨s, hs⟩ : ∃ s, s = msort l := ⟨_, rfl⟩
  rw [msort_len, ← hs] at ho3
  have hsl : s.length = l.length := by rw [hs]; exact msort_len l
  rw [msort_len]
  rw [← hsl] at ho3 ⊢
  have HSL := Lib.hid hsl
  have HS := Lib.hid (show Srt s by rw [hs]; exact msort_srt l)
  have HL3 := Lib.hid (Lies.of_own ho3)
  have HB3 := Lib.hid (HB2.out.trans (hb3.mono HB2.out.size))
  have hsn : s.length ≤ 300 := by omega
  rw [hsl]
  rw [hsl] at HL3
  clear ho3 hb3 HC HB2 hs hsl
  go_wp2_with fail
  go_loopw [6] (fun i W => S1Rel l.length w3 i W) (fun i W => l.length + 1 - (intOf i).toNat)
  case atStart => exact ⟨0, rfl, Nat.zero_le _, Below.refl _ _⟩
  case round =>
    obtain ⟨k, rfl, hk, HB⟩ := hrel
    by_cases hlt : k + 1 < l.length
    · obtain ⟨ad, rfl, hadb, e0, e1⟩ := (HL3.out.below HB.out).ms k (by omega)
      obtain ⟨ad2, e2, _, f0, f1⟩ := (HL3.out.below HB.out).ms (k + 1) hlt
      injection e2 with e2
      subst e2
      obtain ⟨h1, h2⟩ := srt_step HS.out k (by rw [HSL.out]; exact hlt)
      generalize mAt s (k + 1) = y at f0 f1 h1 h2
      generalize mAt s k = x at e0 e1 h1 h2
      have hkz : (k : Int) + 1 < (l.length : Int) := by omega
      have za : (k : Int) < (l.length : Int) := by omega
      have wj : IntKind.i64.wrap (k : Int) = (k : Int) := by rw [IntKind.wrap_i64]; omega
      have p0 : (0 : Int) ≤ (k : Int) + 1 := by omega
      have t0 : ((k : Int) + 1).toNat = k + 1 := by omega
      have d1 : decide (y.1 < x.1) = false := decide_eq_false h1
      by_cases he : y.1 = x.1
      · have d2 : (y.1 == x.1) = true := by simpa using he
        have d3 : decide (y.2 < x.2) = false := decide_eq_false (fun h => h2 ⟨he, h⟩)
        clear h1 h2 he
        go_wp2_with fail
        go_quiet (fail)
        go_wp2_with fail
        go_roundw
        case rel => exact ⟨k + 1, by go_num, by omega, below_to_drewN HB.out nq⟩
        case measure => simp [intOf]; omega
      · have d2 : (y.1 == x.1) = false := by simpa using he
        clear h1 h2 he
        go_wp2_with fail
        go_quiet (fail)
        go_wp2_with fail
        go_roundw
        case rel => exact ⟨k + 1, by go_num, by omega, below_to_drewN HB.out nq⟩
        case measure => simp [intOf]; omega
    · have hkz : ¬ (k : Int) + 1 < (l.length : Int) := by omega
      obtain ⟨w4, hw4⟩ : ∃ x, x = wr := ⟨_, rfl⟩
      subst hw4
      have HB4 := Lib.hid (HB3.out.trans (HB.out.mono HB3.out.size))
      have HC5 := Lib.hid (own_any A l.length c l w4 (HA.out.next HB4.out) (by omega))
      clear HB HB3 HL3 HS
      go_wp2_with fail
      refine HC5.out.mono ?_
      rintro e w5 ⟨A5, c5, rfl, ho5, hb5⟩
      have HB5 := Lib.hid (HB4.out.trans (hb5.mono HB4.out.size))
      have HC6 := Lib.hid (fdf_any p A5 l.length c5 l w5 (Lies.of_own ho5) (by omega) HBD.out)
      clear ho5 hb5 HB4 HC5
      go_wp2_with fail
      refine HC6.out.mono ?_
      rintro e w6 ⟨A6, c6, rfl, ho6, hb6⟩
      have HB6 := Lib.hid (HB5.out.trans (hb6.mono HB5.out.size))
      have HF6 := Lib.hid (Lies.of_own ho6)
      have hfn := fdR_len p l
      clear ho6 hb6 HB5 HC6
      by_cases hc : fdC p l = 0
      · obtain ⟨hp, hy⟩ := fdC_zero hc
        obtain ⟨r1, r2, _⟩ := fold_some HBD.out hy
        have HR := Lib.hid r1
        have HT := Lib.hid (at_in r2)
        rw [hc]
        clear hp hy r1 r2 hc
        generalize fdR p l = f at *
        have HL6 := Lib.hid (HA.out.next HB6.out)
        clear HA
        go_wp2_with fail
        go_loopw [9] (fun i W => S2Rel f.length w6 i W) (fun i W => f.length - (intOf i).toNat)
        case atStart => exact ⟨0, rfl, Nat.zero_le _, Below.refl _ _⟩
        case round =>
          obtain ⟨j, rfl, hj, HB⟩ := hrel
          by_cases hlt2 : j < f.length
          · obtain ⟨ad, rfl, hadb, e0, e1⟩ := (HF6.out.below HB.out).ms j hlt2
            have hjz : (j : Int) < (f.length : Int) := by omega
            have hca := rat_any A l.length c l (mAt f j).1 wr (HL6.out.next HB.out) (by omega)
            rw [HT.out.1 _ (mAt_mem hlt2)] at hca
            have HCA := Lib.hid hca
            clear hca
            go_wp2_with fail
            refine HCA.out.mono ?_
            rintro e w7 ⟨rfl, hb7⟩
            have HB7 := Lib.hid (HB.out.trans (hb7.mono HB.out.size))
            clear hb7 HCA e0 e1 HB
            by_cases hj0 : j = 0
            · subst hj0
              go_wp2_with fail
              go_quiet (fail)
              go_wp2_with fail
              go_roundw
              case rel => exact ⟨1, by first | rfl | go_num, by omega, below_to_drewN HB7.out nq⟩
              case measure => simp [intOf]; omega
            · obtain ⟨jp, rfl⟩ : ∃ jp, j = jp + 1 := ⟨j - 1, by omega⟩
              obtain ⟨ad2, e2, _, f0, f1⟩ := (HF6.out.below HB7.out).ms (jp + 1) hlt2
              injection e2 with e2
              subst e2
              obtain ⟨ad2, e2, _, g0, g1⟩ := (HF6.out.below HB7.out).ms jp (by omega)
              injection e2 with e2
              subst e2
              have hr := ris_step HR.out jp hlt2
              have d1 : decide ((mAt f (jp + 1)).1 ≤ (mAt f jp).1) = false := decide_eq_false hr
              have d2 : decide ((jp : Int) + 1 > 0) = true := decide_eq_true (by omega)
              have za : (jp : Int) < (f.length : Int) := by omega
              have zb : (jp : Int) + 1 < (f.length : Int) := by omega
              have wj : IntKind.i64.wrap (jp : Int) = (jp : Int) := by rw [IntKind.wrap_i64]; omega
              have p0 : (0 : Int) ≤ (jp : Int) + 1 := by omega
              have t0 : ((jp : Int) + 1).toNat = jp + 1 := by omega
              clear hr hj0 hjz
              go_wp2_with fail
              go_quiet (fail)
              go_wp2_with fail
              go_roundw
              case rel => exact ⟨jp + 1 + 1, by first | rfl | go_num, by omega, below_to_drewN HB7.out nq⟩
              case measure => simp [intOf]; omega
          · have hjz : ¬ (j : Int) < (f.length : Int) := by omega
            obtain ⟨w8, hw8⟩ : ∃ x, x = wr := ⟨_, rfl⟩
            subst hw8
            have HB8 := Lib.hid (HB6.out.trans (HB.out.mono HB6.out.size))
            have HF8 := Lib.hid (HF6.out.next HB.out)
            have HL8 := Lib.hid (HL6.out.next HB.out)
            clear HB HB6 HF6 HL6
            go_wp2_with fail
            go_loopw [12] (fun i W => S2Rel l.length w8 i W) (fun i W => l.length - (intOf i).toNat)
            case atStart => exact ⟨0, rfl, Nat.zero_le _, Below.refl _ _⟩
            case round =>
              obtain ⟨i, rfl, hi, HB⟩ := hrel
              by_cases hlt3 : i < l.length
              · obtain ⟨ad, rfl, hadb, e0, e1⟩ := (HL8.out.below HB.out).ms i hlt3
                have hiz : (i : Int) < (l.length : Int) := by omega
                have hca := rat_any A6 f.length c6 f (mAt l i).1 wr (HF8.out.next HB.out) (by omega)
                rw [HT.out.2 _ (mAt_mem hlt3)] at hca
                have HCA := Lib.hid hca
                clear hca
                go_wp2_with fail
                refine HCA.out.mono ?_
                rintro e w9 ⟨rfl, hb9⟩
                have HB9 := Lib.hid (HB.out.trans (hb9.mono HB.out.size))
                clear hb9 HCA
                go_wp2_with fail
                go_roundw
                case rel => exact ⟨i + 1, by go_num, by omega, HB9⟩
                case measure => simp [intOf]; omega
              · have hiz : ¬ (i : Int) < (l.length : Int) := by omega
                go_wp2_with fail
                refine (knows_any _).mono ?_
                rintro e w9 ⟨rfl, hb9⟩
                have HB9 := Lib.hid (HB8.out.trans ((HB.out.trans (hb9.mono HB.out.size)).mono HB8.out.size))
                clear hb9
                go_wp2_with fail
                go_ret
                exact ⟨rfl, HB9.out⟩
      · have hr := (fdC_not hc).1
        have hc' : (fdC p l != 0) = true := by simpa using hc
        rw [hr]
        clear hc hr
        go_wp2_with fail
        refine (knows_any _).mono ?_
        rintro e w7 ⟨rfl, hb7⟩
        have HB7 := Lib.hid (HB6.out.trans (hb7.mono HB6.out.size))
        clear hb7
        go_wp2_with fail
        go_ret
        exact ⟨rfl, HB7.out⟩

end Go.Proofs.Ytoadileebdejbaa
