import Derived.Test.YtpgdddjjjfkneaaGreatDoorKo
import Derived.Deep.RegionHeld3
/-
  The contract of Fold of the package box: what the messages are folded into, or the error. No condition but that the messages are not too many and their numbers of 62 bits.
-/
namespace Go.Proofs.YtpgdddjjjfkneaaGreatDoor
open Go.RowKit Go.Sort
set_option linter.unusedVariables false

/-- What a call answers that folds messages. -/
def FdPost (l : List Ms) (e : Int) (w : World) (r : Ending) (w' : World) : Prop :=
  ∃ A c, r = .returned (.tuple #[.slice A l.length c, .int .i64 e]) ∧ w'.ownsRow w.heap.size 118 2 (.slice A l.length c) l.length (mc l) ∧ Below w.heap.size w w'
theorem fd_none {p : Int} {l : List Ms} (hp : 1 ≤ p ∧ p ≤ 5) (h : fdL p (msort l) = none) : fdR p l = [] ∧ fdC p l = 8 := by
  unfold fdR fdC; rw [if_pos hp, if_pos hp, h]; exact ⟨rfl, rfl⟩
theorem fd_some {p : Int} {l y : List Ms} (hp : 1 ≤ p ∧ p ≤ 5) (h : fdL p (msort l) = some y) : fdR p l = y ∧ fdC p l = 0 := by
  unfold fdR fdC; rw [if_pos hp, if_pos hp, h]; exact ⟨rfl, rfl⟩
theorem fd_not {p : Int} {l : List Ms} (hp : ¬ (1 ≤ p ∧ p ≤ 5)) : fdR p l = [] ∧ fdC p l = 1 := by
  unfold fdR fdC; rw [if_neg hp, if_neg hp]; exact ⟨rfl, rfl⟩
/-- What is folded so far, and what is still to come. -/
def FInv (p : Int) (s : List Ms) (k : Nat) (F : List Ms) : Prop :=
  (F = [] ∧ k = 0) ∨ ∃ D m, F = D ++ [m] ∧ fdL p s = (fl p m (s.drop k)).map (D ++ ·) ∧ bd m.2
theorem FInv.first {p : Int} {s : List Ms} (h : 0 < s.length) (hb : ∀ e ∈ s, bd e.2) : FInv p s 1 [mAt s 0] := by
  refine .inr ⟨[], mAt s 0, rfl, ?_, hb _ (by rw [mAt_get s 0 h]; exact List.getElem_mem h)⟩
  have := drop_at s 0 h
  rw [List.drop_zero] at this
  have e : fdL p s = fl p (mAt s 0) (s.drop 1) := by
    conv => lhs; rw [this]
    rfl
  rw [e]
  simp
theorem FInv.diff {p : Int} {s : List Ms} {k : Nat} {D : List Ms} {m : Ms} (h : fdL p s = (fl p m (s.drop k)).map (D ++ ·)) (hk : k < s.length) (hb : ∀ e ∈ s, bd e.2) (hn : ¬ (mAt s k).1 = m.1) : FInv p s (k + 1) ((D ++ [m]) ++ [mAt s k]) := by
  refine .inr ⟨D ++ [m], mAt s k, rfl, ?_, hb _ (by rw [mAt_get s k hk]; exact List.getElem_mem hk)⟩
  rw [h, drop_at s k hk, fl_next hn, Option.map_map]
  congr 1
  funext z
  simp
theorem FInv.same {p : Int} {s : List Ms} {k : Nat} {D : List Ms} {m : Ms} (h : fdL p s = (fl p m (s.drop k)).map (D ++ ·)) (hk : k < s.length) (hb : ∀ e ∈ s, bd e.2) (hm : bd m.2) (hn : (mAt s k).1 = m.1) (he : fdE p m.2 (mAt s k).2 = 0) :
    FInv p s (k + 1) (D ++ [(m.1, fdX p m.2 (mAt s k).2)]) := by
  refine .inr ⟨D, _, rfl, ?_, fdX_bd hm (hb _ (by rw [mAt_get s k hk]; exact List.getElem_mem hk))⟩
  rw [h, drop_at s k hk, fl_same hn he]
theorem FInv.bad {p : Int} {s : List Ms} {k : Nat} {D : List Ms} {m : Ms} (h : fdL p s = (fl p m (s.drop k)).map (D ++ ·)) (hk : k < s.length) (hn : (mAt s k).1 = m.1) (he : ¬ fdE p m.2 (mAt s k).2 = 0) : fdL p s = none := by
  rw [h, drop_at s k hk, fl_none hn he]; rfl
theorem FInv.done {p : Int} {s F : List Ms} (h : FInv p s s.length F) : fdL p s = some F := by
  rcases h with ⟨rfl, h0⟩ | ⟨D, m, rfl, h, _⟩
  · have : s = [] := List.eq_nil_of_length_eq_zero h0
    subst this; rfl
  · rw [h, List.drop_length]; rfl
theorem last_at (D : List Ms) (m : Ms) : mAt (D ++ [m]) D.length = m := by
  rw [mAt_get _ _ (by simp)]; simp
theorem last_set (D : List Ms) (m x : Ms) : (D ++ [m]).set D.length x = D ++ [x] := by simp
def FdRel (p : Int) (s : List Ms) (w1 : World) (o i : Value) (W : World) : Prop :=
  ∃ (k : Nat) (F : List Ms) (A : Option Addr) (c : Nat), i = .int .i64 k ∧ k ≤ s.length ∧ o = .slice A F.length c ∧ Hid (F.length ≤ k) ∧ Hid (FInv p s k F) ∧ Hid (W.ownsRow w1.heap.size 118 2 (.slice A F.length c) F.length (mc F)) ∧ Hid (Below w1.heap.size w1 W)
theorem fd_post {l : List Ms} {e : Int} {w w1 W : World} (hb : Below w.heap.size w w1) {A : Option Addr} {c : Nat} (ho : W.ownsRow w1.heap.size 118 2 (.slice A l.length c) l.length (mc l)) (h1 : Below w1.heap.size w1 W) : FdPost l e w (.returned (.tuple #[.slice A l.length c, .int .i64 e])) W :=
  ⟨A, c, rfl, ho.lower hb.size, hb.trans (h1.mono hb.size)⟩
/-- What stays, whatever memory is made. -/
def Kp (w1 : World) (bx g : Nat) (n c : Nat) (l : List Ms) (W : World) : Prop := bx < W.heap.size ∧ g < W.heap.size ∧ W.ownsRow w1.heap.size 118 2 (.slice (some ⟨g, 0, none⟩) n c) n (mc l) ∧ Below w1.heap.size w1 W
theorem kpS {w1 : World} {bx g n c d : Nat} {l : List Ms} {u v : Value} {W W' : World} (h : W.cell? ⟨bx, 1, none⟩ = some u ∧ W.cell? ⟨g, d, none⟩ = some v ∧ Kp w1 bx g n c l W) (hb : Below W.heap.size W W') : W'.cell? ⟨bx, 1, none⟩ = some u ∧ W'.cell? ⟨g, d, none⟩ = some v ∧ Kp w1 bx g n c l W' := by
  obtain ⟨h1, h2, h3, h4, h5, h6⟩ := h
  exact ⟨(hb.cell (p := ⟨bx, 1, none⟩) h3).trans h1, (hb.cell (p := ⟨g, d, none⟩) h4).trans h2, Nat.lt_of_lt_of_le h3 hb.size, Nat.lt_of_lt_of_le h4 hb.size, own_next h5 hb, h6.trans (hb.mono h6.size)⟩
set_option maxRecDepth 20000 in
set_option maxHeartbeats 4000000 in
theorem fdf_any (p : Int) (A : Option Addr) (n c : Nat) (l : List Ms) (w : World) (hA : Lies w w.heap.size 2 A n (mc l)) (hn : n ≤ 1000000) (hb : ∀ e ∈ l, bd e.2) :
    Calls Tryz.prog 45 #[.int .i64 p, .slice A n c] w (FdPost (fdR p l) (fdC p l) w) := by
  have mixed : Tryz.prog.follows .mixedOrders = true := by kernel_rfl
  obtain rfl := hA.ms_len
  by_cases hp : 1 ≤ p ∧ p ≤ 5
  · obtain ⟨i0, hi0, hz0, hzs, hzb⟩ := info_parts (show (Tryz.prog.info? 118).map (fun i => (i.zero, i.size, i.bytes)) = some (some (.agg #[.int .i64 0, .int .i64 0]), 2, 16) by kernel_rfl)
    have HI0 := Lib.hid hi0
    have HZ0 := Lib.hid hz0
    have HZS := Lib.hid hzs
    have HZB := Lib.hid hzb
    have HA := Lib.hid hA
    have HP := Lib.hid hp
    have HZ := Lib.hid (show fdE p 0 0 = 0 by
      apply Classical.byContradiction
      intro h
      obtain ⟨h5, hf, _⟩ := fdE_bad hp h
      exact hf (by decide))
    obtain ⟨s, hs⟩ : ∃ s, s = msort l := ⟨_, rfl⟩
    have HS := Lib.hid hs
    have HBD := Lib.hid (show ∀ e ∈ s, bd e.2 from fun e he => hb e ((msort_perm l).mem_iff.1 (by rw [← hs]; exact he)))
    have hsl : s.length = l.length := by rw [hs]; exact msort_len l
    clear hi0 hz0 hzs hzb hA hp hs hb
    go_enter Tryz.func45, Tryz.ntmps45
    go_wp2_with fail
    refine (fold_any p 0 0 _ ⟨by decide, by decide⟩ ⟨by decide, by decide⟩).mono ?_
    rintro e w0 ⟨rfl, hb0⟩
    rw [HZ.out]
    have HB0 := Lib.hid hb0
    clear hb0
    go_wp2_with fail
    refine (sort_any A l.length c l _ (HA.out.next HB0.out) hn).mono ?_
    rw [← HS.out]
    rintro e w1 ⟨A1, c1, rfl, ho1, hb1⟩
    have HL1 := Lib.hid (Lies.of_own ho1)
    have HB1 := Lib.hid (HB0.out.trans (hb1.mono HB0.out.size))
    rw [← hsl] at hn
    clear ho1 hb1 HB0 HA hsl HZ
    go_wp2_with fail
    go_loopw [8, 25] (fun o i W => FdRel p s w1 o i W) (fun o i W => s.length - (intOf i).toNat)
    case atStart => exact ⟨0, [], none, 0, rfl, Nat.zero_le _, rfl, Nat.le_refl _, .inl ⟨rfl, rfl⟩, World.ownsRow_nil _ _ _ _, Below.refl _ _⟩
    case round =>
      obtain ⟨k, F, A2, c2, rfl, hk, rfl, HK, HF, HO, HB⟩ := hrel
      by_cases hlt : k < s.length
      · obtain ⟨ad, rfl, hadb, e0, e1⟩ := (HL1.out.below HB.out).ms k hlt
        have hkl : (k : Int) < (s.length : Int) := by omega
        have hz := HB.out.size
        obtain ⟨x, hx⟩ : ∃ x, x = mAt s k := ⟨_, rfl⟩
        rw [← hx] at e0 e1
        have HX := Lib.hid hx
        have HO1 := Lib.hid (own_next HO.out (below_alloc wr (.cells #[.int .i64 x.1, .int .i64 x.2] 118)))
        have HB2 := Lib.hid (HB.out.alloc hz (.cells #[.int .i64 x.1, .int .i64 x.2] 118))
        have hbx0 : (wr.alloc (.cells #[.int .i64 x.1, .int .i64 x.2] 118)).cell? ⟨wr.heap.size, 0, none⟩ = some (.int .i64 x.1) := by simp [go_sem]
        have hbx1 : (wr.alloc (.cells #[.int .i64 x.1, .int .i64 x.2] 118)).cell? ⟨wr.heap.size, 1, none⟩ = some (.int .i64 x.2) := by simp [go_sem]
        have hws : wr.heap.size < (wr.alloc (.cells #[.int .i64 x.1, .int .i64 x.2] 118)).heap.size := by simp
        clear hx HO
        rcases HF.out with ⟨rfl, h0⟩ | ⟨D, m, rfl, hfl, hm⟩
        · have HN := Lib.hid (show FInv p s (k + 1) [x] by rw [HX.out, h0]; exact FInv.first (by omega) HBD.out)
          clear HF h0
          go_wp2_with fail
          go_quiet (fail)
          have HO3 := Lib.hid (show (((wr.alloc (.cells #[.int .i64 x.1, .int .i64 x.2] 118)).drewN nq)).ownsRow w1.heap.size 118 2 (.slice A2 0 c2) 0 (mc []) from HO1.out)
          have HB3 := Lib.hid (below_to_drewN HB2.out nq)
          have hb3 : ((wr.alloc (.cells #[.int .i64 x.1, .int .i64 x.2] 118)).drewN nq).cell? ⟨wr.heap.size, 0, none⟩ = some (.int .i64 x.1) := hbx0
          have hb4 : ((wr.alloc (.cells #[.int .i64 x.1, .int .i64 x.2] 118)).drewN nq).cell? ⟨wr.heap.size, 1, none⟩ = some (.int .i64 x.2) := hbx1
          clear HO1 HB2 hbx0 hbx1 hws
          generalize (wr.alloc (.cells #[.int .i64 x.1, .int .i64 x.2] 118)).drewN nq = W2 at HO3 HB3 hb3 hb4 ⊢
          have hz3 := HB3.out.size
          have HO4 := Lib.hid (own_next HO3.out (below_alloc W2 (.cells #[.int .i64 x.1, .int .i64 x.2] 118)))
          have HL4 := Lib.hid (show Lies (W2.alloc (.cells #[.int .i64 x.1, .int .i64 x.2] 118)) (W2.heap.size + 1) 2 (some ⟨W2.heap.size, 0, none⟩) 1 (mc [x]) from lies_cells W2 (mc [x]) 118 1 2 rfl)
          have HB4 := Lib.hid (HB3.out.alloc hz3 (.cells #[.int .i64 x.1, .int .i64 x.2] 118))
          go_wp2_with (at_builtin; go_must (refine wpList_app _ rfl (.tmp 44) (.tmp 46) 37 rfl w1.heap.size 118 i0 _ 2 16 Tryz.underlying37 HI0.out HZ0.out HZS.out HZB.out rfl (by decide) A2 0 c2 (mc []) rfl HO4.out (W2.heap.size + 1) (some ⟨W2.heap.size, 0, none⟩) 1 1 (mc [x]) rfl HL4.out (mc_one _) (0 + 1) (mc [x]) rfl (by rw [← mc_append] <;> rfl) (by have := HK.out; unfold maxLen; omega) (by have := HK.out; omega) (by simp; omega) ?_))
          intro A4 c4 w4 ho4 hb4'
          have HO5 := Lib.hid ho4
          have HB5 := Lib.hid (HB4.out.trans hb4')
          clear ho4 hb4'
          go_wp2_with fail
          go_roundw
          case rel => exact ⟨k + 1, [x], A4, c4, by go_num, by omega, rfl, by simp [Hid], HN, HO5, HB5⟩
          case measure => simp [intOf]; omega
        · have hlen : (D ++ [m]).length = D.length + 1 := by simp
          rw [hlen] at HO1 HK ⊢
          obtain ⟨g, rfl, hg1, hg2⟩ := own_some HO1.out (by omega)
          have hDn : D.length ≤ 1000000 := by have := HK.out; omega
          have hzD : decide ((D.length : Int) < 0) = false := decide_eq_false (by omega)
          have hzE : (D.length : Int) < (D.length : Int) + 1 := by omega
          obtain ⟨m0, m1⟩ := own_cell HO1.out D.length (by omega)
          rw [last_at] at m0 m1
          have HFL := Lib.hid hfl
          have HM := Lib.hid hm
          clear hfl hm HF
          by_cases hd : x.1 = m.1
          · have hq : (m.1 == x.1) = true := by simpa using hd.symm
            have HE := Lib.hid (show (mAt s k).1 = m.1 by rw [← HX.out]; exact hd)
            have HBX := Lib.hid (show bd x.2 from HBD.out x (by rw [HX.out, mAt_get s k hlt]; exact List.getElem_mem hlt))
            clear hd
            go_wp2_with fail
            go_quiet (fail)
            have HO3 := Lib.hid (show (((wr.alloc (.cells #[.int .i64 x.1, .int .i64 x.2] 118)).drewN nq)).ownsRow w1.heap.size 118 2 (.slice (some ⟨g, 0, none⟩) (D.length + 1) c2) (D.length + 1) (mc (D ++ [m])) from HO1.out)
            have HB3 := Lib.hid (below_to_drewN HB2.out nq)
            have q0 : ((wr.alloc (.cells #[.int .i64 x.1, .int .i64 x.2] 118)).drewN nq).drew.cell? ⟨wr.heap.size, 1, none⟩ = some (.int .i64 x.2) ∧ ((wr.alloc (.cells #[.int .i64 x.1, .int .i64 x.2] 118)).drewN nq).drew.cell? ⟨g, D.length * 2 + 1, none⟩ = some (.int .i64 m.2) ∧ Kp w1 wr.heap.size g (D.length + 1) c2 (D ++ [m]) ((wr.alloc (.cells #[.int .i64 x.1, .int .i64 x.2] 118)).drewN nq).drew := ⟨hbx1, m1, hws, hg2, HO3.out, HB3.out.drew⟩
            clear HO1 HB2 hbx0 hbx1 hws hg2 m0 m1 e0 e1 HO3 HB3
            generalize (wr.alloc (.cells #[.int .i64 x.1, .int .i64 x.2] 118)).drewN nq = W2 at q0 ⊢
            go_wp2_with fail
            go_region_held3 (fun w' => w'.cell? ⟨wr.heap.size, 1, none⟩ = some (.int .i64 x.2) ∧ w'.cell? ⟨g, D.length * 2 + 1, none⟩ = some (.int .i64 m.2) ∧ Kp w1 wr.heap.size g (D.length + 1) c2 (D ++ [m]) w')
              (first | exact q1 | exact q0)
              (first | ((go_at_call 88); (with_reducible refine (fold_any p m.2 x.2 _ HM.out HBX.out).mono ?_); rintro e w5 ⟨rfl, hb5⟩; have q1 := kpS q0 hb5))
            have HO5 := Lib.hid q1.2.2.2.2.1
            have HB5 := Lib.hid q1.2.2.2.2.2
            clear q0 q1 hb5
            by_cases hf : fdE p m.2 x.2 = 0
            · rw [hf]
              have HN := Lib.hid (show FInv p s (k + 1) (D ++ [(m.1, fdX p m.2 x.2)]) by rw [HX.out] at hf ⊢; exact FInv.same HFL.out hlt HBD.out HM.out HE.out hf)
              obtain ⟨n0, n1⟩ := own_cell HO5.out D.length (by omega)
              have n2 := HO5.out.frozenAt (D.length * 2 + 1)
              have HO6 := Lib.hid (own_store2 HO5.out D.length (by omega) (fdX p m.2 x.2))
              rw [last_at, last_set] at HO6
              have HB6 := Lib.hid (HB5.out.setCell (p := ⟨g, D.length * 2 + 1, none⟩) hg1 (.int .i64 (fdX p m.2 x.2)))
              clear hf
              generalize fdX p m.2 x.2 = y at *
              go_wp2_with fail
              go_roundw
              case rel => exact ⟨k + 1, D ++ [(m.1, y)], some ⟨g, 0, none⟩, c2, by go_num, by omega, by simp, by have := HK.out; unfold Hid; simp; omega, HN, by have := HO6; simpa [Hid] using this, HB6⟩
              case measure => simp [intOf]; omega
            · have HF2 := Lib.hid (show fdL p (msort l) = none by rw [← HS.out]; rw [HX.out] at hf; exact FInv.bad HFL.out hlt HE.out hf)
              have HE8 := Lib.hid (fdE_bad HP.out hf).2.2
              rw [HE8.out]
              have HR := Lib.hid (fd_none HP.out HF2.out)
              clear hf
              go_wp2_with fail
              go_ret2
              rw [HR.out.1, HR.out.2]
              exact ⟨none, 0, rfl, World.ownsRow_nil _ _ _ _, HB1.out.trans (HB5.out.mono HB1.out.size)⟩
          · have hq : (m.1 == x.1) = false := by simpa using fun e => hd e.symm
            have HN := Lib.hid (show FInv p s (k + 1) ((D ++ [m]) ++ [x]) by rw [HX.out] at hd ⊢; exact FInv.diff HFL.out hlt HBD.out hd)
            clear hd
            go_wp2_with fail
            go_quiet (fail)
            have HO3 := Lib.hid (show (((wr.alloc (.cells #[.int .i64 x.1, .int .i64 x.2] 118)).drewN nq)).ownsRow w1.heap.size 118 2 (.slice (some ⟨g, 0, none⟩) (D.length + 1) c2) (D.length + 1) (mc (D ++ [m])) from HO1.out)
            have HB3 := Lib.hid (below_to_drewN HB2.out nq)
            have hb3 : ((wr.alloc (.cells #[.int .i64 x.1, .int .i64 x.2] 118)).drewN nq).cell? ⟨wr.heap.size, 0, none⟩ = some (.int .i64 x.1) := hbx0
            have hb4 : ((wr.alloc (.cells #[.int .i64 x.1, .int .i64 x.2] 118)).drewN nq).cell? ⟨wr.heap.size, 1, none⟩ = some (.int .i64 x.2) := hbx1
            clear HO1 HB2 hbx0 hbx1 hws
            generalize (wr.alloc (.cells #[.int .i64 x.1, .int .i64 x.2] 118)).drewN nq = W2 at HO3 HB3 hb3 hb4 ⊢
            have hz3 := HB3.out.size
            have HO4 := Lib.hid (own_next HO3.out (below_alloc W2 (.cells #[.int .i64 x.1, .int .i64 x.2] 118)))
            have HL4 := Lib.hid (show Lies (W2.alloc (.cells #[.int .i64 x.1, .int .i64 x.2] 118)) (W2.heap.size + 1) 2 (some ⟨W2.heap.size, 0, none⟩) 1 (mc [x]) from lies_cells W2 (mc [x]) 118 1 2 rfl)
            have HB4 := Lib.hid (HB3.out.alloc hz3 (.cells #[.int .i64 x.1, .int .i64 x.2] 118))
            go_wp2_with (at_builtin; go_must (refine wpList_app _ rfl (.tmp 44) (.tmp 46) 37 rfl w1.heap.size 118 i0 _ 2 16 Tryz.underlying37 HI0.out HZ0.out HZS.out HZB.out rfl (by decide) (some ⟨g, 0, none⟩) (D.length + 1) c2 (mc (D ++ [m])) rfl HO4.out (W2.heap.size + 1) (some ⟨W2.heap.size, 0, none⟩) 1 1 (mc [x]) rfl HL4.out (mc_one _) ((D.length + 1) + 1) (mc ((D ++ [m]) ++ [x])) rfl (by rw [← mc_append] <;> rfl) (by have := HK.out; unfold maxLen; omega) (by have := HK.out; omega) (by simp; omega) ?_))
            intro A4 c4 w4 ho4 hb4'
            have HO5 := Lib.hid ho4
            have HB5 := Lib.hid (HB4.out.trans hb4')
            clear ho4 hb4'
            go_wp2_with fail
            go_roundw
            case rel => exact ⟨k + 1, (D ++ [m]) ++ [x], A4, c4, by go_num, by omega, by simp, by have := HK.out; unfold Hid; simp; omega, HN, by have := HO5; simpa [Hid] using this, HB5⟩
            case measure => simp [intOf]; omega
      · have hk' : k = s.length := by omega
        subst hk'
        have HD := Lib.hid (fd_some HP.out (show fdL p (msort l) = some F by rw [← HS.out]; exact HF.out.done))
        go_wp2_with fail
        go_ret2
        rw [HD.out.1, HD.out.2]
        exact fd_post HB1.out HO.out HB.out
  · have HR := Lib.hid (fd_not (l := l) hp)
    have HE := Lib.hid (show fdE p 0 0 = 1 by unfold fdE; rw [if_neg hp])
    rw [HR.out.1, HR.out.2]
    clear hp
    go_enter Tryz.func45, Tryz.ntmps45
    go_wp2_with fail
    refine (fold_any p 0 0 _ ⟨by decide, by decide⟩ ⟨by decide, by decide⟩).mono ?_
    rintro e w0 ⟨rfl, hb0⟩
    rw [HE.out]
    have HB0 := Lib.hid hb0
    clear hb0
    go_wp2_with fail
    go_ret2
    exact ⟨none, 0, rfl, World.ownsRow_nil _ _ _ _, HB0.out⟩
end Go.Proofs.YtpgdddjjjfkneaaGreatDoor


