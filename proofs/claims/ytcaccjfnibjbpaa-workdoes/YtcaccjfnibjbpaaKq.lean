import Derived.Test.YtcaccjfnibjbpaaKp
import Derived.OneCell
/-
  The contract of the document's own Fold of messages. No condition but that the messages are not too many and their numbers of 64 bits.
-/
namespace Go.Proofs.Ytcaccjfnibjbpaa
open Go.RowKit Go.Sort
set_option linter.unusedVariables false

def RoRel5 (p : Int) (s : List Ms) (w1 : World) (o i : Value) (W : World) : Prop :=
  ∃ (k : Nat) (D : List Ms) (A : Option Addr) (c : Nat), i = .int .i64 k ∧ k ≤ s.length ∧ o = .slice A D.length c ∧ Hid (D.length ≤ k) ∧ Hid (fdL p s = (fdL p (s.drop k)).map (D ++ ·)) ∧ Hid (W.ownsRow w1.heap.size 59 2 (.slice A D.length c) D.length (mc D)) ∧ Hid (Below w1.heap.size w1 W)
/-- The inner loop: m lies in its box. -/
def RiRel (p : Int) (s D : List Ms) (A : Option Addr) (c bm k0 : Nat) (w1 : World) (i : Value) (W : World) : Prop :=
  ∃ (k : Nat) (m : Ms), i = .int .i64 k ∧ k0 < k ∧ k ≤ s.length ∧ Hid (W.heap[bm]? = some (.cells #[.int .i64 m.1, .int .i64 m.2] 59 (0, 0))) ∧ Hid (fdL p s = (fl p m (s.drop k)).map (D ++ ·)) ∧ Hid (bd m.2) ∧ Hid (W.ownsRow w1.heap.size 59 2 (.slice A D.length c) D.length (mc D)) ∧ Hid (Below w1.heap.size w1 W)
theorem box_set {W : World} {bm : Nat} {a b v : Value} (h : W.heap[bm]? = some (.cells #[a, b] 59 (0, 0))) : (W.setCell ⟨bm, 1, none⟩ v).heap[bm]? = some (.cells #[a, v] 59 (0, 0)) := by
  have := heap_setCell_same W bm 1 #[a, b] 59 v h
  simpa using this
theorem box_cell {W : World} {bm : Nat} {a b : Value} (h : W.heap[bm]? = some (.cells #[a, b] 59 (0, 0))) : W.cell? ⟨bm, 0, none⟩ = some a ∧ W.cell? ⟨bm, 1, none⟩ = some b ∧ W.frozen? ⟨bm, 1, none⟩ = false := by
  refine ⟨?_, ?_, ?_⟩
  · rw [cell_of_row W bm 0 _ 59 (0, 0) h]; rfl
  · rw [cell_of_row W bm 1 _ 59 (0, 0) h]; rfl
  · exact frozen_of_row W bm 1 _ 59 h
theorem ro_next {p : Int} {s D : List Ms} {m : Ms} {k : Nat} (h : fdL p s = (fl p m (s.drop k)).map (D ++ ·)) (hk : k = s.length ∨ (k < s.length ∧ ¬ (mAt s k).1 = m.1)) : fdL p s = (fdL p (s.drop k)).map ((D ++ [m]) ++ ·) := by
  rw [h]
  rcases hk with rfl | ⟨hk, hn⟩
  · rw [List.drop_length]; simp [fl, fdL]
  · rw [drop_at s k hk, fl_next hn]
    show Option.map _ (Option.map _ (fl p _ _)) = Option.map _ (fl p _ _)
    rw [Option.map_map]
    congr 1
    funext z
    simp
theorem ro_first {p : Int} {s D : List Ms} {k : Nat} (h : fdL p s = (fdL p (s.drop k)).map (D ++ ·)) (hk : k < s.length) : fdL p s = (fl p (mAt s k) (s.drop (k + 1))).map (D ++ ·) := by
  rw [h, drop_at s k hk]; rfl
set_option maxRecDepth 20000 in
set_option maxHeartbeats 4000000 in
theorem rfdf_any (p : Int) (A : Option Addr) (n c : Nat) (l : List Ms) (w : World) (hA : Lies w w.heap.size 2 A n (mc l)) (hn : n ≤ 1000000) (hb : ∀ e ∈ l, bd e.2) :
    Calls Try.prog 33 #[.int .i64 p, .slice A n c] w (FdPost (fdR p l) (fdC p l) w) := by
  have mixed : Try.prog.follows .mixedOrders = true := by kernel_rfl
  obtain rfl := hA.ms_len
  by_cases hp : 1 ≤ p ∧ p ≤ 5
  · obtain ⟨i0, hi0, hz0, hzs, hzb⟩ := info_parts (show (Try.prog.info? 59).map (fun i => (i.zero, i.size, i.bytes)) = some (some (.agg #[.int .i64 0, .int .i64 0]), 2, 16) by kernel_rfl)
    have HI0 := Lib.hid hi0
    have HZ0 := Lib.hid hz0
    have HZS := Lib.hid hzs
    have HZB := Lib.hid hzb
    have HP := Lib.hid hp
    obtain ⟨hp1, hp2⟩ : ¬ p < 1 ∧ ¬ p > 5 := by omega
    obtain ⟨s, hs⟩ : ∃ s, s = msort l := ⟨_, rfl⟩
    have HS := Lib.hid hs
    have HBD := Lib.hid (show ∀ e ∈ s, bd e.2 from fun e he => hb e ((msort_perm l).mem_iff.1 (by rw [← hs]; exact he)))
    have hsl : s.length = l.length := by rw [hs]; exact msort_len l
    have HC := Lib.hid (rsort_any A l.length c l w hA hn)
    clear hi0 hz0 hzs hzb hA hp hs hb
    go_enter Try.func33, Try.ntmps33
    go_wp2_with fail
    refine HC.out.mono ?_
    rw [← HS.out]
    rintro e w1 ⟨A1, c1, rfl, ho1, hb1⟩
    have HL1 := Lib.hid (Lies.of_own ho1)
    have HB1 := Lib.hid hb1
    rw [← hsl] at hn
    clear ho1 hb1 HC hsl
    go_wp2_with fail
    go_loopw [7, 8] (fun o i W => RoRel5 p s w1 o i W) (fun o i W => s.length - (intOf i).toNat)
    case atStart => exact ⟨0, [], none, 0, rfl, Nat.zero_le _, rfl, Nat.le_refl _, by simp [Hid], World.ownsRow_nil _ _ _ _, Below.refl _ _⟩
    case round =>
      obtain ⟨k, D, A2, c2, rfl, hk, rfl, HK, HF, HO, HB⟩ := hrel
      by_cases hlt : k < s.length
      · obtain ⟨ad, rfl, hadb, e0, e1⟩ := (HL1.out.below HB.out).ms k hlt
        have hkl : (k : Int) < (s.length : Int) := by omega
        have hz := HB.out.size
        obtain ⟨x, hx⟩ : ∃ x, x = mAt s k := ⟨_, rfl⟩
        rw [← hx] at e0 e1
        have HI := Lib.hid (show fdL p s = (fl p x (s.drop (k + 1))).map (D ++ ·) by rw [hx]; exact ro_first HF.out hlt)
        have HX := Lib.hid (show bd x.2 from HBD.out x (by rw [hx, mAt_get s k hlt]; exact List.getElem_mem hlt))
        have HO1 := Lib.hid (own_next HO.out (below_alloc wr (.cells #[.int .i64 x.1, .int .i64 x.2] 59)))
        have HB2 := Lib.hid (HB.out.alloc hz (.cells #[.int .i64 x.1, .int .i64 x.2] 59))
        have HH := Lib.hid (heap_alloc_new wr (.cells #[.int .i64 x.1, .int .i64 x.2] 59 (0, 0)))
        have HNE := Lib.hid (show (Value.slice A2 D.length c2).ownBlock ≠ some wr.heap.size from fun e => by have := (HO.out.lt _ e).2; omega)
        clear hx HO HF
        go_wp2_with fail
        generalize hbm : wr.heap.size = bm at HH HNE hz ⊢
        clear hbm
        go_loopw [8] (fun i W => RiRel p s D A2 c2 bm k w1 i W) (fun i W => s.length - (intOf i).toNat)
        case atStart => exact ⟨k + 1, x, by go_num, by omega, by omega, HH, HI, HX, HO1, HB2⟩
        case round =>
          clear HH HI HX HO1 HB2 e0 e1
          obtain ⟨j, m, rfl, hkj, hj, HH, HI, HM, HO, HB2⟩ := hrel
          obtain ⟨b0, b1, b2⟩ := box_cell HH.out
          by_cases hlt2 : j < s.length
          · obtain ⟨ad2, e2, hadb2, f0, f1⟩ := (HL1.out.below HB2.out).ms j hlt2
            injection e2 with e2
            subst e2
            have hdt : decide ((j : Int) < (s.length : Int)) = true := decide_eq_true (by omega)
            have hjl : (j : Int) < (s.length : Int) := by omega
            by_cases hd : (mAt s j).1 = m.1
            · have HY := Lib.hid (show bd (mAt s j).2 from HBD.out _ (by rw [mAt_get s j hlt2]; exact List.getElem_mem hlt2))
              have HD := Lib.hid hd
              rw [hd] at f0
              clear hd
              generalize hy : (mAt s j).2 = y at HY f1
              have HYY := Lib.hid hy
              clear hy
              go_wp2_with fail
              go_quiet (fail)
              have HO3 := Lib.hid (show (wr.drewN nq).ownsRow w1.heap.size 59 2 (.slice A2 D.length c2) D.length (mc D) from HO.out)
              have HB3 := Lib.hid (below_to_drewN HB2.out nq)
              have HH3 := Lib.hid (show (wr.drewN nq).heap[bm]? = some (.cells #[.int .i64 m.1, .int .i64 m.2] 59 (0, 0)) from HH.out)
              have c1' : (wr.drewN nq).cell? ⟨bm, 1, none⟩ = some (.int .i64 m.2) := b1
              have c2' : (wr.drewN nq).cell? ⟨(ad.add (j * 2)).block, (ad.add (j * 2)).off + 1, none⟩ = some (.int .i64 y) := f1
              clear HO HB2 b0 b1 b2 HH f0 f1
              generalize wr.drewN nq = W2 at HO3 HB3 HH3 c1' c2' ⊢
              go_wp2_with fail
              go_quiet (first | ((go_at_call 58); (refine quiet_left (rfold_any p m.2 y _ HM.out HY.out))))
              have HO4 := Lib.hid (show (W2.drewN nq).ownsRow w1.heap.size 59 2 (.slice A2 D.length c2) D.length (mc D) from HO3.out)
              have HB4 := Lib.hid (below_to_drewN HB3.out nq)
              have HH4 := Lib.hid (show (W2.drewN nq).heap[bm]? = some (.cells #[.int .i64 m.1, .int .i64 m.2] 59 (0, 0)) from HH3.out)
              clear HO3 HB3 HH3 c1' c2'
              generalize W2.drewN nq = W3 at HO4 HB4 HH4 ⊢
              obtain ⟨b0, b1, b2⟩ := box_cell HH4.out
              by_cases hf : fdE p m.2 y = 0
              · rw [hf]
                have HN := Lib.hid (show fdL p s = (fl p (m.1, fdX p m.2 y) (s.drop (j + 1))).map (D ++ ·) by
                  rw [HI.out, drop_at s j hlt2, fl_same HD.out (by rw [HYY.out]; exact hf), HYY.out])
                have HM2 := Lib.hid (fdX_bd (p := p) HM.out HY.out)
                have HH5 := Lib.hid (box_set (v := .int .i64 (fdX p m.2 y)) HH4.out)
                have HO5 := Lib.hid (ownsRow_setCell_other HO4.out (a := ⟨bm, 1, none⟩) HNE.out (.int .i64 (fdX p m.2 y)))
                have HB5 := Lib.hid (HB4.out.setCell (p := ⟨bm, 1, none⟩) hz (.int .i64 (fdX p m.2 y)))
                clear hf
                generalize fdX p m.2 y = z at *
                go_wp2_with fail
                go_roundw
                case rel => exact ⟨j + 1, (m.1, z), by go_num, by omega, by omega, HH5, HN, HM2, HO5, HB5⟩
                case measure => simp [intOf]; omega
              · have HF2 := Lib.hid (show fdL p (msort l) = none by rw [← HS.out, HI.out, drop_at s j hlt2, fl_none HD.out (by rw [HYY.out]; exact hf)]; rfl)
                have HE8 := Lib.hid (fdE_bad HP.out hf).2.2
                rw [HE8.out]
                have HR := Lib.hid (fd_none HP.out HF2.out)
                clear hf
                go_wp2_with fail
                go_ret2
                rw [HR.out.1, HR.out.2]
                exact ⟨none, 0, rfl, World.ownsRow_nil _ _ _ _, HB1.out.trans (HB4.out.mono HB1.out.size)⟩
            · have hq : ((mAt s j).1 == m.1) = false := by simpa using hd
              have HN := Lib.hid (show fdL p s = (fdL p (s.drop j)).map ((D ++ [m]) ++ ·) from ro_next HI.out (.inr ⟨hlt2, hd⟩))
              go_wp2_with fail
              go_quiet (fail)
              have HO3 := Lib.hid (show (wr.drewN nq).ownsRow w1.heap.size 59 2 (.slice A2 D.length c2) D.length (mc D) from HO.out)
              have HB3 := Lib.hid (below_to_drewN HB2.out nq)
              have c0 : (wr.drewN nq).cell? ⟨bm, 0, none⟩ = some (.int .i64 m.1) := b0
              have c1' : (wr.drewN nq).cell? ⟨bm, 1, none⟩ = some (.int .i64 m.2) := b1
              clear HO HB2 b0 b1 b2 HH
              generalize wr.drewN nq = W2 at HO3 HB3 c0 c1' ⊢
              have hz3 := HB3.out.size
              have HO4 := Lib.hid (own_next HO3.out (below_alloc W2 (.cells #[.int .i64 m.1, .int .i64 m.2] 59)))
              have HL4 := Lib.hid (show Lies (W2.alloc (.cells #[.int .i64 m.1, .int .i64 m.2] 59)) (W2.heap.size + 1) 2 (some ⟨W2.heap.size, 0, none⟩) 1 (mc [m]) from lies_cells W2 (mc [m]) 59 1 2 rfl)
              have HB4 := Lib.hid (HB3.out.alloc hz3 (.cells #[.int .i64 m.1, .int .i64 m.2] 59))
              go_wp2_with (at_builtin; go_must (refine wpList_app _ rfl (.tmp 63) (.tmp 65) 29 rfl w1.heap.size 59 i0 _ 2 16 Try.underlying29 HI0.out HZ0.out HZS.out HZB.out rfl (by decide) A2 D.length c2 (mc D) rfl HO4.out (W2.heap.size + 1) (some ⟨W2.heap.size, 0, none⟩) 1 1 (mc [m]) rfl HL4.out (mc_one _) (D.length + 1) (mc (D ++ [m])) rfl (by rw [← mc_append] <;> rfl) (by have := HK.out; unfold maxLen; omega) (by have := HK.out; omega) (by simp; omega) ?_))
              intro A4 c4 w4 ho4 hb4'
              have HO5 := Lib.hid ho4
              have HB5 := Lib.hid (HB4.out.trans hb4')
              clear ho4 hb4'
              go_wp2_with fail
              go_roundw
              case rel => exact ⟨j, D ++ [m], A4, c4, by first | rfl | (rw [hj']), by omega, by simp, by have := HK.out; unfold Hid; simp; omega, HN, by have := HO5; simpa [Hid] using this, HB5⟩
              case measure => simp [intOf]; omega
          · have hj' : j = s.length := by omega
            have hdt : decide ((j : Int) < (s.length : Int)) = false := decide_eq_false (by omega)
            have HN := Lib.hid (show fdL p s = (fdL p (s.drop j)).map ((D ++ [m]) ++ ·) from ro_next HI.out (.inl hj'))
            go_wp2_with fail
            go_quiet (fail)
            have HO3 := Lib.hid (show (wr.drewN nq).ownsRow w1.heap.size 59 2 (.slice A2 D.length c2) D.length (mc D) from HO.out)
            have HB3 := Lib.hid (below_to_drewN HB2.out nq)
            have c0 : (wr.drewN nq).cell? ⟨bm, 0, none⟩ = some (.int .i64 m.1) := b0
            have c1' : (wr.drewN nq).cell? ⟨bm, 1, none⟩ = some (.int .i64 m.2) := b1
            clear HO HB2 b0 b1 b2 HH
            generalize wr.drewN nq = W2 at HO3 HB3 c0 c1' ⊢
            have hz3 := HB3.out.size
            have HO4 := Lib.hid (own_next HO3.out (below_alloc W2 (.cells #[.int .i64 m.1, .int .i64 m.2] 59)))
            have HL4 := Lib.hid (show Lies (W2.alloc (.cells #[.int .i64 m.1, .int .i64 m.2] 59)) (W2.heap.size + 1) 2 (some ⟨W2.heap.size, 0, none⟩) 1 (mc [m]) from lies_cells W2 (mc [m]) 59 1 2 rfl)
            have HB4 := Lib.hid (HB3.out.alloc hz3 (.cells #[.int .i64 m.1, .int .i64 m.2] 59))
            go_wp2_with (at_builtin; go_must (refine wpList_app _ rfl (.tmp 63) (.tmp 65) 29 rfl w1.heap.size 59 i0 _ 2 16 Try.underlying29 HI0.out HZ0.out HZS.out HZB.out rfl (by decide) A2 D.length c2 (mc D) rfl HO4.out (W2.heap.size + 1) (some ⟨W2.heap.size, 0, none⟩) 1 1 (mc [m]) rfl HL4.out (mc_one _) (D.length + 1) (mc (D ++ [m])) rfl (by rw [← mc_append] <;> rfl) (by have := HK.out; unfold maxLen; omega) (by have := HK.out; omega) (by simp; omega) ?_))
            intro A4 c4 w4 ho4 hb4'
            have HO5 := Lib.hid ho4
            have HB5 := Lib.hid (HB4.out.trans hb4')
            clear ho4 hb4'
            go_wp2_with fail
            go_roundw
            case rel => exact ⟨j, D ++ [m], A4, c4, by first | rfl | (rw [hj']), by omega, by simp, by have := HK.out; unfold Hid; simp; omega, HN, by have := HO5; simpa [Hid] using this, HB5⟩
            case measure => simp [intOf]; omega
      · have hk' : k = s.length := by omega
        subst hk'
        have HD := Lib.hid (fd_some HP.out (show fdL p (msort l) = some D by rw [← HS.out, HF.out, List.drop_length]; simp [fdL]))
        go_wp2_with fail
        go_ret2
        rw [HD.out.1, HD.out.2]
        exact fd_post HB1.out HO.out HB.out
  · have HR := Lib.hid (fd_not (l := l) hp)
    rw [HR.out.1, HR.out.2]
    by_cases hq : p < 1
    · clear hp
      go_enter Try.func33, Try.ntmps33
      go_wp2_with fail
      go_ret2
      exact ⟨none, 0, rfl, World.ownsRow_nil _ _ _ _, Below.refl _ _⟩
    · have hq2 : p > 5 := by omega
      clear hp
      go_enter Try.func33, Try.ntmps33
      go_wp2_with fail
      go_ret2
      exact ⟨none, 0, rfl, World.ownsRow_nil _ _ _ _, Below.refl _ _⟩
end Go.Proofs.Ytcaccjfnibjbpaa

