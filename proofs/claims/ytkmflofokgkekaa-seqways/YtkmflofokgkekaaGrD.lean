/-
  Contracts of Out, and of the document's own Out. No condition.
-/
import Derived.Test.YtkmflofokgkekaaGrB
import Derived.Test.YtkmflofokgkekaaGrC
import Derived.Deep.DeepMust
import Derived.BigQuiet
namespace Go.Proofs.Ytkmflofokgkekaa
open Go.RowKit
set_option linter.unusedVariables false

def okEd (N : Int) (e : Ed) : Prop := edge1 N e.1 e.2.1 e.2.2 = 0
theorem firstErr_zero (N : Int) (es : List Ed) : ∀ (n k : Nat), firstErr N es k n = 0 → ∀ j, k ≤ j → j < k + n → errAt N es j = 0
  | 0, k, _, j, h1, h2 => by omega
  | n + 1, k, h, j, h1, h2 => by
    unfold firstErr at h
    by_cases he : errAt N es k = 0
    · rw [if_pos he] at h
      by_cases hj : j = k
      · subst hj; exact he
      · exact firstErr_zero N es n (k + 1) h j (by omega) (by omega)
    · rw [if_neg he] at h
      exact absurd h he

theorem chk_zero {N : Int} {es : List Ed} (h : chk N es = 0) : 1 ≤ N ∧ N ≤ 24 ∧ es.length ≤ 80 ∧ ∀ k, k < es.length → errAt N es k = 0 := by
  unfold chk at h
  by_cases h1 : N < 1 ∨ 24 < N
  · rw [if_pos h1] at h; cases h
  · rw [if_neg h1] at h
    by_cases h2 : 80 < es.length
    · rw [if_pos h2] at h; cases h
    · rw [if_neg h2] at h
      exact ⟨by omega, by omega, by omega, fun k hk => firstErr_zero N es _ 0 h k (Nat.zero_le _) (by omega)⟩

theorem errAt_ok {N : Int} {es : List Ed} {k : Nat} (h : errAt N es k = 0) : okEd N (eAt es k) := by
  unfold errAt at h
  by_cases he : edge1 N (eAt es k).1 (eAt es k).2.1 (eAt es k).2.2 = 0
  · exact he
  · rw [if_neg he] at h; exact absurd h he

theorem eAt_get (es : List Ed) (k : Nat) (h : k < es.length) : eAt es k = es[k] := by simp [eAt, h]

theorem chk_ok {N : Int} {es : List Ed} (h : chk N es = 0) : ∀ e ∈ es, okEd N e := by
  intro e he
  obtain ⟨k, hk, rfl⟩ := List.mem_iff_getElem.1 he
  have := errAt_ok ((chk_zero h).2.2.2 k hk)
  rwa [eAt_get es k hk] at this

/-- The edges from a vertex. -/
def fromV (v : Int) (es : List Ed) : List Ed := es.filter fun e => e.1 == v
def outE (N : Int) (es : List Ed) (v : Int) : List Ed := if chk N es = 0 then fromV v es else []

theorem fromV_take (v : Int) (es : List Ed) (k : Nat) (h : k < es.length) : fromV v (es.take (k + 1)) = if (eAt es k).1 = v then fromV v (es.take k) ++ [eAt es k] else fromV v (es.take k) := by
  unfold fromV
  rw [List.take_succ_eq_append_getElem h, List.filter_append, eAt_get es k h]
  by_cases hv : es[k].1 = v
  · rw [if_pos hv, List.filter_cons, if_pos (by simpa using hv)]; rfl
  · rw [if_neg hv, List.filter_cons, if_neg (by simpa using hv)]; simp
theorem fromV_len (v : Int) (es : List Ed) : (fromV v es).length ≤ es.length := List.length_filter_le _ _

def OuRel (v : Int) (es : List Ed) (w : World) (out i : Value) (W : World) : Prop :=
  ∃ (k : Nat) (A : Option Addr) (c : Nat), i = .int .i64 k ∧ k ≤ es.length ∧ out = .slice A (fromV v (es.take k)).length c ∧ W.ownsRow w.heap.size 54 3 (.slice A (fromV v (es.take k)).length c) (fromV v (es.take k)).length (ec (fromV v (es.take k))) ∧ Below w.heap.size w W

def OuPost (l : List Ed) (w : World) (r : Ending) (w' : World) : Prop :=
  Below w.heap.size w w' ∧ ∃ A c, r = .returned (.slice A l.length c) ∧ w'.ownsRow w.heap.size 54 3 (.slice A l.length c) l.length (ec l)

set_option maxHeartbeats 1000000 in
theorem out_any (N : Int) (A : Option Addr) (n c : Nat) (es : List Ed) (v : Int) (w : World) (hA : Lies w w.heap.size 3 A n (ec es)) (hnc : n ≤ c) (hn : n ≤ maxLen) :
    Calls Try.prog 77 #[.agg #[.int .i64 N, .slice A n c], .int .i64 v] w (OuPost (outE N es v) w) := by
  obtain rfl := hA.ed_len
  have hA0 := hA.next (below_alloc w (.cells #[.int .i64 N, .slice A es.length c] 24))
  by_cases hok : chk N es = 0
  · have HO := Lib.hid (show outE N es v = fromV v es by unfold outE; rw [if_pos hok])
    obtain ⟨n1, n2, n3, _⟩ := chk_zero hok
    have HOK := Lib.hid hok
    clear hok
    obtain ⟨i0, hi0, hz0, hzs, hzb⟩ := info_parts (show (Try.prog.info? 54).map (fun i => (i.zero, i.size, i.bytes)) = some (some (.agg #[.int .i64 0, .int .i64 0, .int .i64 0]), 3, 24) by kernel_rfl)
    have HI0 := Lib.hid hi0
    have HZ0 := Lib.hid hz0
    have HZS := Lib.hid hzs
    have HZB := Lib.hid hzb
    clear hi0 hz0 hzs hzb
    go_enter Try.func77, Try.ntmps77
    go_wp2_with fail
    refine (check_any N A es.length c es _ hA0 hnc hn).mono ?_
    rintro e w1 ⟨rfl, hb1⟩
    rw [HOK.out]
    have hb01 : Below w.heap.size w w1 := (below_alloc _ _).trans (hb1.mono (by simp))
    have c1 : w1.cell? ⟨w.heap.size, 1, none⟩ = some (.slice A es.length c) := (hb1.cell (p := ⟨w.heap.size, 1, none⟩) (by simp)).trans (by simp [go_sem])
    clear hb1 hA0
    go_wp2_with fail
    go_loopw [5, 14] (fun o i W => OuRel v es w o i W) (fun o i W => es.length - (intOf i).toNat)
    case atStart => exact ⟨0, none, 0, rfl, Nat.zero_le _, rfl, World.ownsRow_nil _ _ _ _, hb01⟩
    case round =>
      obtain ⟨k, A1, c1', rfl, hk, rfl, hown, hb⟩ := hrel
      have HOWN := Lib.hid hown
      clear hown c1
      have hAr := hA.below hb
      by_cases hlt : k < es.length
      · obtain ⟨ad, rfl, hadb, e0, e1, e2⟩ := hAr.ed k hlt
        have hbn : ∀ o, Below w.heap.size w (wr.alloc o) := fun o => hb.alloc hb.size o
        by_cases hv : (eAt es k).1 = v
        · have HF := Lib.hid (show fromV v (es.take (k + 1)) = fromV v (es.take k) ++ [eAt es k] by rw [fromV_take v es k hlt, if_pos hv])
          have hlen := fromV_len v (es.take k)
          rw [List.length_take] at hlen
          have hv1 : ((eAt es k).1 == v) = true := by simpa using hv
          clear hv
          obtain ⟨m, hm⟩ : ∃ m, m = (fromV v (es.take k)).length := ⟨_, rfl⟩
          rw [← hm] at HOWN hlen ⊢
          have HM := Lib.hid hm
          have hm80 : m ≤ 80 := by omega
          clear hm hlen
          obtain ⟨o, ho⟩ : ∃ o : Obj, o = .cells #[.int .i64 (eAt es k).1, .int .i64 (eAt es k).2.1, .int .i64 (eAt es k).2.2] 54 := ⟨_, rfl⟩
          have hown2 := own_next (own_next HOWN.out (below_alloc wr o)) (below_alloc (wr.alloc o) o)
          have hl2 : Lies ((wr.alloc o).alloc o) ((wr.alloc o).heap.size + 1) 3 (some ⟨(wr.alloc o).heap.size, 0, none⟩) 1 (ec [eAt es k]) := by
            rw [ho]
            refine ⟨rfl, fun j u hj => ⟨_, rfl, Nat.lt_succ_self _, ?_⟩⟩
            have : (⟨(wr.alloc (.cells #[.int .i64 (eAt es k).1, .int .i64 (eAt es k).2.1, .int .i64 (eAt es k).2.2] 54)).heap.size, 0, none⟩ : Addr).add j = ⟨(wr.alloc (.cells #[.int .i64 (eAt es k).1, .int .i64 (eAt es k).2.1, .int .i64 (eAt es k).2.2] 54)).heap.size, j, none⟩ := by unfold Addr.add; split <;> simp_all
            rw [this, cell_of_row _ _ j _ 54 (0, 0) (heap_alloc_new _ _)]
            simpa [ec] using hj
          rw [ho] at hown2 hl2
          have HO2 := Lib.hid hown2
          have HL2 := Lib.hid hl2
          clear hown2 hl2 ho
          go_wp2_with (at_builtin; go_must (refine wpList_app _ rfl (.tmp 22) (.tmp 24) 22 rfl w.heap.size 54 i0 _ 3 24 Try.underlying22 HI0.out HZ0.out HZS.out HZB.out rfl (by decide) A1 m c1' _ rfl HO2.out _ _ 1 1 (ec [eAt es k]) (by simp [Act.eval]) HL2.out (ec_one _) (m + 1) (ec (fromV v (es.take (k + 1)))) rfl (by rw [HF.out, ec_append]) (by unfold maxLen; omega) (by omega) (by have := hb.size; simp; omega) ?_))
          intro A2 c2 w2 ho2 hb2
          have hb02 : Below w.heap.size w w2 := ((hbn _).alloc (by have := hb.size; simp; omega) _).trans hb2
          have HM2 := Lib.hid (show m + 1 = (fromV v (es.take (k + 1))).length by rw [HF.out, List.length_append, ← HM.out]; rfl)
          have HO3 := Lib.hid ho2
          clear ho2 hb2
          go_wp2_with fail
          go_roundw
          case rel => exact ⟨k + 1, A2, c2, by go_num, by omega, by rw [HM2.out], by rw [← HM2.out]; exact HO3.out, hb02⟩
          case measure => simp [intOf]; omega
        · have HF := Lib.hid (show fromV v (es.take (k + 1)) = fromV v (es.take k) by rw [fromV_take v es k hlt, if_neg hv])
          have hv1 : ((eAt es k).1 == v) = false := by simpa using hv
          have HO2 := Lib.hid (fun o => own_next HOWN.out (below_alloc wr o))
          clear hv
          go_wp2_with fail
          go_roundw
          case rel => exact ⟨k + 1, A1, c1', by go_num, by omega, by rw [HF.out], by rw [HF.out]; exact HO2.out _, hbn _⟩
          case measure => simp [intOf]; omega
      · have HK := Lib.hid (show es.take k = es from List.take_of_length_le (by omega))
        rw [HK.out] at HOWN ⊢
        go_wp2_with fail
        go_ret
        rw [HO.out]
        exact ⟨hb, A1, c1', rfl, HOWN.out⟩
  · have HO := Lib.hid (show outE N es v = [] by unfold outE; rw [if_neg hok])
    have hok1 : (chk N es != 0) = true := by simpa using hok
    clear hok
    go_enter Try.func77, Try.ntmps77
    go_wp2_with fail
    refine (check_any N A es.length c es _ hA0 hnc hn).mono ?_
    rintro e w1 ⟨rfl, hb1⟩
    have hb01 : Below w.heap.size w w1 := (below_alloc _ _).trans (hb1.mono (by simp))
    clear hb1 hA0
    go_wp2_with fail
    go_ret
    rw [HO.out]
    exact ⟨hb01, none, 0, rfl, World.ownsRow_nil _ _ _ _⟩

def RoRel (N : Int) (A0 : Option Addr) (c0 : Nat) (v : Int) (es : List Ed) (w : World) (out i : Value) (W : World) : Prop :=
  ∃ (k : Nat) (A : Option Addr) (c : Nat), i = .int .i64 k ∧ k ≤ es.length ∧ out = .slice A (fromV v (es.take k)).length c ∧ W.ownsRow (w.heap.size + 1) 54 3 (.slice A (fromV v (es.take k)).length c) (fromV v (es.take k)).length (ec (fromV v (es.take k))) ∧ Below (w.heap.size + 1) (w.alloc (.cells #[.int .i64 N, .slice A0 es.length c0] 24)) W

set_option maxHeartbeats 1000000 in
theorem rout_any (N : Int) (A : Option Addr) (n c : Nat) (es : List Ed) (v : Int) (w : World) (hA : Lies w w.heap.size 3 A n (ec es)) (hnc : n ≤ c) (hn : n ≤ maxLen) :
    Calls Try.prog 73 #[.agg #[.int .i64 N, .slice A n c], .int .i64 v] w (OuPost (outE N es v) w) := by
  obtain rfl := hA.ed_len
  have hA0 := hA.next (below_alloc w (.cells #[.int .i64 N, .slice A es.length c] 24))
  by_cases hok : chk N es = 0
  · have HO := Lib.hid (show outE N es v = fromV v es by unfold outE; rw [if_pos hok])
    obtain ⟨n1, n2, n3, _⟩ := chk_zero hok
    have HOK := Lib.hid hok
    clear hok
    obtain ⟨i0, hi0, hz0, hzs, hzb⟩ := info_parts (show (Try.prog.info? 54).map (fun i => (i.zero, i.size, i.bytes)) = some (some (.agg #[.int .i64 0, .int .i64 0, .int .i64 0]), 3, 24) by kernel_rfl)
    have HI0 := Lib.hid hi0
    have HZ0 := Lib.hid hz0
    have HZS := Lib.hid hzs
    have HZB := Lib.hid hzb
    clear hi0 hz0 hzs hzb
    go_enter Try.func73, Try.ntmps73
    go_wp2_with fail
    refine (rcheck_any N A es.length c es _ hA0 hnc hn).mono ?_
    rintro e w1 ⟨rfl, hb1⟩
    rw [HOK.out]
    have hb11 : Below (w.heap.size + 1) (w.alloc (.cells #[.int .i64 N, .slice A es.length c] 24)) w1 := hb1.mono (by simp)
    clear hb1 hA0
    go_wp2_with fail
    go_loopw [5, 6] (fun o i W => RoRel N A c v es w o i W) (fun o i W => es.length - (intOf i).toNat)
    case atStart => exact ⟨0, none, 0, rfl, Nat.zero_le _, rfl, World.ownsRow_nil _ _ _ _, hb11⟩
    case round =>
      obtain ⟨k, A1, c1', rfl, hk, rfl, hown, hbb⟩ := hrel
      have HOWN := Lib.hid hown
      clear hown
      have hb : Below w.heap.size w wr := (below_alloc _ _).trans (hbb.mono (by omega))
      have hz : w.heap.size + 1 ≤ wr.heap.size := by have := hbb.size; simpa using this
      have k1 : wr.cell? ⟨w.heap.size, 1, none⟩ = some (.slice A es.length c) := (hbb.cell (p := ⟨w.heap.size, 1, none⟩) (by simp)).trans (by simp [go_sem])
      have hAr := hA.below hb
      by_cases hlt : k < es.length
      · obtain ⟨ad, rfl, hadb, e0, e1, e2⟩ := hAr.ed k hlt
        by_cases hv : (eAt es k).1 = v
        · have HF := Lib.hid (show fromV v (es.take (k + 1)) = fromV v (es.take k) ++ [eAt es k] by rw [fromV_take v es k hlt, if_pos hv])
          have hlen := fromV_len v (es.take k)
          rw [List.length_take] at hlen
          have hv1 : ((eAt es k).1 == v) = true := by simpa using hv
          clear hv
          obtain ⟨m, hm⟩ : ∃ m, m = (fromV v (es.take k)).length := ⟨_, rfl⟩
          rw [← hm] at HOWN hlen ⊢
          have HM := Lib.hid hm
          have hm80 : m ≤ 80 := by omega
          clear hm hlen
          obtain ⟨o, ho⟩ : ∃ o : Obj, o = .cells #[.int .i64 (eAt es k).1, .int .i64 (eAt es k).2.1, .int .i64 (eAt es k).2.2] 54 := ⟨_, rfl⟩
          have hown2 := own_next HOWN.out (below_alloc wr o)
          have hl2 : Lies (wr.alloc o) (wr.heap.size + 1) 3 (some ⟨wr.heap.size, 0, none⟩) 1 (ec [eAt es k]) := by
            rw [ho]
            refine ⟨rfl, fun j u hj => ⟨_, rfl, Nat.lt_succ_self _, ?_⟩⟩
            have : (⟨wr.heap.size, 0, none⟩ : Addr).add j = ⟨wr.heap.size, j, none⟩ := by unfold Addr.add; split <;> simp_all
            rw [this, cell_of_row _ _ j _ 54 (0, 0) (heap_alloc_new _ _)]
            simpa [ec] using hj
          rw [ho] at hown2 hl2
          have HO2 := Lib.hid hown2
          have HL2 := Lib.hid hl2
          clear hown2 hl2 ho
          go_wp2_with (at_builtin; go_must (refine wpList_app _ rfl (.tmp 26) (.tmp 32) 22 rfl (w.heap.size + 1) 54 i0 _ 3 24 Try.underlying22 HI0.out HZ0.out HZS.out HZB.out rfl (by decide) A1 m c1' _ rfl HO2.out _ _ 1 1 (ec [eAt es k]) rfl HL2.out (ec_one _) (m + 1) (ec (fromV v (es.take (k + 1)))) rfl (by rw [HF.out, ec_append]) (by unfold maxLen; omega) (by omega) (by simp; omega) ?_))
          intro A2 c2 w2 ho2 hb2
          have hb02 : Below (w.heap.size + 1) (w.alloc (.cells #[.int .i64 N, .slice (some ad) es.length c] 24)) w2 := (hbb.alloc hz _).trans hb2
          have HM2 := Lib.hid (show m + 1 = (fromV v (es.take (k + 1))).length by rw [HF.out, List.length_append, ← HM.out]; rfl)
          have HO3 := Lib.hid ho2
          clear ho2 hb2
          go_wp2_with fail
          go_roundw
          case rel => exact ⟨k + 1, A2, c2, by go_num, by omega, by rw [HM2.out], by rw [← HM2.out]; exact HO3.out, hb02⟩
          case measure => simp [intOf]; omega
        · have HF := Lib.hid (show fromV v (es.take (k + 1)) = fromV v (es.take k) by rw [fromV_take v es k hlt, if_neg hv])
          have hv1 : ((eAt es k).1 == v) = false := by simpa using hv
          clear hv
          go_wp2_with fail
          go_roundw
          case rel => exact ⟨k + 1, A1, c1', by go_num, by omega, by rw [HF.out], by rw [HF.out]; exact HOWN.out, hbb⟩
          case measure => simp [intOf]; omega
      · have HK := Lib.hid (show es.take k = es from List.take_of_length_le (by omega))
        rw [HK.out] at HOWN ⊢
        go_wp2_with fail
        go_ret
        rw [HO.out]
        exact ⟨hb, A1, c1', rfl, HOWN.out.lower (by omega)⟩
  · have HO := Lib.hid (show outE N es v = [] by unfold outE; rw [if_neg hok])
    have hok1 : (chk N es != 0) = true := by simpa using hok
    clear hok
    go_enter Try.func73, Try.ntmps73
    go_wp2_with fail
    refine (rcheck_any N A es.length c es _ hA0 hnc hn).mono ?_
    rintro e w1 ⟨rfl, hb1⟩
    have hb01 : Below w.heap.size w w1 := (below_alloc _ _).trans (hb1.mono (by simp))
    clear hb1 hA0
    go_wp2_with fail
    go_ret
    rw [HO.out]
    exact ⟨hb01, none, 0, rfl, World.ownsRow_nil _ _ _ _⟩

end Go.Proofs.Ytkmflofokgkekaa
