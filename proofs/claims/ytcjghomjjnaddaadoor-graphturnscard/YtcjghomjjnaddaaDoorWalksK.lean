/-
  The contract of slices.Insert of one edge: in place, into a new row, at the end. Conditions: as each states.
-/
import Derived.Test.YtcjghomjjnaddaaDoorWalksA
import Derived.Lib.Overlaps
import Derived.Lib.AppendZerosOnto
import Derived.Laws.CopyOwn
import Derived.Laws.NewBlocks
import Derived.Deep.RegionLaw
namespace Go.Proofs.YtcjghomjjnaddaaDoor
open Go.RowKit
set_option linter.unusedVariables false

theorem step_copy3 {P : Program} {ops : Array Oper} {o : Oper} {a : Act} {w : World} {K : Act → World → Prop} {Q : Exit → Act → World → Prop} {E : Prop}
    (hg : o.guard = none) (d x : Operand) (dT sT : TypeId) (hop : o.op = Op.call { callee := Callee.builtin Builtin.copy, args := #[d, x], argTypes := #[dT, sT] })
    (v u : Value) (hd : a.eval d = v) (hx : a.eval x = u) {v' : Value} {w' : World} (hr : (Builtin.copy_ #[dT, sT] o.type #[v, u]).run P w = .ok v' w') (hK : K (a.put o.dst v') w') :
    if Region.wanted o (yielded ops a.tmps) = true then Oper.wp P o a w K Q else E := by
  have hw : Region.wanted o (yielded ops a.tmps) = true := by simp [Region.wanted, hg]
  rw [if_pos hw]
  unfold Oper.wp
  simp [execOp, hop, resolve, invoke, builtin, hd, hx, hr, Result.andThen]
  exact hK

theorem list_copy3 {P : Program} (w : World) {ops : Array Oper} {rest : List Oper} {o : Oper} {a : Act} {Q : Exit → Act → World → Prop} (hgd : o.guard = none) (d s : Operand) (t t' : TypeId)
    (ho : o.op = .call { callee := .builtin .copy, args := #[d, s], argTypes := #[t, t'] }) (v u : Value) (hd : a.eval d = v) (hs : a.eval s = u) {v' : Value} {w' : World}
    (hr : (Builtin.copy_ #[t, t'] o.type #[v, u]).run P w = .ok v' w') (h : wpList P ops Q rest (a.put o.dst v') w') : wpList P ops Q (o :: rest) a w := by
  refine wpList_plain hgd fun K hK => ?_
  unfold Oper.wp execOp
  simp only [ho, resolve, invoke, builtin, Sem.run_bind, Sem.run_pure, Result.andThen_ok, List.map_toArray, List.map_cons, List.map_nil, hd, hs, hr]
  exact hK _ _ h

theorem toList_ex (X : Array Value) : ∃ L : List Value, L.toArray = X := ⟨X.toList, by simp⟩

/-- copy of edges into a row that is known whole. -/
theorem copy3_ex (g o dLen dCap : Nat) (a : Addr) (sLen sCap : Nat) (cur cs : List Value) (w : World) (hg : w.heap[g]? = some (.cells cur.toArray 42 (0, 0))) (hn : cs.length = Nat.min sLen dLen * 3)
    (hsrc : ∀ j v, cs[j]? = some v → w.cell? (a.add j) = some v) (hfit : o + cs.length ≤ cur.length) (h1 : ∀ v ∈ cs, v.oneCell' = true) :
    ∃ w', (∀ ty, (Builtin.copy_ #[22, 22] ty #[.slice (some ⟨g, o, none⟩) dLen dCap, .slice (some a) sLen sCap]).run Tryd.prog w = .ok (goInt (Nat.min sLen dLen)) w') ∧
      w'.heap[g]? = some (.cells (splice cur o cs).toArray 42 (0, 0)) ∧ w.grownBy w' (some g) ∧ w'.heap.size = w.heap.size := by
  have hl := run_loadCells_list (P := Tryd.prog) w a cs hsrc
  have hst := run_storeCells_at Tryd.prog g o 42 cs 0 cur.toArray w hg (by simpa using hfit) h1
  obtain ⟨i, hq, hi⟩ := Option.map_eq_some_iff.1 (show (Tryd.prog.info? 42).map (·.size) = some 3 by kernel_rfl)
  refine ⟨w.setRow g (splice cur o cs).toArray, fun ty => ?_, setRow_heap w g _ _ 42 _ hg, ⟨rfl, rfl, rfl, by simp [World.setRow], fun k hk hne => setRow_other w g k _ (fun e => hne (by rw [e]))⟩, by simp [World.setRow]⟩
  rw [hn] at hl
  simp only [Nat.add_zero] at hst
  simp [Builtin.copy_, run_underlying Tryd.underlying22, Builtin.lenOf, Builtin.firstCells, sizeOf, typeInfo, hq, hi, hl, hst, splice]


set_option maxHeartbeats 2000000 in
set_option maxRecDepth 100000 in
theorem insert_room (g n c i vb : Nat) (cur : List Value) (es : List Ed) (e : Ed) (w : World) (hg : w.heap[g]? = some (.cells cur.toArray 42 (0, 0))) (hcl : cur.length = c * 3) (hcur : cur.take (n * 3) = ec es) (hes : es.length = n)
    (hv : w.heap[vb]? = some (.cells #[.int .i64 e.1, .int .i64 e.2.1, .int .i64 e.2.2] 42 (0, 0))) (hne : vb ≠ g) (hin : i < n) (hroom : n + 1 ≤ c) (hc : c ≤ maxLen) (hn : n ≤ 80) :
    Calls Tryd.prog 39 #[.slice (some ⟨g, 0, none⟩) n c, .int .i64 i, .slice (some ⟨vb, 0, none⟩) 1 1] w fun r w' => r = .returned (.slice (some ⟨g, 0, none⟩) (n + 1) c) ∧
      w'.heap[g]? = some (.cells (splice (splice cur ((i + 1) * 3) (ec (es.drop i))) (i * 3) (ec [e])).toArray 42 (0, 0)) ∧ w.grownBy w' (some g) := by
  unfold maxLen at hc
  have hz2 : ((i : Int) == (n : Int)) = false := by rw [beq_eq_false_iff_ne]; omega
  have hz3 : ¬ (c : Int) < (n : Int) + 1 := by omega
  have hb2 : ¬ (c = i + 1) := by omega
  have hb4 : ¬ (c = i) := by omega
  have hi0 : (i : Int) ≤ (n : Int) := by omega
  have hi1 : (i : Int) + 1 ≤ (n : Int) + 1 := by omega
  have hi2 : (i : Int) ≤ (n : Int) + 1 := by omega
  have hi3 : (n : Int) + 1 ≤ (c : Int) := by omega
  have hsv : w.shape? vb = some (42, 3) := by simp [World.shape?, hv]
  have hsg : w.shape? g = some (42, c * 3) := by simp [World.shape?, hg, hcl]
  have hfv : ∀ k, w.frozen? ⟨vb, k, none⟩ = false := fun k => by simp [World.frozen?, hv]
  have hov : ∀ lb cb, (callFunc 49 #[.slice (some ⟨vb, 0, none⟩) 1 1, .slice (some ⟨g, (i + 1) * 3, none⟩) lb cb]).run Tryd.prog w = .ok (.value (.bool false)) w := fun lb cb => by
    rw [run_callFunc_extern Tryd.func49 (by kernel_rfl) (by kernel_rfl) (by kernel_rfl) (e := Extern.SlicesOverlaps.overlaps #[22, 22] #[4]) (by kernel_rfl),
      Lib.run_overlaps_apart w 22 4 42 Tryd.underlying22 3 Tryd.sizeOf42 ⟨vb, 0, none⟩ ⟨g, (i + 1) * 3, none⟩ 1 1 lb cb hne 42 42 3 (c * 3) hsv hsg (by omega) (hfv 0) (hfv 3)]
    rfl
  have hdl : (ec (es.drop i)).length = (n - i) * 3 := by rw [ec_length, List.length_drop, hes]
  have hcurl : ∀ j v, (ec (es.drop i))[j]? = some v → cur[i * 3 + j]? = some v := fun j v hj => by
    rw [← ec_drop, List.getElem?_drop, ← hcur] at hj
    rw [List.getElem?_take] at hj
    split at hj
    · exact hj
    · cases hj
  obtain ⟨w1, hr1, hg1, hb1, hz1⟩ := copy3_ex g ((i + 1) * 3) (n - i) (c - (i + 1)) ⟨g, i * 3, none⟩ (n + 1 - i) (c - i) cur (ec (es.drop i)) w.drew hg
    (by rw [hdl]; simp only [Nat.min_def]; split <;> omega)
    (fun j v hj => by
      have : (⟨g, i * 3, none⟩ : Addr).add j = ⟨g, i * 3 + j, none⟩ := by unfold Addr.add; split <;> simp_all
      rw [this, cell_of_row w.drew g (i * 3 + j) cur.toArray 42 (0, 0) hg]
      simpa using hcurl j v hj)
    (by rw [hdl, hcl]; omega) (ec_one _)
  have hv1 : w1.heap[vb]? = some (.cells #[.int .i64 e.1, .int .i64 e.2.1, .int .i64 e.2.2] 42 (0, 0)) := (hb1.block vb (Array.getElem?_eq_some_iff.1 hv).1 (fun h => hne (by injection h))).trans hv
  obtain ⟨w2, hr2, hg2, hb2', hz2'⟩ := copy3_ex g (i * 3) (n + 1 - i) (c - i) ⟨vb, 0, none⟩ 1 1 _ (ec [e]) w1 hg1
    (by rw [ec_length]; simp only [Nat.min_def, List.length_singleton]; split <;> omega)
    (fun j v hj => by
      have : (⟨vb, 0, none⟩ : Addr).add j = ⟨vb, j, none⟩ := by unfold Addr.add; split <;> simp_all
      rw [this, cell_of_row w1 vb j _ 42 (0, 0) hv1]
      simpa [ec] using hj)
    (by rw [length_splice _ _ _ (by rw [hdl, hcl]; omega), ec_length, hcl]; simp; omega) (ec_one _)
  have HG2 := Lib.hid hg2
  have HF : Hid (w.grownBy w2 (some g)) := Lib.hid (World.grownBy.trans (a := w) (b := w1) ⟨hb1.os, hb1.tape, hb1.output, hb1.size, hb1.block⟩ hb2')
  have hw1 : IntKind.i64.wrap ((i : Int) + 1) = (i : Int) + 1 := by rw [IntKind.wrap_i64]; omega
  have hp1 : (0 : Int) ≤ (i : Int) + 1 := by omega
  have hp2 : ((i : Int) + 1).toNat = i + 1 := by omega
  clear hg1 hg2 hb1 hb2' hv hg hcl hcur hes hsv hsg hfv hdl hcurl hz1 hz2' hv1
  go_enter Tryd.func39, Tryd.ntmps39
  go_wp2_with (simp only [hov])
  go_region_law (refine step_copy3 rfl _ _ 22 22 rfl _ _ (by simp [Act.eval, Act.put]) (by simp [Act.eval, Act.put]) (hr1 _) ?_)
  go_wp2_with (at_builtin; refine list_copy3 _ rfl _ _ 22 22 rfl _ _ rfl rfl (hr2 _) ?_)
  go_ret
  exact ⟨rfl, HG2.out, HF.out⟩

set_option maxHeartbeats 2000000 in
set_option maxRecDepth 100000 in
theorem insert_grow (g n c i vb : Nat) (cur : List Value) (es : List Ed) (e : Ed) (w : World) (hg : w.heap[g]? = some (.cells cur.toArray 42 (0, 0))) (hcl : cur.length = c * 3) (hcur : cur.take (n * 3) = ec es) (hes : es.length = n)
    (hv : w.heap[vb]? = some (.cells #[.int .i64 e.1, .int .i64 e.2.1, .int .i64 e.2.2] 42 (0, 0))) (hin : i < n) (hnc : n ≤ c) (hroom : c < n + 1) (hn : n ≤ 80) :
    Calls Tryd.prog 39 #[.slice (some ⟨g, 0, none⟩) n c, .int .i64 i, .slice (some ⟨vb, 0, none⟩) 1 1] w fun r w' => ∃ (G : Nat) (row : List Value), r = .returned (.slice (some ⟨w.heap.size, 0, none⟩) (n + 1) G) ∧ n + 1 ≤ G ∧ G ≤ maxLen ∧ row.length = G * 3 ∧ row.take (i * 3) = ec (es.take i) ∧
      w'.heap[w.heap.size]? = some (.cells (splice (splice row (i * 3) (ec [e])) ((i + 1) * 3) (ec (es.drop i))).toArray 42 (0, 0)) ∧ Below w.heap.size w w' := by
  have hz2 : ((i : Int) == (n : Int)) = false := by rw [beq_eq_false_iff_ne]; omega
  have hz3 : (c : Int) < (n : Int) + 1 := by omega
  have hgw := (Array.getElem?_eq_some_iff.1 hg).1
  have hvw := (Array.getElem?_eq_some_iff.1 hv).1
  obtain ⟨i0, hi0, hz0, hzs, hzb⟩ := info_parts (show (Tryd.prog.info? 42).map (fun i => (i.zero, i.size, i.bytes)) = some (some (.agg #[.int .i64 0, .int .i64 0, .int .i64 0]), 3, 24) by kernel_rfl)
  have hkk : (n : Int) + 1 - (i : Int) = ((n + 1 - i : Nat) : Int) := by omega
  have hik : i + (n + 1 - i) = n + 1 := by omega
  have hcurl : ∀ j v, (ec es)[j]? = some v → cur[j]? = some v := fun j v hj => by
    rw [← hcur, List.getElem?_take] at hj
    split at hj
    · exact hj
    · cases hj
  have hadd : ∀ o j : Nat, (⟨g, o, none⟩ : Addr).add j = ⟨g, o + j, none⟩ := fun o j => by unfold Addr.add; split <;> simp_all
  have hold : (Builtin.firstCells i0.size i (.slice (some ⟨g, 0, none⟩) i c)).run Tryd.prog w.drew = .ok (ec (es.take i)).toArray w.drew := by
    rw [hzs]
    exact run_firstCells_some w.drew 3 i ⟨g, 0, none⟩ i c (ec (es.take i)) (by rw [ec_length, List.length_take]; omega) (fun j v hj => by
      rw [hadd, cell_of_row w.drew g _ cur.toArray 42 (0, 0) hg]
      rw [← ec_take, List.getElem?_take] at hj
      split at hj
      · simpa using hcurl j v hj
      · cases hj)
  have hrz := fun ty => Lib.run_append_grow_zeros (P := Tryd.prog) w 22 3 ty 42 i0 _ .i64 .i64 Tryd.underlying22 Tryd.underlying3 hi0 hz0 (some ⟨g, 0, none⟩) i c (ec (es.take i)) hold (n + 1 - i) (by omega) (by omega) (by omega) (by omega) (by rw [hzb]; omega) (by rw [hzb, hik]; exact growslice_fits hroom (by omega))
  rw [hik] at hrz
  obtain ⟨G, hG⟩ : ∃ G, G = grownCap w (n + 1) c 42 := ⟨_, rfl⟩
  have hGn : n + 1 ≤ G := by rw [hG]; exact grownCap_ge w _ _ _
  have hGm : G ≤ maxLen := by rw [hG]; exact grownCap_le_maxLen w (n + 1) c 42 (by unfold maxLen; omega)
  obtain ⟨ROW, hROW⟩ := toList_ex ((ec (es.take i)).toArray ++ Builtin.zeroCells (Value.agg #[.int .i64 0, .int .i64 0, .int .i64 0]).cells (n + 1 - i) ++ Builtin.zeroCells (Value.agg #[.int .i64 0, .int .i64 0, .int .i64 0]).cells (G - (n + 1)))
  rw [← hG, ← hROW, ← hkk] at hrz
  have hz9 : ∀ k, (Builtin.zeroCells (Value.agg #[.int .i64 0, .int .i64 0, .int .i64 0]).cells k).size = k * 3 := fun k => by simp [Builtin.zeroCells, Value.cells]
  have hRl : ROW.length = G * 3 := by
    have := congrArg Array.size hROW
    rw [Array.size_append, Array.size_append, hz9, hz9] at this
    simp only [List.size_toArray] at this
    rw [ec_length, List.length_take] at this
    omega
  have hRt : ROW.take (i * 3) = ec (es.take i) := by
    have h1 := congrArg Array.toList hROW
    rw [Array.toList_append, Array.toList_append] at h1
    simp only at h1
    rw [h1, List.append_assoc, List.take_append_of_le_length (by rw [ec_length, List.length_take]; omega), List.take_of_length_le (by rw [ec_length, List.length_take]; omega)]
  obtain ⟨W1, hW1⟩ : ∃ W1, W1 = w.drew.alloc (.cells ROW.toArray 42) := ⟨_, rfl⟩
  rw [← hW1] at hrz
  have hb1 : Below w.heap.size w W1 := by rw [hW1]; exact (Below.refl _ _).drew.alloc (Nat.le_refl _) _
  have hg1 : W1.heap[w.heap.size]? = some (.cells ROW.toArray 42 (0, 0)) := by rw [hW1]; exact heap_alloc_new w.drew _
  have hgo : W1.heap[g]? = some (.cells cur.toArray 42 (0, 0)) := (hb1.block g hgw).trans hg
  have hvo : W1.heap[vb]? = some (.cells #[.int .i64 e.1, .int .i64 e.2.1, .int .i64 e.2.2] 42 (0, 0)) := (hb1.block vb hvw).trans hv
  obtain ⟨w2, hr2, hg2, hb2, hs2⟩ := copy3_ex w.heap.size (i * 3) (n + 1 - i) (G - i) ⟨vb, 0, none⟩ 1 1 ROW (ec [e]) W1 hg1
    (by rw [ec_length]; simp only [Nat.min_def, List.length_singleton]; split <;> omega)
    (fun j v hj => by
      have : (⟨vb, 0, none⟩ : Addr).add j = ⟨vb, j, none⟩ := by unfold Addr.add; split <;> simp_all
      rw [this, cell_of_row W1 vb j _ 42 (0, 0) hvo]
      simpa [ec] using hj)
    (by rw [ec_length, hRl]; simp; omega) (ec_one _)
  have hg3 : w2.heap[g]? = some (.cells cur.toArray 42 (0, 0)) := (hb2.block g (by have := hb1.size; omega) (fun h => by injection h; omega)).trans hgo
  have hdl : (ec (es.drop i)).length = (n - i) * 3 := by rw [ec_length, List.length_drop, hes]
  obtain ⟨w3, hr3, hg4, hb3, hs3⟩ := copy3_ex w.heap.size ((i + 1) * 3) (n - i) (G - (i + 1)) ⟨g, i * 3, none⟩ (n - i) (c - i) (splice ROW (i * 3) (ec [e])) (ec (es.drop i)) w2.drew hg2
    (by rw [hdl]; simp only [Nat.min_def]; split <;> omega)
    (fun j v hj => by
      rw [hadd, cell_of_row w2.drew g (i * 3 + j) cur.toArray 42 (0, 0) hg3]
      rw [← ec_drop, List.getElem?_drop] at hj
      simpa using hcurl _ v hj)
    (by rw [length_splice _ _ _ (by rw [ec_length, hRl]; simp; omega), hdl, hRl]; omega) (ec_one _)
  have HG : Hid (w3.heap[w.heap.size]? = some (.cells (splice (splice ROW (i * 3) (ec [e])) ((i + 1) * 3) (ec (es.drop i))).toArray 42 (0, 0))) := Lib.hid hg4
  have HF : Hid (Below w.heap.size w w3) := Lib.hid (by
    have h12 : Below w.heap.size w w2 := hb1.grown hb2 hb1.size (fun k hk => by cases hk; exact Nat.le_refl _)
    exact h12.drew.grown hb3 (by have := h12.size; exact this) (fun k hk => by cases hk; exact Nat.le_refl _))
  have hG63 : G ≤ 9223372036854775807 := by unfold maxLen at hGm; omega
  have hGi : ¬ (G = i) := by omega
  have hGim : ¬ (G = i + 1) := by omega
  have hci : ¬ (c = i) := by omega
  have hi1 : (i : Int) + 1 ≤ (n : Int) + 1 := by omega
  have hi2 : (i : Int) ≤ (n : Int) + 1 := by omega
  have hi3 : (i : Int) ≤ (n : Int) := by omega
  have hi4 : (i : Int) ≤ (c : Int) := by omega
  have hw1 : IntKind.i64.wrap ((i : Int) + 1) = (i : Int) + 1 := by rw [IntKind.wrap_i64]; omega
  have hp1 : (0 : Int) ≤ (i : Int) + 1 := by omega
  have hp2 : ((i : Int) + 1).toNat = i + 1 := by omega
  have HR := Lib.hid hRl
  have HT := Lib.hid hRt
  have HM := Lib.hid hGm
  clear hkk hik hold hROW hG hRl hRt hW1 hg1 hgo hvo hg2 hg3 hg4 hb1 hb2 hb3 hs2 hs3 hdl hcurl hadd hg hv hcl hcur hes hgw hvw hi0 hz0 hzs hzb hz9 hGm
  go_enter Tryd.func39, Tryd.ntmps39
  go_wp2_with (first
    | (at_builtin; refine Lib.wpList_append_run _ rfl _ _ _ _ rfl _ _ rfl rfl _ _ (hrz _) ?_)
    | (at_builtin; refine list_copy3 _ rfl _ _ 22 22 rfl _ _ rfl rfl (hr2 _) ?_))
  go_region_law (refine step_copy3 rfl _ _ 22 22 rfl _ _ (by simp [Act.eval, Act.put]) (by simp [Act.eval, Act.put]) (hr3 _) ?_)
  go_wp2_with fail
  go_ret
  exact ⟨G, ROW, rfl, hGn, HM.out, HR.out, HT.out, HG.out, HF.out⟩
end Go.Proofs.YtcjghomjjnaddaaDoor
