import Derived.Test.YtdpmlpclhojcjaaEf
import Derived.Lib.Overlaps
import Derived.Lib.AppendZerosOnto
import Derived.Laws.CopyOwn
import Derived.Laws.NewBlocks
import Derived.Deep.RegionLaw
import Derived.Deep.DeepMust
/-
  The contract of slices.Insert of one file into a row of the call's own: in place, into a new row, at the end. Conditions: as each states.
-/
namespace Go.Proofs.Ytdpmlpclhojcjaa
open Go.RowKit
set_option linter.unusedVariables false

theorem fc_take (es : List Fe) (k : Nat) : (fc es).take (k * 3) = fc (es.take k) := by
  induction es generalizing k with
  | nil => simp [fc]
  | cons e r ih =>
    cases k with
    | zero => simp [fc]
    | succ k =>
      rw [List.take_succ_cons, fc_cons, fc_cons, ← ih k, show (k + 1) * 3 = k * 3 + 1 + 1 + 1 by omega]
      rfl
theorem fc_drop (es : List Fe) (k : Nat) : (fc es).drop (k * 3) = fc (es.drop k) := by
  induction es generalizing k with
  | nil => simp [fc]
  | cons e r ih =>
    cases k with
    | zero => simp
    | succ k =>
      rw [List.drop_succ_cons, fc_cons, ← ih k, show (k + 1) * 3 = k * 3 + 1 + 1 + 1 by omega]
      rfl
theorem step_copy3 {P : Program} {ops : Array Oper} {o : Oper} {a : Act} {w : World} {K : Act → World → Prop} {Q : Exit → Act → World → Prop} {E : Prop}
    (hg : o.guard = none) (d x : Operand) (dT sT : TypeId) (hop : o.op = Op.call { callee := Callee.builtin Builtin.copy, args := #[d, x], argTypes := #[dT, sT] })
    (v u : Value) (hd : a.eval d = v) (hx : a.eval x = u) {v' : Value} {w' : World} (hr : (Builtin.copy_ #[dT, sT] o.type #[v, u]).run P w = .ok v' w') (hK : K (a.put o.dst v') w') :
    if Region.wanted o (yielded ops a.tmps) = true then Oper.wp P o a w K Q else E := by
  have hw : Region.wanted o (yielded ops a.tmps) = true := by simp [Region.wanted, hg]
  rw [if_pos hw]
  unfold Oper.wp
  simp [execOp, hop, resolve, invoke, builtin, hd, hx, hr, Result.andThen]
  exact hK

theorem list_copy3 {P : Program} (w : World) {ops : Array Oper} {rest : List Oper} {o : Oper} {a : Act} {Q : Exit → Act → World → Prop} (hgd : o.guard = none) (d s : Operand) (t t' : TypeId)
    (ho : o.op = .call { callee := .builtin .copy, args := #[d, s], argTypes := #[t, t'] }) (v u : Value) (hd : a.eval d = v) (hs : a.eval s = u) {v' : Value} {w' : World}
    (hr : (Builtin.copy_ #[t, t'] o.type #[v, u]).run P w = .ok v' w') (h : wpList P ops Q rest (a.put o.dst v') w') : wpList P ops Q (o :: rest) a w := by
  refine wpList_plain hgd fun K hK => ?_
  unfold Oper.wp execOp
  simp only [ho, resolve, invoke, builtin, Sem.run_bind, Sem.run_pure, Result.andThen_ok, List.map_toArray, List.map_cons, List.map_nil, hd, hs, hr]
  exact hK _ _ h

theorem toList_ex (X : Array Value) : ∃ L : List Value, L.toArray = X := ⟨X.toList, by simp⟩

/-- copy of edges into a row that is known whole. -/
theorem copy3_ex (g o dLen dCap : Nat) (a : Addr) (sLen sCap : Nat) (cur cs : List Value) (w : World) (hg : w.heap[g]? = some (.cells cur.toArray 53 (0, 0))) (hn : cs.length = Nat.min sLen dLen * 3)
    (hsrc : ∀ j v, cs[j]? = some v → w.cell? (a.add j) = some v) (hfit : o + cs.length ≤ cur.length) (h1 : ∀ v ∈ cs, v.oneCell' = true) :
    ∃ w', (∀ ty, (Builtin.copy_ #[22, 22] ty #[.slice (some ⟨g, o, none⟩) dLen dCap, .slice (some a) sLen sCap]).run Try.prog w = .ok (goInt (Nat.min sLen dLen)) w') ∧
      w'.heap[g]? = some (.cells (splice cur o cs).toArray 53 (0, 0)) ∧ w.grownBy w' (some g) ∧ w'.heap.size = w.heap.size := by
  have hl := run_loadCells_list (P := Try.prog) w a cs hsrc
  have hst := run_storeCells_at Try.prog g o 53 cs 0 cur.toArray w hg (by simpa using hfit) h1
  obtain ⟨i, hq, hi⟩ := Option.map_eq_some_iff.1 (show (Try.prog.info? 53).map (·.size) = some 3 by kernel_rfl)
  refine ⟨w.setRow g (splice cur o cs).toArray, fun ty => ?_, setRow_heap w g _ _ 53 _ hg, ⟨rfl, rfl, rfl, by simp [World.setRow], fun k hk hne => setRow_other w g k _ (fun e => hne (by rw [e]))⟩, by simp [World.setRow]⟩
  rw [hn] at hl
  simp only [Nat.add_zero] at hst
  simp [Builtin.copy_, run_underlying Try.underlying22, Builtin.lenOf, Builtin.firstCells, sizeOf, typeInfo, hq, hi, hl, hst, splice]


set_option maxHeartbeats 2000000 in
set_option maxRecDepth 100000 in
theorem insert_room (g n c i vb : Nat) (cur : List Value) (es : List Fe) (e : Fe) (w : World) (hg : w.heap[g]? = some (.cells cur.toArray 53 (0, 0))) (hcl : cur.length = c * 3) (hcur : cur.take (n * 3) = fc es) (hes : es.length = n)
    (hv : w.heap[vb]? = some (.cells #[.string e.nm, .slice e.A e.dat.length e.c, .int .i64 e.safe] 53 (0, 0))) (hne : vb ≠ g) (hin : i < n) (hroom : n + 1 ≤ c) (hc : c ≤ maxLen) (hn : n ≤ 80) :
    Calls Try.prog 40 #[.slice (some ⟨g, 0, none⟩) n c, .int .i64 i, .slice (some ⟨vb, 0, none⟩) 1 1] w fun r w' => r = .returned (.slice (some ⟨g, 0, none⟩) (n + 1) c) ∧
      w'.heap[g]? = some (.cells (splice (splice cur ((i + 1) * 3) (fc (es.drop i))) (i * 3) (fc [e])).toArray 53 (0, 0)) ∧ w.grownBy w' (some g) := by
  unfold maxLen at hc
  have hz2 : ((i : Int) == (n : Int)) = false := by rw [beq_eq_false_iff_ne]; omega
  have hz3 : ¬ (c : Int) < (n : Int) + 1 := by omega
  have hb2 : ¬ (c = i + 1) := by omega
  have hb4 : ¬ (c = i) := by omega
  have hi0 : (i : Int) ≤ (n : Int) := by omega
  have hi1 : (i : Int) + 1 ≤ (n : Int) + 1 := by omega
  have hi2 : (i : Int) ≤ (n : Int) + 1 := by omega
  have hi3 : (n : Int) + 1 ≤ (c : Int) := by omega
  have hsv : w.shape? vb = some (53, 3) := by simp [World.shape?, hv]
  have hsg : w.shape? g = some (53, c * 3) := by simp [World.shape?, hg, hcl]
  have hfv : ∀ k, w.frozen? ⟨vb, k, none⟩ = false := fun k => by simp [World.frozen?, hv]
  have hov : ∀ lb cb, (callFunc 46 #[.slice (some ⟨vb, 0, none⟩) 1 1, .slice (some ⟨g, (i + 1) * 3, none⟩) lb cb]).run Try.prog w = .ok (.value (.bool false)) w := fun lb cb => by
    rw [run_callFunc_extern Try.func46 (by kernel_rfl) (by kernel_rfl) (by kernel_rfl) (e := Extern.SlicesOverlaps.overlaps #[22, 22] #[4]) (by kernel_rfl),
      Lib.run_overlaps_apart w 22 4 53 Try.underlying22 3 Try.sizeOf53 ⟨vb, 0, none⟩ ⟨g, (i + 1) * 3, none⟩ 1 1 lb cb hne 53 53 3 (c * 3) hsv hsg (by omega) (hfv 0) (hfv 3)]
    rfl
  have hdl : (fc (es.drop i)).length = (n - i) * 3 := by rw [fc_len, List.length_drop, hes]
  have hcurl : ∀ j v, (fc (es.drop i))[j]? = some v → cur[i * 3 + j]? = some v := fun j v hj => by
    rw [← fc_drop, List.getElem?_drop, ← hcur] at hj
    rw [List.getElem?_take] at hj
    split at hj
    · exact hj
    · cases hj
  obtain ⟨w1, hr1, hg1, hb1, hz1⟩ := copy3_ex g ((i + 1) * 3) (n - i) (c - (i + 1)) ⟨g, i * 3, none⟩ (n + 1 - i) (c - i) cur (fc (es.drop i)) w.drew hg
    (by rw [hdl]; simp only [Nat.min_def]; split <;> omega)
    (fun j v hj => by
      have : (⟨g, i * 3, none⟩ : Addr).add j = ⟨g, i * 3 + j, none⟩ := by unfold Addr.add; split <;> simp_all
      rw [this, cell_of_row w.drew g (i * 3 + j) cur.toArray 53 (0, 0) hg]
      simpa using hcurl j v hj)
    (by rw [hdl, hcl]; omega) (fc_one _)
  have hv1 : w1.heap[vb]? = some (.cells #[.string e.nm, .slice e.A e.dat.length e.c, .int .i64 e.safe] 53 (0, 0)) := (hb1.block vb (Array.getElem?_eq_some_iff.1 hv).1 (fun h => hne (by injection h))).trans hv
  obtain ⟨w2, hr2, hg2, hb2', hz2'⟩ := copy3_ex g (i * 3) (n + 1 - i) (c - i) ⟨vb, 0, none⟩ 1 1 _ (fc [e]) w1 hg1
    (by rw [fc_len]; simp only [Nat.min_def, List.length_singleton]; split <;> omega)
    (fun j v hj => by
      have : (⟨vb, 0, none⟩ : Addr).add j = ⟨vb, j, none⟩ := by unfold Addr.add; split <;> simp_all
      rw [this, cell_of_row w1 vb j _ 53 (0, 0) hv1]
      simpa [fc, Fe.cells] using hj)
    (by rw [length_splice _ _ _ (by rw [hdl, hcl]; omega), fc_len, hcl]; simp; omega) (fc_one _)
  have HG2 := Lib.hid hg2
  have HF : Hid (w.grownBy w2 (some g)) := Lib.hid (World.grownBy.trans (a := w) (b := w1) ⟨hb1.os, hb1.tape, hb1.output, hb1.size, hb1.block⟩ hb2')
  have hw1 : IntKind.i64.wrap ((i : Int) + 1) = (i : Int) + 1 := by rw [IntKind.wrap_i64]; omega
  have hp1 : (0 : Int) ≤ (i : Int) + 1 := by omega
  have hp2 : ((i : Int) + 1).toNat = i + 1 := by omega
  clear hg1 hg2 hb1 hb2' hv hg hcl hcur hes hsv hsg hfv hdl hcurl hz1 hz2' hv1
  go_enter Try.func40, Try.ntmps40
  go_wp2_with (simp only [hov])
  go_region_law (refine step_copy3 rfl _ _ 22 22 rfl _ _ (by simp [Act.eval, Act.put]) (by simp [Act.eval, Act.put]) (hr1 _) ?_)
  go_wp2_with (at_builtin; refine list_copy3 _ rfl _ _ 22 22 rfl _ _ rfl rfl (hr2 _) ?_)
  go_ret
  exact ⟨rfl, HG2.out, HF.out⟩

set_option maxHeartbeats 2000000 in
set_option maxRecDepth 100000 in
theorem insert_grow (g n c i vb : Nat) (cur : List Value) (es : List Fe) (e : Fe) (w : World) (hg : w.heap[g]? = some (.cells cur.toArray 53 (0, 0))) (hcl : cur.length = c * 3) (hcur : cur.take (n * 3) = fc es) (hes : es.length = n)
    (hv : w.heap[vb]? = some (.cells #[.string e.nm, .slice e.A e.dat.length e.c, .int .i64 e.safe] 53 (0, 0))) (hin : i < n) (hnc : n ≤ c) (hroom : c < n + 1) (hn : n ≤ 80) :
    Calls Try.prog 40 #[.slice (some ⟨g, 0, none⟩) n c, .int .i64 i, .slice (some ⟨vb, 0, none⟩) 1 1] w fun r w' => ∃ (G : Nat) (row : List Value), r = .returned (.slice (some ⟨w.heap.size, 0, none⟩) (n + 1) G) ∧ n + 1 ≤ G ∧ G ≤ maxLen ∧ row.length = G * 3 ∧ row.take (i * 3) = fc (es.take i) ∧
      w'.heap[w.heap.size]? = some (.cells (splice (splice row (i * 3) (fc [e])) ((i + 1) * 3) (fc (es.drop i))).toArray 53 (0, 0)) ∧ Below w.heap.size w w' := by
  have hz2 : ((i : Int) == (n : Int)) = false := by rw [beq_eq_false_iff_ne]; omega
  have hz3 : (c : Int) < (n : Int) + 1 := by omega
  have hgw := (Array.getElem?_eq_some_iff.1 hg).1
  have hvw := (Array.getElem?_eq_some_iff.1 hv).1
  obtain ⟨i0, hi0, hz0, hzs, hzb⟩ := info_parts (show (Try.prog.info? 53).map (fun i => (i.zero, i.size, i.bytes)) = some (some (.agg #[.string ⟨#[]⟩, .slice none 0 0, .int .i64 0]), 3, 48) by kernel_rfl)
  have hkk : (n : Int) + 1 - (i : Int) = ((n + 1 - i : Nat) : Int) := by omega
  have hik : i + (n + 1 - i) = n + 1 := by omega
  have hcurl : ∀ j v, (fc es)[j]? = some v → cur[j]? = some v := fun j v hj => by
    rw [← hcur, List.getElem?_take] at hj
    split at hj
    · exact hj
    · cases hj
  have hadd : ∀ o j : Nat, (⟨g, o, none⟩ : Addr).add j = ⟨g, o + j, none⟩ := fun o j => by unfold Addr.add; split <;> simp_all
  have hold : (Builtin.firstCells i0.size i (.slice (some ⟨g, 0, none⟩) i c)).run Try.prog w.drew = .ok (fc (es.take i)).toArray w.drew := by
    rw [hzs]
    exact run_firstCells_some w.drew 3 i ⟨g, 0, none⟩ i c (fc (es.take i)) (by rw [fc_len, List.length_take]; omega) (fun j v hj => by
      rw [hadd, cell_of_row w.drew g _ cur.toArray 53 (0, 0) hg]
      rw [← fc_take, List.getElem?_take] at hj
      split at hj
      · simpa using hcurl j v hj
      · cases hj)
  have hrz := fun ty => Lib.run_append_grow_zeros (P := Try.prog) w 22 3 ty 53 i0 _ .i64 .i64 Try.underlying22 Try.underlying3 hi0 hz0 (some ⟨g, 0, none⟩) i c (fc (es.take i)) hold (n + 1 - i) (by omega) (by omega) (by omega) (by omega) (by rw [hzb]; omega) (by rw [hzb, hik]; exact growslice_fits hroom (by omega))
  rw [hik] at hrz
  obtain ⟨G, hG⟩ : ∃ G, G = grownCap w (n + 1) c 53 := ⟨_, rfl⟩
  have hGn : n + 1 ≤ G := by rw [hG]; exact grownCap_ge w _ _ _
  have hGm : G ≤ maxLen := by rw [hG]; exact grownCap_le_maxLen w (n + 1) c 53 (by unfold maxLen; omega)
  obtain ⟨ROW, hROW⟩ := toList_ex ((fc (es.take i)).toArray ++ Builtin.zeroCells (Value.agg #[.string ⟨#[]⟩, .slice none 0 0, .int .i64 0]).cells (n + 1 - i) ++ Builtin.zeroCells (Value.agg #[.string ⟨#[]⟩, .slice none 0 0, .int .i64 0]).cells (G - (n + 1)))
  rw [← hG, ← hROW, ← hkk] at hrz
  have hz9 : ∀ k, (Builtin.zeroCells (Value.agg #[.string ⟨#[]⟩, .slice none 0 0, .int .i64 0]).cells k).size = k * 3 := fun k => by simp [Builtin.zeroCells, Value.cells]
  have hRl : ROW.length = G * 3 := by
    have := congrArg Array.size hROW
    rw [Array.size_append, Array.size_append, hz9, hz9] at this
    simp only [List.size_toArray] at this
    rw [fc_len, List.length_take] at this
    omega
  have hRt : ROW.take (i * 3) = fc (es.take i) := by
    have h1 := congrArg Array.toList hROW
    rw [Array.toList_append, Array.toList_append] at h1
    simp only at h1
    rw [h1, List.append_assoc, List.take_append_of_le_length (by rw [fc_len, List.length_take]; omega), List.take_of_length_le (by rw [fc_len, List.length_take]; omega)]
  obtain ⟨W1, hW1⟩ : ∃ W1, W1 = w.drew.alloc (.cells ROW.toArray 53) := ⟨_, rfl⟩
  rw [← hW1] at hrz
  have hb1 : Below w.heap.size w W1 := by rw [hW1]; exact (Below.refl _ _).drew.alloc (Nat.le_refl _) _
  have hg1 : W1.heap[w.heap.size]? = some (.cells ROW.toArray 53 (0, 0)) := by rw [hW1]; exact heap_alloc_new w.drew _
  have hgo : W1.heap[g]? = some (.cells cur.toArray 53 (0, 0)) := (hb1.block g hgw).trans hg
  have hvo : W1.heap[vb]? = some (.cells #[.string e.nm, .slice e.A e.dat.length e.c, .int .i64 e.safe] 53 (0, 0)) := (hb1.block vb hvw).trans hv
  obtain ⟨w2, hr2, hg2, hb2, hs2⟩ := copy3_ex w.heap.size (i * 3) (n + 1 - i) (G - i) ⟨vb, 0, none⟩ 1 1 ROW (fc [e]) W1 hg1
    (by rw [fc_len]; simp only [Nat.min_def, List.length_singleton]; split <;> omega)
    (fun j v hj => by
      have : (⟨vb, 0, none⟩ : Addr).add j = ⟨vb, j, none⟩ := by unfold Addr.add; split <;> simp_all
      rw [this, cell_of_row W1 vb j _ 53 (0, 0) hvo]
      simpa [fc, Fe.cells] using hj)
    (by rw [fc_len, hRl]; simp; omega) (fc_one _)
  have hg3 : w2.heap[g]? = some (.cells cur.toArray 53 (0, 0)) := (hb2.block g (by have := hb1.size; omega) (fun h => by injection h; omega)).trans hgo
  have hdl : (fc (es.drop i)).length = (n - i) * 3 := by rw [fc_len, List.length_drop, hes]
  obtain ⟨w3, hr3, hg4, hb3, hs3⟩ := copy3_ex w.heap.size ((i + 1) * 3) (n - i) (G - (i + 1)) ⟨g, i * 3, none⟩ (n - i) (c - i) (splice ROW (i * 3) (fc [e])) (fc (es.drop i)) w2.drew hg2
    (by rw [hdl]; simp only [Nat.min_def]; split <;> omega)
    (fun j v hj => by
      rw [hadd, cell_of_row w2.drew g (i * 3 + j) cur.toArray 53 (0, 0) hg3]
      rw [← fc_drop, List.getElem?_drop] at hj
      simpa using hcurl _ v hj)
    (by rw [length_splice _ _ _ (by rw [fc_len, hRl]; simp; omega), hdl, hRl]; omega) (fc_one _)
  have HG : Hid (w3.heap[w.heap.size]? = some (.cells (splice (splice ROW (i * 3) (fc [e])) ((i + 1) * 3) (fc (es.drop i))).toArray 53 (0, 0))) := Lib.hid hg4
  have HF : Hid (Below w.heap.size w w3) := Lib.hid (by
    have h12 : Below w.heap.size w w2 := hb1.grown hb2 hb1.size (fun k hk => by cases hk; exact Nat.le_refl _)
    exact h12.drew.grown hb3 (by have := h12.size; exact this) (fun k hk => by cases hk; exact Nat.le_refl _))
  have hG63 : G ≤ 9223372036854775807 := by unfold maxLen at hGm; omega
  have hGi : ¬ (G = i) := by omega
  have hGim : ¬ (G = i + 1) := by omega
  have hci : ¬ (c = i) := by omega
  have hi1 : (i : Int) + 1 ≤ (n : Int) + 1 := by omega
  have hi2 : (i : Int) ≤ (n : Int) + 1 := by omega
  have hi3 : (i : Int) ≤ (n : Int) := by omega
  have hi4 : (i : Int) ≤ (c : Int) := by omega
  have hw1 : IntKind.i64.wrap ((i : Int) + 1) = (i : Int) + 1 := by rw [IntKind.wrap_i64]; omega
  have hp1 : (0 : Int) ≤ (i : Int) + 1 := by omega
  have hp2 : ((i : Int) + 1).toNat = i + 1 := by omega
  have HR := Lib.hid hRl
  have HT := Lib.hid hRt
  have HM := Lib.hid hGm
  clear hkk hik hold hROW hG hRl hRt hW1 hg1 hgo hvo hg2 hg3 hg4 hb1 hb2 hb3 hs2 hs3 hdl hcurl hadd hg hv hcl hcur hes hgw hvw hi0 hz0 hzs hzb hz9 hGm
  go_enter Try.func40, Try.ntmps40
  go_wp2_with (first
    | (at_builtin; refine Lib.wpList_append_run _ rfl _ _ _ _ rfl _ _ rfl rfl _ _ (hrz _) ?_)
    | (at_builtin; refine list_copy3 _ rfl _ _ 22 22 rfl _ _ rfl rfl (hr2 _) ?_))
  go_region_law (refine step_copy3 rfl _ _ 22 22 rfl _ _ (by simp [Act.eval, Act.put]) (by simp [Act.eval, Act.put]) (hr3 _) ?_)
  go_wp2_with fail
  go_ret
  exact ⟨G, ROW, rfl, hGn, HM.out, HR.out, HT.out, HG.out, HF.out⟩


theorem splice_in {α : Type} (L D E : List α) (o : Nat) (hE : E.length = 3) (h : o + 3 + D.length ≤ L.length) : splice (splice L (o + 3) D) o E = L.take o ++ (E ++ (D ++ L.drop (o + 3 + D.length))) := by
  unfold splice
  have h1 : (L.take (o + 3) ++ (D ++ L.drop (o + 3 + D.length))).take o = L.take o := by
    rw [List.take_append_of_le_length (by rw [List.length_take]; omega), List.take_take, Nat.min_eq_left (by omega)]
  have h2 : (L.take (o + 3) ++ (D ++ L.drop (o + 3 + D.length))).drop (o + 3) = D ++ L.drop (o + 3 + D.length) := by
    rw [List.drop_append_of_le_length (by rw [List.length_take]; omega), List.drop_eq_nil_of_le (by rw [List.length_take]; omega)]; rfl
  rw [h1, hE, h2]
theorem splice_out {α : Type} (L D E : List α) (o : Nat) (hE : E.length = 3) (h : o + 3 + D.length ≤ L.length) : ∃ R, splice (splice L o E) (o + 3) D = L.take o ++ (E ++ (D ++ R)) := by
  unfold splice
  have h1 : (L.take o ++ (E ++ L.drop (o + E.length))).take (o + 3) = L.take o ++ E := by
    rw [← List.append_assoc, List.take_append_of_le_length (by rw [List.length_append, List.length_take]; omega)]
    exact List.take_of_length_le (by rw [List.length_append, List.length_take]; omega)
  rw [h1]
  exact ⟨_, by rw [List.append_assoc]⟩

def putAt (es : List Fe) (i : Nat) (e : Fe) : List Fe := es.take i ++ (e :: es.drop i)

theorem put_cells (es : List Fe) (i : Nat) (e : Fe) : fc (putAt es i e) = fc (es.take i) ++ (fc [e] ++ fc (es.drop i)) := by
  unfold putAt
  rw [show e :: es.drop i = [e] ++ es.drop i from rfl, fc_app, fc_app]
theorem put_len (es : List Fe) (i : Nat) (e : Fe) (h : i ≤ es.length) : (putAt es i e).length = es.length + 1 := by
  unfold putAt
  rw [List.length_append, List.length_cons, List.length_take, List.length_drop]
  omega
theorem put_take {es : List Fe} {i : Nat} {e : Fe} {X R : List Value} (h : i ≤ es.length) (hX : X = fc (es.take i)) : (X ++ (fc [e] ++ (fc (es.drop i) ++ R))).take ((es.length + 1) * 3) = fc (putAt es i e) := by
  have h1 : X ++ (fc [e] ++ (fc (es.drop i) ++ R)) = fc (putAt es i e) ++ R := by rw [put_cells, hX]; simp only [List.append_assoc]
  have h2 : (fc (putAt es i e)).length = (es.length + 1) * 3 := by rw [fc_len, put_len es i e h]
  rw [h1, List.take_append_of_le_length (by omega), List.take_of_length_le (by omega)]

/-- s[k:] of edges: its run, and what it reads as. -/
theorem cut3_l (A : Option Addr) (n c k : Nat) (i : Int) (ki : IntKind) (hi : i = (k : Int)) (hk : k ≤ n) (hc : n ≤ c) :
    ∃ A', (∀ W, (Instr.slice 22 (.slice A n c) (some (.int ki i)) none none).run Try.prog W = .ok (.slice A' (n - k) (c - k)) W) ∧
      ∀ (w : World) (B : Nat) (xs : List Value), Lies w B 3 A n xs → Lies w B 3 A' (n - k) (xs.drop (k * 3)) := by
  subst hi
  refine ⟨if c = k then A else A.map (·.add (k * 3)), fun W => ?_, fun w B xs h => ?_⟩
  rotate_left
  · refine ⟨by rw [List.length_drop, h.1, Nat.sub_mul], fun j u hu => ?_⟩
    rw [List.getElem?_drop] at hu
    have hj : k * 3 + j < xs.length := (List.getElem?_eq_some_iff.1 hu).1
    have := h.1
    obtain ⟨ad, rfl, hb, hcell⟩ := h.2 _ u hu
    rw [if_neg (by omega)]
    exact ⟨ad.add (k * 3), rfl, by rw [block_add]; exact hb, by rw [add_add]; exact hcell⟩
  · have he : Try.prog.elem 22 = 53 := by kernel_rfl
    have ht : Try.prog.underlying 22 = some (.slice (Try.prog.elem 22)) := by rw [he]; exact Try.underlying22
    have hz : ∀ W, (sizeOf (Try.prog.elem 22)).run Try.prog W = .ok 3 W := by rw [he]; exact Try.sizeOf53
    rw [run_slice_l W 22 A n c ht ki k (by omega) (by omega)]
    simp [hz, sliced, Result.andThen]

def InsPost (base : Nat) (v : Value) (es : List Fe) (w : World) (r : Ending) (w' : World) : Prop :=
  w.grownBy w' v.ownBlock ∧ ∃ A' c', r = .returned (.slice A' es.length c') ∧ w'.ownsRow base 53 3 (.slice A' es.length c') es.length (fc es)

set_option maxHeartbeats 400000 in
set_option maxRecDepth 100000 in
theorem insert_end (base : Nat) (A : Option Addr) (n c vb : Nat) (es : List Fe) (e : Fe) (w : World) (hown : w.ownsRow base 53 3 (.slice A n c) n (fc es)) (hbase : base ≤ w.heap.size)
    (hv : w.heap[vb]? = some (.cells #[.string e.nm, .slice e.A e.dat.length e.c, .int .i64 e.safe] 53 (0, 0))) (hn : n ≤ 80) :
    Calls Try.prog 40 #[.slice A n c, .int .i64 n, .slice (some ⟨vb, 0, none⟩) 1 1] w fun r w' => ∃ A' c', r = .returned (.slice A' (n + 1) c') ∧ w'.ownsRow base 53 3 (.slice A' (n + 1) c') (n + 1) (fc (es ++ [e])) ∧ w.grownBy w' (Value.slice A n c).ownBlock := by
  obtain ⟨i0, hi0, hz0, hzs, hzb⟩ := info_parts (show (Try.prog.info? 53).map (fun i => (i.zero, i.size, i.bytes)) = some (some (.agg #[.string ⟨#[]⟩, .slice none 0 0, .int .i64 0]), 3, 48) by kernel_rfl)
  have hl : Lies w w.heap.size 3 (some ⟨vb, 0, none⟩) 1 (fc [e]) := ⟨rfl, fun j u hj => ⟨⟨vb, 0, none⟩, rfl, (Array.getElem?_eq_some_iff.1 hv).1, by
    have : (⟨vb, 0, none⟩ : Addr).add j = ⟨vb, j, none⟩ := by unfold Addr.add; split <;> simp_all
    rw [this, cell_of_row w vb j _ 53 (0, 0) hv]
    simpa [fc, Fe.cells] using hj⟩⟩
  have hcc := own_cap hown
  obtain ⟨A', hcut, -⟩ := cut3_l A n c n (n : Int) .i64 rfl (Nat.le_refl _) hcc
  have HOWN := Lib.hid hown
  have HL := Lib.hid hl
  have HI0 := Lib.hid hi0
  have HZ0 := Lib.hid hz0
  have HZS := Lib.hid hzs
  have HZB := Lib.hid hzb
  clear hown hl hv hi0 hz0 hzs hzb
  go_enter Try.func40, Try.ntmps40
  go_wp2_with (at_builtin; go_must (refine wpList_app2 _ rfl (.tmp 23) (.tmp 24) 22 rfl base 53 i0 _ 3 48 Try.underlying22 HI0.out HZ0.out HZS.out HZB.out rfl (by decide) A n c (fc es) rfl HOWN.out w.heap.size _ 1 1 (fc [e]) rfl HL.out (fc_one _) (n + 1) (fc (es ++ [e])) rfl (fc_app es [e]).symm (by unfold maxLen; omega) (by omega) hbase ?_))
  intro A2 c2 w2 ho2 _ hb2
  go_wp2_with fail
  go_ret
  exact ⟨A2, c2, rfl, ho2, hb2⟩

set_option maxHeartbeats 2000000 in
set_option maxRecDepth 100000 in
theorem insert_any (base : Nat) (A : Option Addr) (n c i vb : Nat) (es : List Fe) (e : Fe) (w : World) (hown : w.ownsRow base 53 3 (.slice A n c) n (fc es)) (hbase : base ≤ w.heap.size)
    (hv : w.heap[vb]? = some (.cells #[.string e.nm, .slice e.A e.dat.length e.c, .int .i64 e.safe] 53 (0, 0))) (hne : ∀ ad, A = some ad → vb ≠ ad.block) (hin : i ≤ n) (hn : n ≤ 80) :
    Calls Try.prog 40 #[.slice A n c, .int .i64 i, .slice (some ⟨vb, 0, none⟩) 1 1] w (InsPost base (.slice A n c) (putAt es i e) w) := by
  have hes : es.length = n := by have := hown.1; rw [fc_len] at this; omega
  by_cases hi : i = n
  · subst hi
    refine (insert_end base A i c vb es e w hown hbase hv hn).mono ?_
    rintro r w' ⟨A', c', rfl, ho, hb⟩
    have hp : putAt es i e = es ++ [e] := by unfold putAt; rw [← hes]; simp
    rw [hp]
    refine ⟨hb, A', c', ?_, ?_⟩
    · simp [hes]
    · simpa [hes] using ho
  · rcases hown.2 with ⟨_, h0⟩ | ⟨g, cap, cur, hveq, hbg, hg, hnc, hcm, hcs, hct⟩
    · omega
    · injection hveq with h1 h2 h3
      subst h1 h3
      have hput := put_len es i e (by omega)
      have hgl : g < w.heap.size := (Array.getElem?_eq_some_iff.1 hg).1
      by_cases hroom : n + 1 ≤ c
      · refine (insert_room g n c i vb cur.toList es e w hg (by simpa using hcs) hct hes hv (hne _ rfl) (by omega) hroom hcm hn).mono ?_
        rintro r w' ⟨rfl, hg', hgr⟩
        refine ⟨hgr, some ⟨g, 0, none⟩, c, by rw [hput, hes], ?_⟩
        rw [hput, hes]
        have hdl : (fc (es.drop i)).length = (n - i) * 3 := by rw [fc_len, List.length_drop, hes]
        have hsp : splice (splice cur.toList ((i + 1) * 3) (fc (es.drop i))) (i * 3) (fc [e]) = cur.toList.take (i * 3) ++ (fc [e] ++ (fc (es.drop i) ++ cur.toList.drop (i * 3 + 3 + (fc (es.drop i)).length))) := by
          rw [show (i + 1) * 3 = i * 3 + 3 by omega]
          exact splice_in cur.toList (fc (es.drop i)) (fc [e]) (i * 3) rfl (by rw [hdl]; simp; omega)
        refine ⟨by rw [fc_len, hput, hes], .inr ⟨g, c, _, rfl, hbg, hg', hroom, hcm, ?_, ?_⟩⟩
        · rw [List.size_toArray, length_splice _ _ _ (by rw [length_splice _ _ _ (by rw [hdl]; simp; omega)]; simp [fc_len]; omega), length_splice _ _ _ (by rw [hdl]; simp; omega)]
          simpa using hcs
        · rw [hsp]
          have := put_take (es := es) (i := i) (e := e) (R := cur.toList.drop (i * 3 + 3 + (fc (es.drop i)).length)) (X := cur.toList.take (i * 3)) (by omega) (by rw [← fc_take, ← hct, List.take_take, Nat.min_eq_left (by omega)])
          rw [hes] at this
          exact this
      · refine (insert_grow g n c i vb cur.toList es e w hg (by simpa using hcs) hct hes hv (by omega) hnc (by omega) hn).mono ?_
        rintro r w' ⟨G, row, rfl, hG1, hG2, hRl, hRt, hg', hb⟩
        refine ⟨⟨hb.os, hb.tape, hb.output, hb.size, fun k hk _ => hb.block k hk⟩, some ⟨w.heap.size, 0, none⟩, G, by rw [hput, hes], ?_⟩
        rw [hput, hes]
        have hdl : (fc (es.drop i)).length = (n - i) * 3 := by rw [fc_len, List.length_drop, hes]
        obtain ⟨R, hsp⟩ := splice_out row (fc (es.drop i)) (fc [e]) (i * 3) rfl (by rw [hdl, hRl]; omega)
        rw [show (i + 1) * 3 = i * 3 + 3 by omega] at hg'
        refine ⟨by rw [fc_len, hput, hes], .inr ⟨w.heap.size, G, _, rfl, hbase, hg', hG1, hG2, ?_, ?_⟩⟩
        · rw [List.size_toArray, length_splice _ _ _ (by rw [length_splice _ _ _ (by rw [hRl]; simp [fc_len]; omega), hdl, hRl]; omega), length_splice _ _ _ (by rw [hRl]; simp [fc_len]; omega)]
          exact hRl
        · rw [hsp]
          have := put_take (es := es) (i := i) (e := e) (R := R) (X := row.take (i * 3)) (by omega) hRt
          rw [hes] at this
          exact this
end Go.Proofs.Ytdpmlpclhojcjaa
