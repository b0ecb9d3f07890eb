import Derived.Test.YtdpmlpclhojcjaaEg
import Derived.Laws.OwnMore
/-
  The contract of slices.Delete of one file of a row of the call's own. Conditions: as each states.
-/
namespace Go.Proofs.Ytdpmlpclhojcjaa
open Go.RowKit
set_option linter.unusedVariables false

theorem list_clear {P : Program} (w : World) {ops : Array Oper} {rest : List Oper} {o : Oper} {a : Act} {Q : Exit → Act → World → Prop} (hgd : o.guard = none) (s : Operand) (t : TypeId)
    (ho : o.op = .call { callee := .builtin .clear, args := #[s], argTypes := #[t] }) (v : Value) (hs : a.eval s = v) {v' : Value} {w' : World}
    (hr : (Builtin.clear_ #[t] o.type #[v]).run P w = .ok v' w') (h : wpList P ops Q rest (a.put o.dst v') w') : wpList P ops Q (o :: rest) a w := by
  refine wpList_plain hgd fun K hK => ?_
  unfold Oper.wp execOp
  simp only [ho, resolve, invoke, builtin, Sem.run_bind, Sem.run_pure, Result.andThen_ok, List.map_toArray, List.map_cons, List.map_nil, hs, hr]
  exact hK _ _ h
/-- s[k:] of files: its address. -/
def adr (g c k : Nat) : Addr := if c = k then ⟨g, 0, none⟩ else ⟨g, k * 3, none⟩
theorem size53 : ∀ W, (sizeOf (Try.prog.elem 22)).run Try.prog W = .ok 3 W := by
  intro W
  rw [show Try.prog.elem 22 = 53 by kernel_rfl]
  exact Try.sizeOf53 W
theorem under22 : Try.prog.underlying 22 = some (.slice (Try.prog.elem 22)) := by kernel_rfl
theorem cut22_h (g n c i : Nat) (hi : i ≤ c) (W : World) : (Instr.slice 22 (.slice (some ⟨g, 0, none⟩) n c) none (some (.int .i64 i)) none).run Try.prog W = .ok (.slice (some ⟨g, 0, none⟩) i c) W := by
  rw [run_slice_h W 22 _ n c under22 .i64 i (by omega) (by omega)]
  simp [size53, sliced, Result.andThen, Addr.add]
theorem cut22_l (g n c k : Nat) (hk : k ≤ n) (hc : n ≤ c) (W : World) : (Instr.slice 22 (.slice (some ⟨g, 0, none⟩) n c) (some (.int .i64 k)) none none).run Try.prog W = .ok (.slice (some (adr g c k)) (n - k) (c - k)) W := by
  rw [run_slice_l W 22 _ n c under22 .i64 k (by omega) (by omega)]
  unfold adr
  by_cases h : c = k
  · simp [size53, sliced, Result.andThen, h]
  · by_cases h0 : k = 0
    · subst h0; simp [size53, sliced, Result.andThen, h, Addr.add]
    · simp [size53, sliced, Result.andThen, h, Addr.add]; omega
theorem cut22_lh (g n c k m : Nat) (hk : k ≤ m) (hm : m ≤ c) (hkc : k < c) (n' : Nat) (W : World) : (Instr.slice 22 (.slice (some ⟨g, 0, none⟩) n c) (some (.int .i64 k)) (some (.int .i64 m)) none).run Try.prog W = .ok (.slice (some ⟨g, k * 3, none⟩) (m - k) (c - k)) W := by
  rw [run_slice_lh W 22 _ n c under22 .i64 .i64 k m (by omega) (by omega) (by omega)]
  by_cases h0 : k = 0
  · subst h0; simp [size53, sliced, Result.andThen, Addr.add, show ¬ c = 0 by omega]
  · simp [size53, sliced, Result.andThen, show ¬ c = k by omega, Addr.add]; omega
theorem cut22_lhm (g n c i : Nat) (hi : i < n) (hc : n ≤ c) (W : World) : ∃ v, (Instr.slice 22 (.slice (some ⟨g, 0, none⟩) n c) (some (.int .i64 i)) (some (.int .i64 ((i : Int) + 1))) (some (.int .i64 n))).run Try.prog W = .ok v W := by
  rw [run_slice_lhm W 22 _ n c under22 .i64 .i64 .i64 i ((i : Int) + 1) n (by omega) (by omega) (by omega) (by omega)]
  exact ⟨_, by simp [size53, Result.andThen]; rfl⟩
/-- The cells of a file of nothing. -/
def zc : List Value := [.string ⟨#[]⟩, .slice none 0 0, .int .i64 0]
set_option maxHeartbeats 2000000 in
set_option maxRecDepth 100000 in
theorem delete_any (base g n c i : Nat) (X : List Fe) (w : World) (hown : w.ownsRow base 53 3 (.slice (some ⟨g, 0, none⟩) n c) n (fc X)) (hin : i < n) (hn : n ≤ 80) :
    Calls Try.prog 41 #[.slice (some ⟨g, 0, none⟩) n c, .int .i64 i, .int .i64 ((i : Int) + 1)] w fun r w' => r = .returned (.slice (some ⟨g, 0, none⟩) (n - 1) c) ∧ w'.ownsRow base 53 3 (.slice (some ⟨g, 0, none⟩) (n - 1) c) (n - 1) (fc (X.take i ++ X.drop (i + 1))) ∧ w.grownBy w' (some g) := by
  obtain ⟨i0, hi0, hz0, hzs, hzb⟩ := info_parts (show (Try.prog.info? 53).map (fun i => (i.zero, i.size, i.bytes)) = some (some (.agg #[.string ⟨#[]⟩, .slice none 0 0, .int .i64 0]), 3, 48) by kernel_rfl)
  have hes : X.length = n := by have := hown.1; rw [fc_len] at this; omega
  rcases hown.2 with ⟨hv, _⟩ | ⟨g', cap, cur, hv, hbg, hg, hnc, hcm, hcs, hct⟩
  · cases hv
  injection hv with e1 e2 e3
  injection e1 with e1
  injection e1 with e1
  subst e1 e3
  have hown1 : w.drew.ownsRow base 53 3 (.slice (some ⟨g, 0, none⟩) i c) i (fc (X.take i)) := by
    refine ⟨by rw [fc_len, List.length_take]; omega, .inr ⟨g, c, cur, rfl, hbg, hg, by omega, hcm, hcs, ?_⟩⟩
    rw [← fc_take, ← hct, List.take_take, Nat.min_eq_left (by omega)]
  have hdl : (fc (X.drop (i + 1))).length = (n - (i + 1)) * 3 := by rw [fc_len, List.length_drop, hes]
  have hsrc : ∀ j u, (fc (X.drop (i + 1)))[j]? = some u → w.drew.cell? ((adr g c (i + 1)).add j) = some u := by
    intro j u hj
    have hjl := (List.getElem?_eq_some_iff.1 hj).1
    have hne : ¬ c = i + 1 := by omega
    unfold adr
    rw [if_neg hne]
    have : (⟨g, (i + 1) * 3, none⟩ : Addr).add j = ⟨g, (i + 1) * 3 + j, none⟩ := by unfold Addr.add; split <;> simp_all
    rw [this, cell_of_row w.drew g _ cur 53 (0, 0) hg]
    rw [← fc_drop, List.getElem?_drop, ← hct, List.getElem?_take] at hj
    split at hj
    · simpa using hj
    · cases hj
  obtain ⟨w1, hr1, ho1, hg1⟩ := run_append_fits (P := Try.prog) w.drew base 22 22 53 i0 3 Try.underlying22 hi0 hzs g i c (fc (X.take i)) hown1 (adr g c (i + 1)) (n - (i + 1)) (c - (i + 1)) (fc (X.drop (i + 1))) hdl hsrc (fc_one _) (by omega)
  have hni : i + (n - (i + 1)) = n - 1 := by omega
  rw [hni] at hr1 ho1
  rw [← fc_app] at ho1
  rcases ho1.2 with ⟨hv, _⟩ | ⟨g', cap, cur1, hv, _, hh1, _, _, hcs1, hct1⟩
  · cases hv
  injection hv with e1 e2 e3
  injection e1 with e1
  injection e1 with e1
  subst e1 e3
  have hst := run_storeCells_at Try.prog g ((n - 1) * 3) 53 zc 0 cur1 w1 hh1 (by show (n - 1) * 3 + 0 + 3 ≤ cur1.size; omega) (by intro u hu; simp [zc] at hu; rcases hu with rfl | rfl | rfl <;> rfl)
  obtain ⟨w2, hw2⟩ : ∃ w2, w2 = w1.setRow g (cur1.toList.take ((n - 1) * 3 + 0) ++ zc ++ cur1.toList.drop ((n - 1) * 3 + 0 + zc.length)).toArray := ⟨_, rfl⟩
  rw [← hw2] at hst
  have hr2 : ∀ ty, (Builtin.clear_ #[22] ty #[.slice (some ⟨g, (n - 1) * 3, none⟩) (n - (n - 1)) (c - (n - 1))]).run Try.prog w1 = .ok (.tuple #[]) w2 := fun ty => by
    rw [show n - (n - 1) = 1 by omega]
    have hzc : (Builtin.zeroCells (Value.agg #[.string ⟨#[]⟩, .slice none 0 0, .int .i64 0]).cells 1).toList = zc := by simp [Builtin.zeroCells, Value.cells, zc, List.range_succ]
    simp [Builtin.clear_, run_underlying Try.underlying22, zeroValue, typeInfo, hi0, hz0, hzc, hst]
  have hrow2 : w2.heap[g]? = some (.cells (cur1.toList.take ((n - 1) * 3 + 0) ++ zc ++ cur1.toList.drop ((n - 1) * 3 + 0 + zc.length)).toArray 53 (0, 0)) := by rw [hw2]; exact setRow_heap w1 g _ _ 53 _ hh1
  have HO2 := Lib.hid (show w2.ownsRow base 53 3 (.slice (some ⟨g, 0, none⟩) (n - 1) c) (n - 1) (fc (X.take i ++ X.drop (i + 1))) by
    refine ⟨ho1.1, .inr ⟨g, c, _, rfl, hbg, hrow2, by omega, hcm, ?_, ?_⟩⟩
    · simp only [List.size_toArray, List.length_append, List.length_take, List.length_drop, Array.length_toList, show zc.length = 3 from rfl]
      omega
    · rw [← hct1]
      simp only [List.append_assoc, Nat.add_zero]
      rw [List.take_append_of_le_length (by rw [List.length_take, Array.length_toList]; omega), List.take_take, Nat.min_self])
  have HG2 := Lib.hid (show w.grownBy w2 (some g) from by
    have h12 : w1.grownBy w2 (some g) := by rw [hw2]; exact ⟨rfl, rfl, rfl, by simp [World.setRow], fun k hk hne => setRow_other w1 g k _ (fun e => hne (by rw [e]))⟩
    exact World.grownBy.trans (a := w) (b := w1) ⟨hg1.os, hg1.tape, hg1.output, hg1.size, hg1.block⟩ h12)
  have hz2 : ((i : Int) == (i : Int) + 1) = false := by rw [beq_eq_false_iff_ne]; omega
  have k1 := cut22_h g n c i (by omega)
  have k2 := cut22_l g n c (i + 1) (by omega) hnc
  have k3 := cut22_lh g (n - 1) c (n - 1) n (by omega) hnc (by omega) 0
  obtain ⟨v4, k4⟩ : ∃ v4, (Instr.slice 22 (.slice (some ⟨g, 0, none⟩) n c) (some (.int .i64 i)) (some (.int .i64 ((i : Int) + 1))) (some (.int .i64 n))).run Try.prog w = .ok v4 w := cut22_lhm g n c i hin hnc w
  rw [show ((i + 1 : Nat) : Int) = (i : Int) + 1 by omega] at k2
  have hn1 : ((n - 1 : Nat) : Int) = (n : Int) - 1 := by omega
  clear hown hown1 hsrc ho1 hg1 hh1 hcs1 hct1 hst hw2 hrow2 hg hcs hct hi0 hz0 hzs hzb hdl hes
  go_enter Try.func41, Try.ntmps41
  go_wp2_with fail
  go_region_law (refine step_app rfl _ _ 22 22 rfl _ _ (by simp [Act.eval, Act.put]) (by simp [Act.eval, Act.put]) hr1 ?_)
  all_goals
    go_wp2_with (at_builtin; refine list_clear _ rfl _ 22 rfl _ rfl (hr2 _) ?_)
    go_ret
    exact ⟨rfl, HO2.out, HG2.out⟩
end Go.Proofs.Ytdpmlpclhojcjaa
