/-
  The walk of BoxTurns. No condition but that the numbers are of 64 bits.
-/
import Derived.Test.YtoadileebdejbaaLawD
import Derived.Deep.RegionLaw
import Derived.Deep.Cut
namespace Go.Proofs.Ytoadileebdejbaa
open Go.RowKit Go.Sort
set_option linter.unusedVariables false

theorem mc_drop (l : List Ms) (k : Nat) : mc (l.drop k) = (mc l).drop (k * 2) := by
  induction l generalizing k with
  | nil => simp [mc]
  | cons m r ih =>
    cases k with
    | zero => simp
    | succ k =>
      have e : (k + 1) * 2 = k * 2 + 1 + 1 := by omega
      rw [e, List.drop_succ_cons, ih]
      show _ = List.drop (k * 2 + 1 + 1) (Value.int .i64 m.1 :: Value.int .i64 m.2 :: mc r)
      rw [List.drop_succ_cons, List.drop_succ_cons]
theorem mc_take (l : List Ms) (k : Nat) : mc (l.take k) = (mc l).take (k * 2) := by
  induction l generalizing k with
  | nil => simp [mc]
  | cons m r ih =>
    cases k with
    | zero => simp [mc]
    | succ k =>
      have e : (k + 1) * 2 = k * 2 + 1 + 1 := by omega
      rw [e, List.take_succ_cons]
      show Value.int .i64 m.1 :: Value.int .i64 m.2 :: mc (r.take k) = List.take (k * 2 + 1 + 1) (Value.int .i64 m.1 :: Value.int .i64 m.2 :: mc r)
      rw [List.take_succ_cons, List.take_succ_cons, ih]

/-- l[k:] -/
theorem cutM_l (A : Option Addr) (n c k : Nat) (hk : k ≤ n) (hc : n ≤ c) :
    ∃ A', (∀ W, (Instr.slice 22 (.slice A n c) (some (.int .i64 (k : Int))) none none).run Try.prog W = .ok (.slice A' (n - k) (c - k)) W) ∧
      ∀ (w : World) (B : Nat) (l : List Ms), Lies w B 2 A n (mc l) → Lies w B 2 A' (n - k) (mc (l.drop k)) := by
  refine ⟨if c = k then A else A.map (·.add (k * 2)), fun W => ?_, fun w B l h => ?_⟩
  · rw [run_slice_l W 22 A n c (by kernel_rfl) .i64 k (by omega) (by omega)]
    have hz : ∀ W, (sizeOf (Try.prog.elem 22)).run Try.prog W = .ok 2 W := fun W => by kernel_rfl
    simp [hz, sliced, Result.andThen]
  · have hl := h.ms_len
    refine ⟨by rw [mc_length, List.length_drop]; omega, fun j u hu => ?_⟩
    rw [mc_drop, List.getElem?_drop] at hu
    obtain ⟨ad, rfl, hb, hcell⟩ := h.2 _ u hu
    have hj := (List.getElem?_eq_some_iff.1 hu).1
    rw [mc_length] at hj
    rw [if_neg (by omega)]
    exact ⟨ad.add (k * 2), rfl, by rw [block_add]; exact hb, by rw [add_add]; exact hcell⟩
/-- l[:k] -/
theorem cutM_h (A : Option Addr) (n c k : Nat) (hk : k ≤ n) (hc : n ≤ c) :
    ∃ A', (∀ W, (Instr.slice 22 (.slice A n c) none (some (.int .i64 (k : Int))) none).run Try.prog W = .ok (.slice A' k c) W) ∧
      ∀ (w : World) (B : Nat) (l : List Ms), Lies w B 2 A n (mc l) → Lies w B 2 A' k (mc (l.take k)) := by
  refine ⟨if c = 0 then A else A.map (·.add (0 * 2)), fun W => ?_, fun w B l h => ?_⟩
  · rw [run_slice_h W 22 A n c (by kernel_rfl) .i64 k (by omega) (by omega)]
    have hz : ∀ W, (sizeOf (Try.prog.elem 22)).run Try.prog W = .ok 2 W := fun W => by kernel_rfl
    simp [hz, sliced, Result.andThen]
  · have hl := h.ms_len
    refine ⟨by rw [mc_length, List.length_take]; omega, fun j u hu => ?_⟩
    rw [mc_take, List.getElem?_take] at hu
    split at hu
    · obtain ⟨ad, rfl, hb, hcell⟩ := h.2 _ u hu
      have hj := (List.getElem?_eq_some_iff.1 hu).1
      rw [mc_length] at hj
      rw [if_neg (by omega)]
      exact ⟨ad.add (0 * 2), rfl, by rw [block_add]; exact hb, by rw [add_add, Nat.zero_mul, Nat.zero_add]; exact hcell⟩
    · cases hu

theorem step_run {P : Program} {ops : Array Oper} {o : Oper} {a : Act} {w : World} {K : Act → World → Prop} {Q : Exit → Act → World → Prop} {E : Prop}
    (hg : o.guard = none) (d x : Operand) (dT sT : TypeId) (hop : o.op = Op.call { callee := Callee.builtin Builtin.append, args := #[d, x], argTypes := #[dT, sT] })
    (v u : Value) (hd : a.eval d = v) (hx : a.eval x = u) {v' : Value} {w' : World} (hr : (Builtin.append_ #[dT, sT] o.type #[v, u]).run P w = .ok v' w') (hK : K (a.put o.dst v') w') :
    if Region.wanted o (yielded ops a.tmps) = true then Oper.wp P o a w K Q else E := by
  have hw : Region.wanted o (yielded ops a.tmps) = true := by simp [Region.wanted, hg]
  rw [if_pos hw]
  unfold Oper.wp
  simp [execOp, hop, resolve, invoke, builtin, hd, hx, hr, Result.andThen]
  exact hK
/-- append onto a row of the call's own, in a region that draws its order. -/
theorem step_own {ops : Array Oper} {o : Oper} {a : Act} {w : World} {K : Act → World → Prop} {Q : Exit → Act → World → Prop} {E : Prop}
    (hg : o.guard = none) (d x : Operand) (hop : o.op = Op.call { callee := Callee.builtin Builtin.append, args := #[d, x], argTypes := #[22, 22] })
    (base : Nat) (A : Option Addr) (n c : Nat) (l : List Ms) (hd : a.eval d = .slice A n c) (hown : w.ownsRow base 40 2 (.slice A n c) n (mc l))
    (B : Nat) (A2 : Option Addr) (m c2 : Nat) (l2 : List Ms) (hx : a.eval x = .slice A2 m c2) (hl : Lies w B 2 A2 m (mc l2)) (hn : n ≤ 1000000) (hm : m ≤ 1000000) (hb : base ≤ w.heap.size)
    (h : ∀ A' c' w', w'.ownsRow base 40 2 (.slice A' (n + m) c') (n + m) (mc (l ++ l2)) → Below base w w' → K (a.put o.dst (.slice A' (n + m) c')) w') :
    if Region.wanted o (yielded ops a.tmps) = true then Oper.wp Try.prog o a w K Q else E := by
  obtain ⟨i0, hi0, hz0, hzs, hzb⟩ := info_parts (show (Try.prog.info? 40).map (fun i => (i.zero, i.size, i.bytes)) = some (some (.agg #[.int .i64 0, .int .i64 0]), 2, 16) by kernel_rfl)
  obtain ⟨A', c', w', hr, h2, h3, _, _⟩ := run_app (P := Try.prog) w base 22 o.type 40 i0 _ 2 16 Try.underlying22 hi0 hz0 hzs hzb rfl (by decide) A n c (mc l) hown B A2 m c2 (mc l2) hl (mc_one _) (by unfold maxLen; omega) (by omega) hb
  rw [← mc_append] at h2
  exact step_run hg d x 22 22 hop _ _ hd hx hr (h A' c' w' h2 h3)

theorem turn_at (at' : Int) (n : Nat) (h : 0 < n) (hn : n ≤ 300) : ∃ k : Nat, k < n ∧ wrap64 ((IntKind.u64.wrap at').tmod (n : Int)) = (k : Int) := by
  have h0 : 0 ≤ IntKind.u64.wrap at' := by rw [IntKind.wrap_u64]; omega
  obtain ⟨u, hu⟩ := Int.eq_ofNat_of_zero_le h0
  refine ⟨u % n, Nat.mod_lt _ h, ?_⟩
  have e : (u : Int).tmod (n : Int) = ((u % n : Nat) : Int) := by rw [Int.ofNat_tmod]
  have := Nat.mod_lt u h
  rw [hu]
  show wrap64 ((u : Int).tmod (n : Int)) = _
  rw [e]
  generalize u % n = q at *
  unfold wrap64
  omega

/-- Two change places. -/
def swL (D : List Ms) (i j : Nat) : List Ms := (D.set i (mAt D j)).set j (mAt D i)
theorem swL_perm (D : List Ms) (i j : Nat) (hi : i < D.length) (hj : j < D.length) : (swL D i j).Perm D := by
  have := (Go.Sort.swp_permIn (α := Ms) D.toArray 0 D.length i j (Nat.zero_le _) hi (Nat.zero_le _) hj (by simp)).2.2
  have e : (swp D.toArray i j).toList = swL D i j := by
    unfold swp swL
    rw [mAt_get D i hi, mAt_get D j hj]
    simp [getElem!_pos, hi, hj]
  have s1 : (swp D.toArray i j).size = D.length := by simp [swp]
  rw [show (swp D.toArray i j).extract 0 D.length = swp D.toArray i j by rw [← s1]; simp, show D.toArray.extract 0 D.length = D.toArray by simp, e] at this
  simpa using this
theorem turn_perm (l : List Ms) (k : Nat) : (l.drop k ++ l.take k).Perm l := by
  have := List.perm_append_comm (l₁ := l.drop k) (l₂ := l.take k)
  rwa [List.take_append_drop] at this

/-- All that an exchange asks and leaves. -/
theorem own_turn {W : World} {base g n c : Nat} {D : List Ms} {x y : Ms} {i j : Nat} (h : W.ownsRow base 40 2 (.slice (some ⟨g, 0, none⟩) n c) n (mc D)) (hi : i < n) (hj : j < n) (hij : i < j) (hx : x = mAt D i) (hy : y = mAt D j) :
    W.cell? ⟨g, j * 2, none⟩ = some (.int .i64 y.1) ∧ W.cell? ⟨g, j * 2 + 1, none⟩ = some (.int .i64 y.2) ∧ W.cell? ⟨g, i * 2, none⟩ = some (.int .i64 x.1) ∧
    (W.frozen? ⟨g, i * 2, none⟩ = false ∧ W.frozen? ⟨g, i * 2 + 1, none⟩ = false ∧ W.frozen? ⟨g, j * 2, none⟩ = false ∧ W.frozen? ⟨g, j * 2 + 1, none⟩ = false) ∧
    (W.setCell ⟨g, i * 2, none⟩ (.int .i64 y.1)).cell? ⟨g, i * 2 + 1, none⟩ = some (.int .i64 x.2) ∧
    ((W.setCell ⟨g, i * 2, none⟩ (.int .i64 y.1)).setCell ⟨g, i * 2 + 1, none⟩ (.int .i64 y.2)).cell? ⟨g, j * 2, none⟩ = some (.int .i64 y.1) ∧
    (((W.setCell ⟨g, i * 2, none⟩ (.int .i64 y.1)).setCell ⟨g, i * 2 + 1, none⟩ (.int .i64 y.2)).setCell ⟨g, j * 2, none⟩ (.int .i64 x.1)).cell? ⟨g, j * 2 + 1, none⟩ = some (.int .i64 y.2) ∧
    ((((W.setCell ⟨g, i * 2, none⟩ (.int .i64 y.1)).setCell ⟨g, i * 2 + 1, none⟩ (.int .i64 y.2)).setCell ⟨g, j * 2, none⟩ (.int .i64 x.1)).setCell ⟨g, j * 2 + 1, none⟩ (.int .i64 x.2)).ownsRow base 40 2 (.slice (some ⟨g, 0, none⟩) n c) n (mc (swL D i j)) := by
  obtain ⟨p0, p1⟩ := own_cell h i hi
  obtain ⟨q0, q1⟩ := own_cell h j hj
  rw [← hx] at p0 p1
  rw [← hy] at q0 q1
  have ne : ∀ (X : World) (o o' : Nat) (v : Value), o ≠ o' → (X.setCell ⟨g, o, none⟩ v).cell? ⟨g, o', none⟩ = X.cell? ⟨g, o', none⟩ := fun X o o' v hne => World.cell?_setCell_other _ _ _ _ (by simp)
  refine ⟨q0, q1, p0, ⟨h.frozenAt _, h.frozenAt _, h.frozenAt _, h.frozenAt _⟩, (ne _ _ _ _ (by omega)).trans p1, (ne _ _ _ _ (by omega)).trans ((ne _ _ _ _ (by omega)).trans q0), (ne _ _ _ _ (by omega)).trans ((ne _ _ _ _ (by omega)).trans ((ne _ _ _ _ (by omega)).trans q1)), ?_⟩
  have := own_store (own_store h i y.1 y.2) j x.1 x.2
  rw [show ((x.1, x.2) : Ms) = x from rfl, show ((y.1, y.2) : Ms) = y from rfl] at this
  unfold swL
  rw [← hx, ← hy]
  exact this

def TuRel (l : List Ms) (g c : Nat) (w : World) (i : Value) (W : World) : Prop :=
  ∃ (k : Nat) (D : List Ms), i = .int .i64 k ∧ k ≤ l.length / 2 ∧ Hid (D.Perm l) ∧ Hid (W.ownsRow w.heap.size 40 2 (.slice (some ⟨g, 0, none⟩) l.length c) l.length (mc D)) ∧ Hid (Below w.heap.size w W)

set_option maxHeartbeats 4000000 in
theorem turns_walk (p : Int) (A : Option Addr) (n c : Nat) (l : List Ms) (at' : Int) (w : World) (hA : Lies w w.heap.size 2 A n (mc l)) (hnc : n ≤ c) (hbd : ∀ e ∈ l, bd e.2) :
    Calls Try.prog 9 #[.int .i64 p, .slice A n c, .int .i64 at'] w fun e w' => e = .returned (.bool true) ∧ Below w.heap.size w w' := by
  have mixed : Try.prog.follows .mixedOrders = true := by kernel_rfl
  obtain rfl := hA.ms_len
  have HA := Lib.hid hA
  have HBD := Lib.hid hbd
  clear hA hbd
  by_cases hg : 300 < l.length
  · have HG := Lib.hid (show decide (300 < l.length) = true from decide_eq_true hg)
    clear hg
    go_enter Try.func9, Try.ntmps9
    go_wp2_with fail
    refine (great_any A l.length c _).mono ?_
    rintro e w1 ⟨rfl, rfl⟩
    rw [HG.out]
    go_wp2_with fail
    refine (knows_any _).mono ?_
    rintro e w2 ⟨rfl, hb2⟩
    have HB2 := Lib.hid hb2
    clear hb2
    go_wp2_with fail
    go_ret
    exact ⟨rfl, HB2.out⟩
  have HG := Lib.hid (show decide (300 < l.length) = false from decide_eq_false hg)
  have hn : l.length ≤ 300 := by omega
  clear hg
  by_cases h0 : l.length = 0
  · have h0' : ((l.length : Int) == 0) = true := by simp [h0]
    have H0 := Lib.hid h0
    clear h0
    go_enter Try.func9, Try.ntmps9
    go_wp2_with fail
    refine (great_any A l.length c _).mono ?_
    rintro e w1 ⟨rfl, rfl⟩
    rw [HG.out]
    go_wp2_with fail
    refine (knows_any _).mono ?_
    rintro e w2 ⟨rfl, hb2⟩
    have HB2 := Lib.hid hb2
    clear hb2
    go_wp2_with fail
    go_ret
    exact ⟨rfl, HB2.out⟩
  have h0' : ((l.length : Int) == 0) = false := beq_eq_false_iff_ne.2 (by omega)
  go_enter Try.func9, Try.ntmps9
  go_wp2_with fail
  refine (great_any A l.length c _).mono ?_
  rintro e w1 ⟨rfl, rfl⟩
  rw [HG.out]
  obtain ⟨k, hk, hke⟩ := turn_at at' l.length (by omega) hn
  obtain ⟨A1, hr1, hl1⟩ := cutM_l A l.length c k (by omega) hnc
  obtain ⟨A2, hr2, hl2⟩ := cutM_h A l.length c k (by omega) hnc
  have HL1 := Lib.hid (hl1 w.drew w.heap.size l (show Lies w.drew w.heap.size 2 A l.length (mc l) from HA.out))
  have HL2 := Lib.hid (hl2 w.drew w.heap.size l (show Lies w.drew w.heap.size 2 A l.length (mc l) from HA.out))
  have HC3 : Hid (Calls Try.prog 14 #[.slice A1 (l.length - k) (c - k)] w.drew fun e w' => ∃ A3 c3, e = .returned (.slice A3 (l.length - k) c3) ∧ w'.ownsRow w.heap.size 40 2 (.slice A3 (l.length - k) c3) (l.length - k) (mc (l.drop k)) ∧ Below w.heap.size w.drew w') := by
    have h := own_any A1 (l.length - k) (c - k) (l.drop k) w.drew HL1.out (by omega)
    unfold MsPost at h
    rw [List.length_drop] at h
    exact h
  clear hl1 hl2
  go_wp2_with fail
  go_region_law (first | (refine step_own rfl _ _ rfl w.heap.size A3 (l.length - k) c3 (l.drop k) (by simp [Act.eval]) ho3 w.heap.size A2 k c (l.take k) (by simp [Act.eval]) (HL2.out.below hb3) (by omega) (by omega) hb3.size ?_; intro A4 c4 w4 ho4 hb4) | (go_simp; go_at_call 14; refine HC3.out.mono ?_; rintro e w3 ⟨A3, c3, rfl, ho3, hb3⟩))
  have el : l.length - k + k = l.length := by omega
  rw [el] at ho4 ⊢
  obtain ⟨g, rfl, hg1, _⟩ := own_some ho4 (by omega)
  have HO4 := Lib.hid ho4
  have HB4 := Lib.hid ((show Below w.heap.size w w3 from ⟨hb3.os, hb3.tape, hb3.output, hb3.size, hb3.block⟩).trans hb4)
  have HP4 := Lib.hid (turn_perm l k)
  have hke' := Lib.hid hke
  clear ho3 ho4 hb3 hb4 HL1 HL2 HC3 hr1 hr2 el hke
  go_wp2_with fail
  go_loopw [9] (fun i W => TuRel l g c4 w i W) (fun i W => l.length - (intOf i).toNat)
  case atStart => exact ⟨0, l.drop k ++ l.take k, rfl, Nat.zero_le _, HP4, HO4, HB4⟩
  case round =>
    clear HP4 HO4 HB4
    obtain ⟨i, D, rfl, hi, HP, HO, HB⟩ := hrel
    by_cases hlt : i < l.length / 2
    · have hjl : l.length - 1 - i < l.length := by omega
      have hij : i < l.length - 1 - i := by omega
      obtain ⟨x, hx⟩ : ∃ x, x = mAt D i := ⟨_, rfl⟩
      obtain ⟨y, hy⟩ : ∃ y, y = mAt D (l.length - 1 - i) := ⟨_, rfl⟩
      obtain ⟨x0, x1⟩ := own_cell HO.out i (by omega)
      rw [← hx] at x0 x1
      have hO := own_next HO.out (below_alloc wr (.cells #[.int .i64 x.1, .int .i64 x.2] 40))
      have hB := HB.out.alloc HB.out.size (.cells #[.int .i64 x.1, .int .i64 x.2] 40)
      have hgw : g < wr.heap.size := (HO.out.lt g rfl).2
      obtain ⟨c1, c2, c3', ⟨f1, f2, f3, f4⟩, c5, c6, c7, c8⟩ := own_turn hO (by omega) hjl hij hx hy
      have hb0 : (wr.alloc (.cells #[.int .i64 x.1, .int .i64 x.2] 40)).cell? ⟨wr.heap.size, 0, none⟩ = some (.int .i64 x.1) := by simp [go_sem]
      have hb1 : (wr.alloc (.cells #[.int .i64 x.1, .int .i64 x.2] 40)).cell? ⟨wr.heap.size, 1, none⟩ = some (.int .i64 x.2) := by simp [go_sem]
      have npa : ¬ g = wr.heap.size := by omega
      have HP2 := Lib.hid ((swL_perm D i (l.length - 1 - i) (by rw [own_len HO.out]; omega) (by rw [own_len HO.out]; omega)).trans HP.out)
      have HO2 := Lib.hid c8
      have HB2 := Lib.hid ((((hB.setCell (p := ⟨g, i * 2, none⟩) hg1 (.int .i64 y.1)).setCell (p := ⟨g, i * 2 + 1, none⟩) hg1 (.int .i64 y.2)).setCell (p := ⟨g, (l.length - 1 - i) * 2, none⟩) hg1 (.int .i64 x.1)).setCell (p := ⟨g, (l.length - 1 - i) * 2 + 1, none⟩) hg1 (.int .i64 x.2))
      have z0 : (((wr.alloc (.cells #[.int .i64 x.1, .int .i64 x.2] 40)).setCell ⟨g, i * 2, none⟩ (.int .i64 y.1)).setCell ⟨g, i * 2 + 1, none⟩ (.int .i64 y.2)).cell? ⟨wr.heap.size, 0, none⟩ = some (.int .i64 x.1) := (World.cell?_setCell_other _ _ _ _ (by simp <;> omega)).trans ((World.cell?_setCell_other _ _ _ _ (by simp <;> omega)).trans hb0)
      have z1 : (((wr.alloc (.cells #[.int .i64 x.1, .int .i64 x.2] 40)).setCell ⟨g, i * 2, none⟩ (.int .i64 y.1)).setCell ⟨g, i * 2 + 1, none⟩ (.int .i64 y.2)).cell? ⟨wr.heap.size, 1, none⟩ = some (.int .i64 x.2) := (World.cell?_setCell_other _ _ _ _ (by simp <;> omega)).trans ((World.cell?_setCell_other _ _ _ _ (by simp <;> omega)).trans hb1)
      have hiz : (i : Int) < (l.length : Int) / 2 := by omega
      have hil : (i : Int) < (l.length : Int) := by omega
      clear hx hy c8 hO hB
      go_upto_region 9 with fail
      generalize wr.alloc (.cells #[.int .i64 x.1, .int .i64 x.2] 40) = W2 at c1 c2 c3' f1 f2 f3 f4 c5 c6 c7 hb0 hb1 HO2 HB2 z0 z1 ⊢
      generalize wr.heap.size = bm at hb0 hb1 z0 z1 npa ⊢
      go_wp2_with fail
      go_roundw
      case rel => exact ⟨i + 1, swL D i (l.length - 1 - i), by go_num, by omega, HP2, HO2, HB2⟩
      case measure => simp [intOf]; omega
    · have hiz : ¬ (i : Int) < (l.length : Int) / 2 := by omega
      obtain ⟨w5, hw5⟩ : ∃ x, x = wr := ⟨_, rfl⟩
      subst hw5
      have HF := Lib.hid (fd_of (p := p) (l := D) (l' := l) (by rw [msort_of HP.out]))
      have HL5 := Lib.hid (Lies.of_own HO.out)
      have HDB := Lib.hid (show ∀ e ∈ D, bd e.2 from fun e he => HBD.out e (HP.out.mem_iff.1 he))
      have HC5 := Lib.hid (own_any A l.length c l w5 (HA.out.next HB.out) (by omega))
      go_wp2_with fail
      refine HC5.out.mono ?_
      rintro e w6 ⟨A6, c6, rfl, ho6, hb6⟩
      have HL6 := Lib.hid (HL5.out.next hb6)
      have HB6 := Lib.hid (HB.out.trans (hb6.mono HB.out.size))
      have HC6 := Lib.hid (fdf_any p A6 l.length c6 l w6 (Lies.of_own ho6) (by omega) HBD.out)
      clear ho6 hb6 HC5 HL5
      go_wp2_with fail
      refine HC6.out.mono ?_
      rintro e w7 ⟨A7, c7, rfl, ho7, hb7⟩
      have HO7 := Lib.hid ho7
      have HB7 := Lib.hid (HB6.out.trans (hb7.mono HB6.out.size))
      have hc := fdf_any p (some ⟨g, 0, none⟩) l.length c4 D w7 (HL6.out.next hb7) (by omega) HDB.out
      rw [HF.out.1, HF.out.2] at hc
      have HC7 := Lib.hid hc
      have hrl := fdR_len p l
      clear hc ho7 hb7 HC6 HL6 HB6
      go_wp2_with fail
      refine HC7.out.mono ?_
      rintro e w8 ⟨A8, c8, rfl, ho8, hb8⟩
      have hc := sameM_any A7 _ c7 (fdR p l) A8 _ c8 (fdR p l) w8 ((Lies.of_own HO7.out).next hb8) (Lies.of_own ho8) (by omega) (by omega)
      rw [show decide (fdR p l = fdR p l) = true from decide_eq_true rfl] at hc
      have HC8 := Lib.hid hc
      have HB8 := Lib.hid (HB7.out.trans (hb8.mono HB7.out.size))
      clear hc ho8 hb8 HC7 HO7 HB7
      generalize fdC p l = ec at *
      go_wp2_with fail
      refine HC8.out.mono ?_
      rintro e w9 ⟨rfl, hb9⟩
      have HB9 := Lib.hid (HB8.out.trans (hb9.mono HB8.out.size))
      clear hb9 HC8
      go_wp2_with fail
      refine (knows_any _).mono ?_
      rintro e w10 ⟨rfl, hb10⟩
      have HB10 := Lib.hid (HB9.out.trans (hb10.mono HB9.out.size))
      clear hb10
      go_wp2_with fail
      go_ret
      exact ⟨rfl, HB10.out⟩

end Go.Proofs.Ytoadileebdejbaa
