import Derived.Test.YtpgdddjjjfkneaaGreatDoorGa
namespace Go.Proofs.YtpgdddjjjfkneaaGreatDoor
open Go.RowKit
set_option linter.unusedVariables false

theorem ltE_trans {a b c : Ed} (h : ltE a b) (g : ltE b c) : ltE a c := by unfold ltE at *; omega
/-- The edges rise. -/
def Rises (es : List Ed) : Prop := ∀ a b, a < b → b < es.length → ltE (eAt es a) (eAt es b)
def Place (es : List Ed) (e : Ed) (i j : Nat) : Prop := i ≤ j ∧ j ≤ es.length ∧ (∀ k, k < i → ltE (eAt es k) e) ∧ (∀ k, j ≤ k → k < es.length → ¬ ltE (eAt es k) e)
theorem Place.lower {es : List Ed} {e : Ed} {i j h : Nat} (hr : Rises es) (p : Place es e i j) (h1 : i ≤ h) (h2 : h < j) (hc : ltE (eAt es h) e) : Place es e (h + 1) j := by
  obtain ⟨p1, p2, p3, p4⟩ := p
  refine ⟨by omega, p2, fun k hk => ?_, p4⟩
  by_cases hkh : k = h
  · subst hkh; exact hc
  · exact ltE_trans (hr k h (by omega) (by omega)) hc
theorem Place.upper {es : List Ed} {e : Ed} {i j h : Nat} (hr : Rises es) (p : Place es e i j) (h1 : i ≤ h) (h2 : h < j) (hc : ¬ ltE (eAt es h) e) : Place es e i h := by
  obtain ⟨p1, p2, p3, p4⟩ := p
  refine ⟨h1, by omega, p3, fun k hk hkn => ?_⟩
  by_cases hkh : k = h
  · subst hkh; exact hc
  · intro hx
    exact hc (ltE_trans (hr h k (by omega) hkn) hx)
def BsRel (es : List Ed) (e : Ed) (w : World) (vi vj : Value) (W : World) : Prop := ∃ i j : Nat, vi = .int .i64 i ∧ vj = .int .i64 j ∧ Place es e i j ∧ Below w.heap.size w W
def BsPost (es : List Ed) (e : Ed) (w : World) (r : Ending) (w' : World) : Prop :=
  Below w.heap.size w w' ∧ ∃ p : Nat, Place es e p p ∧ ((r = .returned (.tuple #[.int .i64 p, .bool true]) ∧ p < es.length ∧ keyE (eAt es p) e) ∨ (r = .returned (.tuple #[.int .i64 p, .bool false]) ∧ (p < es.length → ¬ keyE (eAt es p) e)))
attribute [local irreducible] wpStill in
set_option maxHeartbeats 1000000 in
set_option maxRecDepth 100000 in
theorem search_any (A : Option Addr) (n c : Nat) (es : List Ed) (e : Ed) (w : World) (hA : Lies w w.heap.size 3 A n (ec es)) (hnc : n ≤ c) (hn : n ≤ 80) (hr : Rises es) :
    Calls Tryz.prog 29 #[.slice A n c, .agg #[.int .i64 e.1, .int .i64 e.2.1, .int .i64 e.2.2], .func (.func 30) #[] #[]] w (BsPost es e w) := by
  obtain rfl := hA.ed_len
  go_enter Tryz.func29, Tryz.ntmps29
  go_wp2_with fail
  go_loopw [9, 10] (fun i j W => BsRel es e w i j W ∧ Below (w.heap.size + 1) (w.alloc (.cells #[.int .i64 e.1, .int .i64 e.2.1, .int .i64 e.2.2] 80)) W) (fun i j W => (intOf j).toNat - (intOf i).toNat)
  case atStart => exact ⟨⟨0, es.length, rfl, rfl, ⟨Nat.zero_le _, Nat.le_refl _, fun k hk => absurd hk (by omega), fun k hk hk2 => absurd hk (by omega)⟩, below_alloc _ _⟩, Below.refl _ _⟩
  case round =>
    obtain ⟨⟨i, j, rfl, rfl, hp, hb⟩, hbb⟩ := hrel
    obtain ⟨h1, h2, -, -⟩ := id hp
    have HP := Lib.hid hp
    have HRI := Lib.hid hr
    clear hp hr
    have c0 : wr.cell? ⟨w.heap.size, 0, none⟩ = some (.int .i64 e.1) := (hbb.cell (p := ⟨w.heap.size, 0, none⟩) (by simp)).trans (by simp [go_sem])
    have c1 : wr.cell? ⟨w.heap.size, 1, none⟩ = some (.int .i64 e.2.1) := (hbb.cell (p := ⟨w.heap.size, 1, none⟩) (by simp)).trans (by simp [go_sem])
    have c2 : wr.cell? ⟨w.heap.size, 2, none⟩ = some (.int .i64 e.2.2) := (hbb.cell (p := ⟨w.heap.size, 2, none⟩) (by simp)).trans (by simp [go_sem])
    have hz : w.heap.size + 1 ≤ wr.heap.size := by have := hbb.size; simpa using this
    have hAr := hA.below hb
    by_cases hlt : i < j
    · obtain ⟨m, hm⟩ : ∃ m : Nat, m = (i + j) / 2 := ⟨_, rfl⟩
      have hm1 : ((i : Int) + (j : Int)) / 2 = (m : Int) := by omega
      have hm2 : i ≤ m := by omega
      have hm3 : m < j := by omega
      have hm4 : m < es.length := by omega
      obtain ⟨ad, rfl, hadb, e0, e1, e2⟩ := hAr.ed m hm4
      have hm5 : (m : Int) < (es.length : Int) := by omega
      clear hm
      go_wp2_with fail
      refine still_tail 6 (by kernel_rfl) (by kernel_rfl) ?_
      simp only [List.take_succ_cons, List.take_zero, List.drop_succ_cons, List.drop_zero]
      iterate 6 still_step
      refine wpStill_nil ?_
      go_wp2_with fail
      refine (compare_any (eAt es m) e _).mono ?_
      rintro r w1 ⟨rfl, hb2⟩
      clear hm1
      have hb3 : Below w.heap.size w w1 := hb.drew.trans (hb2.mono (by have := hb.size; simpa using this))
      have hb4 : Below (w.heap.size + 1) (w.alloc (.cells #[.int .i64 e.1, .int .i64 e.2.1, .int .i64 e.2.2] 80)) w1 := hbb.drew.trans (hb2.mono hz)
      by_cases q : cmpE (eAt es m) e < 0
      · have HQ := Lib.hid (cmpE_neg.1 q)
        go_wp2_with fail
        go_roundw
        case rel => exact ⟨⟨m + 1, j, by go_num, rfl, HP.out.lower HRI.out hm2 hm3 HQ.out, hb3⟩, hb4⟩
        case measure => simp [intOf]; omega
      · have HQ := Lib.hid (fun h => q (cmpE_neg.2 h))
        go_wp2_with fail
        go_roundw
        case rel => exact ⟨⟨i, m, rfl, rfl, HP.out.upper HRI.out hm2 hm3 HQ.out, hb3⟩, hb4⟩
        case measure => simp [intOf]; omega
    · obtain rfl : i = j := by omega
      by_cases hin : i < es.length
      · obtain ⟨ad, rfl, hadb, e0, e1, e2⟩ := hAr.ed i hin
        have hin1 : (i : Int) < (es.length : Int) := by omega
        go_wp2_with fail
        have ab : (ad.add (i * 3)).block < wr.heap.size := by rw [block_add]; omega
        have wb : w.heap.size < wr.heap.size := by omega
        go_region_held3 (fun w' => w'.cell? (ad.add (i * 3)) = some (.int .i64 (eAt es i).1) ∧ w'.cell? ⟨(ad.add (i * 3)).block, (ad.add (i * 3)).off + 1, none⟩ = some (.int .i64 (eAt es i).2.1) ∧ w'.cell? ⟨(ad.add (i * 3)).block, (ad.add (i * 3)).off + 2, none⟩ = some (.int .i64 (eAt es i).2.2) ∧ w'.cell? ⟨w.heap.size, 0, none⟩ = some (.int .i64 e.1) ∧ w'.cell? ⟨w.heap.size, 1, none⟩ = some (.int .i64 e.2.1) ∧ w'.cell? ⟨w.heap.size, 2, none⟩ = some (.int .i64 e.2.2))
          (first | exact ⟨e0, e1, e2, c0, c1, c2⟩ | exact ⟨(hb2.cell ab).trans e0, (hb2.cell (p := ⟨(ad.add (i * 3)).block, (ad.add (i * 3)).off + 1, none⟩) ab).trans e1, (hb2.cell (p := ⟨(ad.add (i * 3)).block, (ad.add (i * 3)).off + 2, none⟩) ab).trans e2, (hb2.cell (p := ⟨w.heap.size, 0, none⟩) wb).trans c0, (hb2.cell (p := ⟨w.heap.size, 1, none⟩) wb).trans c1, (hb2.cell (p := ⟨w.heap.size, 2, none⟩) wb).trans c2⟩)
          (first | ((go_at_call 30); (with_reducible refine (compare_any (eAt es i) e _).mono ?_); rintro r w1 ⟨rfl, hb2⟩))
        have hb3 : Below w.heap.size w w1 := hb.drew.trans (hb2.mono (by have := hb.size; simpa using this))
        by_cases q : cmpE (eAt es i) e = 0
        · have HQ := Lib.hid (cmpE_zero.1 q)
          have q1 : (cmpE (eAt es i) e == 0) = true := by simpa using q
          clear q
          go_wp2_with fail
          go_ret2
          exact ⟨hb3, i, HP.out, .inl ⟨by show Ending.returned (Value.tuple #[.int .i64 i, .bool (cmpE (eAt es i) e == 0)]) = _; rw [q1], hin, HQ.out⟩⟩
        · have HQ := Lib.hid (show ¬ keyE (eAt es i) e from fun h => q (cmpE_zero.2 h))
          have q1 : (cmpE (eAt es i) e == 0) = false := by simpa using q
          clear q
          go_wp2_with fail
          go_ret2
          exact ⟨hb3, i, HP.out, .inr ⟨by show Ending.returned (Value.tuple #[.int .i64 i, .bool (cmpE (eAt es i) e == 0)]) = _; rw [q1], fun _ => HQ.out⟩⟩
      · have hin1 : ¬ (i : Int) < (es.length : Int) := by omega
        have hd : decide ((i : Int) < (es.length : Int)) = false := by simpa using hin
        have hd2 : decide (i < es.length) = false := by simpa using hin
        go_wp2_with fail
        go_quiet (fail)
        go_wp2_with fail
        go_ret2
        exact ⟨below_to_drewN hb _, i, HP.out, .inr ⟨rfl, fun h => absurd h hin⟩⟩
theorem step_copy3 {P : Program} {ops : Array Oper} {o : Oper} {a : Act} {w : World} {K : Act → World → Prop} {Q : Exit → Act → World → Prop} {E : Prop}
    (hg : o.guard = none) (d x : Operand) (dT sT : TypeId) (hop : o.op = Op.call { callee := Callee.builtin Builtin.copy, args := #[d, x], argTypes := #[dT, sT] })
    (v u : Value) (hd : a.eval d = v) (hx : a.eval x = u) {v' : Value} {w' : World} (hr : (Builtin.copy_ #[dT, sT] o.type #[v, u]).run P w = .ok v' w') (hK : K (a.put o.dst v') w') :
    if Region.wanted o (yielded ops a.tmps) = true then Oper.wp P o a w K Q else E := by
  have hw : Region.wanted o (yielded ops a.tmps) = true := by simp [Region.wanted, hg]
  rw [if_pos hw]
  unfold Oper.wp
  simp [execOp, hop, resolve, invoke, builtin, hd, hx, hr, Result.andThen]
  exact hK
theorem list_copy3 {P : Program} (w : World) {ops : Array Oper} {rest : List Oper} {o : Oper} {a : Act} {Q : Exit → Act → World → Prop} (hgd : o.guard = none) (d s : Operand) (t t' : TypeId)
    (ho : o.op = .call { callee := .builtin .copy, args := #[d, s], argTypes := #[t, t'] }) (v u : Value) (hd : a.eval d = v) (hs : a.eval s = u) {v' : Value} {w' : World}
    (hr : (Builtin.copy_ #[t, t'] o.type #[v, u]).run P w = .ok v' w') (h : wpList P ops Q rest (a.put o.dst v') w') : wpList P ops Q (o :: rest) a w := by
  refine wpList_plain hgd fun K hK => ?_
  unfold Oper.wp execOp
  simp only [ho, resolve, invoke, builtin, Sem.run_bind, Sem.run_pure, Result.andThen_ok, List.map_toArray, List.map_cons, List.map_nil, hd, hs, hr]
  exact hK _ _ h
theorem toList_ex (X : Array Value) : ∃ L : List Value, L.toArray = X := ⟨X.toList, by simp⟩
/-- copy of edges into a row that is known whole. -/
theorem copy3_ex (g o dLen dCap : Nat) (a : Addr) (sLen sCap : Nat) (cur cs : List Value) (w : World) (hg : w.heap[g]? = some (.cells cur.toArray 80 (0, 0))) (hn : cs.length = Nat.min sLen dLen * 3)
    (hsrc : ∀ j v, cs[j]? = some v → w.cell? (a.add j) = some v) (hfit : o + cs.length ≤ cur.length) (h1 : ∀ v ∈ cs, v.oneCell' = true) :
    ∃ w', (∀ ty, (Builtin.copy_ #[25, 25] ty #[.slice (some ⟨g, o, none⟩) dLen dCap, .slice (some a) sLen sCap]).run Tryz.prog w = .ok (goInt (Nat.min sLen dLen)) w') ∧
      w'.heap[g]? = some (.cells (splice cur o cs).toArray 80 (0, 0)) ∧ w.grownBy w' (some g) ∧ w'.heap.size = w.heap.size := by
  have hl := run_loadCells_list (P := Tryz.prog) w a cs hsrc
  have hst := run_storeCells_at Tryz.prog g o 80 cs 0 cur.toArray w hg (by simpa using hfit) h1
  obtain ⟨i, hq, hi⟩ := Option.map_eq_some_iff.1 (show (Tryz.prog.info? 80).map (·.size) = some 3 by kernel_rfl)
  refine ⟨w.setRow g (splice cur o cs).toArray, fun ty => ?_, setRow_heap w g _ _ 80 _ hg, ⟨rfl, rfl, rfl, by simp [World.setRow], fun k hk hne => setRow_other w g k _ (fun e => hne (by rw [e]))⟩, by simp [World.setRow]⟩
  rw [hn] at hl
  simp only [Nat.add_zero] at hst
  simp [Builtin.copy_, run_underlying Tryz.underlying25, Builtin.lenOf, Builtin.firstCells, sizeOf, typeInfo, hq, hi, hl, hst, splice]
set_option maxHeartbeats 2000000 in
set_option maxRecDepth 100000 in
theorem insert_room (g n c i vb : Nat) (cur : List Value) (es : List Ed) (e : Ed) (w : World) (hg : w.heap[g]? = some (.cells cur.toArray 80 (0, 0))) (hcl : cur.length = c * 3) (hcur : cur.take (n * 3) = ec es) (hes : es.length = n)
    (hv : w.heap[vb]? = some (.cells #[.int .i64 e.1, .int .i64 e.2.1, .int .i64 e.2.2] 80 (0, 0))) (hne : vb ≠ g) (hin : i < n) (hroom : n + 1 ≤ c) (hc : c ≤ maxLen) (hn : n ≤ 80) :
    Calls Tryz.prog 31 #[.slice (some ⟨g, 0, none⟩) n c, .int .i64 i, .slice (some ⟨vb, 0, none⟩) 1 1] w fun r w' => r = .returned (.slice (some ⟨g, 0, none⟩) (n + 1) c) ∧
      w'.heap[g]? = some (.cells (splice (splice cur ((i + 1) * 3) (ec (es.drop i))) (i * 3) (ec [e])).toArray 80 (0, 0)) ∧ w.grownBy w' (some g) := by
  unfold maxLen at hc
  have hz2 : ((i : Int) == (n : Int)) = false := by rw [beq_eq_false_iff_ne]; omega
  have hz3 : ¬ (c : Int) < (n : Int) + 1 := by omega
  have hb2 : ¬ (c = i + 1) := by omega
  have hb4 : ¬ (c = i) := by omega
  have hi0 : (i : Int) ≤ (n : Int) := by omega
  have hi1 : (i : Int) + 1 ≤ (n : Int) + 1 := by omega
  have hi2 : (i : Int) ≤ (n : Int) + 1 := by omega
  have hi3 : (n : Int) + 1 ≤ (c : Int) := by omega
  have hsv : w.shape? vb = some (80, 3) := by simp [World.shape?, hv]
  have hsg : w.shape? g = some (80, c * 3) := by simp [World.shape?, hg, hcl]
  have hfv : ∀ k, w.frozen? ⟨vb, k, none⟩ = false := fun k => by simp [World.frozen?, hv]
  have hov : ∀ lb cb, (callFunc 56 #[.slice (some ⟨vb, 0, none⟩) 1 1, .slice (some ⟨g, (i + 1) * 3, none⟩) lb cb]).run Tryz.prog w = .ok (.value (.bool false)) w := fun lb cb => by
    rw [run_callFunc_extern Tryz.func56 (by kernel_rfl) (by kernel_rfl) (by kernel_rfl) (e := Extern.SlicesOverlaps.overlaps #[25, 25] #[4]) (by kernel_rfl),
      Lib.run_overlaps_apart w 25 4 80 Tryz.underlying25 3 Tryz.sizeOf80 ⟨vb, 0, none⟩ ⟨g, (i + 1) * 3, none⟩ 1 1 lb cb hne 80 80 3 (c * 3) hsv hsg (by omega) (hfv 0) (hfv 3)]
    rfl
  have hdl : (ec (es.drop i)).length = (n - i) * 3 := by rw [ec_length, List.length_drop, hes]
  have hcurl : ∀ j v, (ec (es.drop i))[j]? = some v → cur[i * 3 + j]? = some v := fun j v hj => by
    rw [← ec_drop, List.getElem?_drop, ← hcur] at hj
    rw [List.getElem?_take] at hj
    split at hj
    · exact hj
    · cases hj
  obtain ⟨w1, hr1, hg1, hb1, hz1⟩ := copy3_ex g ((i + 1) * 3) (n - i) (c - (i + 1)) ⟨g, i * 3, none⟩ (n + 1 - i) (c - i) cur (ec (es.drop i)) w.drew hg
    (by rw [hdl]; simp only [Nat.min_def]; split <;> omega)
    (fun j v hj => by
      have : (⟨g, i * 3, none⟩ : Addr).add j = ⟨g, i * 3 + j, none⟩ := by unfold Addr.add; split <;> simp_all
      rw [this, cell_of_row w.drew g (i * 3 + j) cur.toArray 80 (0, 0) hg]
      simpa using hcurl j v hj)
    (by rw [hdl, hcl]; omega) (ec_one _)
  have hv1 : w1.heap[vb]? = some (.cells #[.int .i64 e.1, .int .i64 e.2.1, .int .i64 e.2.2] 80 (0, 0)) := (hb1.block vb (Array.getElem?_eq_some_iff.1 hv).1 (fun h => hne (by injection h))).trans hv
  obtain ⟨w2, hr2, hg2, hb2', hz2'⟩ := copy3_ex g (i * 3) (n + 1 - i) (c - i) ⟨vb, 0, none⟩ 1 1 _ (ec [e]) w1 hg1
    (by rw [ec_length]; simp only [Nat.min_def, List.length_singleton]; split <;> omega)
    (fun j v hj => by
      have : (⟨vb, 0, none⟩ : Addr).add j = ⟨vb, j, none⟩ := by unfold Addr.add; split <;> simp_all
      rw [this, cell_of_row w1 vb j _ 80 (0, 0) hv1]
      simpa [ec] using hj)
    (by rw [length_splice _ _ _ (by rw [hdl, hcl]; omega), ec_length, hcl]; simp; omega) (ec_one _)
  have HG2 := Lib.hid hg2
  have HF : Hid (w.grownBy w2 (some g)) := Lib.hid (World.grownBy.trans (a := w) (b := w1) ⟨hb1.os, hb1.tape, hb1.output, hb1.size, hb1.block⟩ hb2')
  have hw1 : IntKind.i64.wrap ((i : Int) + 1) = (i : Int) + 1 := by rw [IntKind.wrap_i64]; omega
  have hp1 : (0 : Int) ≤ (i : Int) + 1 := by omega
  have hp2 : ((i : Int) + 1).toNat = i + 1 := by omega
  clear hg1 hg2 hb1 hb2' hv hg hcl hcur hes hsv hsg hfv hdl hcurl hz1 hz2' hv1
  go_enter Tryz.func31, Tryz.ntmps31
  go_wp2_with (simp only [hov])
  go_region_law (refine step_copy3 rfl _ _ 25 25 rfl _ _ (by simp [Act.eval, Act.put]) (by simp [Act.eval, Act.put]) (hr1 _) ?_)
  go_wp2_with (at_builtin; refine list_copy3 _ rfl _ _ 25 25 rfl _ _ rfl rfl (hr2 _) ?_)
  go_ret
  exact ⟨rfl, HG2.out, HF.out⟩
set_option maxHeartbeats 2000000 in
set_option maxRecDepth 100000 in
theorem insert_grow (g n c i vb : Nat) (cur : List Value) (es : List Ed) (e : Ed) (w : World) (hg : w.heap[g]? = some (.cells cur.toArray 80 (0, 0))) (hcl : cur.length = c * 3) (hcur : cur.take (n * 3) = ec es) (hes : es.length = n)
    (hv : w.heap[vb]? = some (.cells #[.int .i64 e.1, .int .i64 e.2.1, .int .i64 e.2.2] 80 (0, 0))) (hin : i < n) (hnc : n ≤ c) (hroom : c < n + 1) (hn : n ≤ 80) :
    Calls Tryz.prog 31 #[.slice (some ⟨g, 0, none⟩) n c, .int .i64 i, .slice (some ⟨vb, 0, none⟩) 1 1] w fun r w' => ∃ (G : Nat) (row : List Value), r = .returned (.slice (some ⟨w.heap.size, 0, none⟩) (n + 1) G) ∧ n + 1 ≤ G ∧ G ≤ maxLen ∧ row.length = G * 3 ∧ row.take (i * 3) = ec (es.take i) ∧
      w'.heap[w.heap.size]? = some (.cells (splice (splice row (i * 3) (ec [e])) ((i + 1) * 3) (ec (es.drop i))).toArray 80 (0, 0)) ∧ Below w.heap.size w w' := by
  have hz2 : ((i : Int) == (n : Int)) = false := by rw [beq_eq_false_iff_ne]; omega
  have hz3 : (c : Int) < (n : Int) + 1 := by omega
  have hgw := (Array.getElem?_eq_some_iff.1 hg).1
  have hvw := (Array.getElem?_eq_some_iff.1 hv).1
  obtain ⟨i0, hi0, hz0, hzs, hzb⟩ := info_parts (show (Tryz.prog.info? 80).map (fun i => (i.zero, i.size, i.bytes)) = some (some (.agg #[.int .i64 0, .int .i64 0, .int .i64 0]), 3, 24) by kernel_rfl)
  have hkk : (n : Int) + 1 - (i : Int) = ((n + 1 - i : Nat) : Int) := by omega
  have hik : i + (n + 1 - i) = n + 1 := by omega
  have hcurl : ∀ j v, (ec es)[j]? = some v → cur[j]? = some v := fun j v hj => by
    rw [← hcur, List.getElem?_take] at hj
    split at hj
    · exact hj
    · cases hj
  have hadd : ∀ o j : Nat, (⟨g, o, none⟩ : Addr).add j = ⟨g, o + j, none⟩ := fun o j => by unfold Addr.add; split <;> simp_all
  have hold : (Builtin.firstCells i0.size i (.slice (some ⟨g, 0, none⟩) i c)).run Tryz.prog w.drew = .ok (ec (es.take i)).toArray w.drew := by
    rw [hzs]
    exact run_firstCells_some w.drew 3 i ⟨g, 0, none⟩ i c (ec (es.take i)) (by rw [ec_length, List.length_take]; omega) (fun j v hj => by
      rw [hadd, cell_of_row w.drew g _ cur.toArray 80 (0, 0) hg]
      rw [← ec_take, List.getElem?_take] at hj
      split at hj
      · simpa using hcurl j v hj
      · cases hj)
  have hrz := fun ty => Lib.run_append_grow_zeros (P := Tryz.prog) w 25 3 ty 80 i0 _ .i64 .i64 Tryz.underlying25 Tryz.underlying3 hi0 hz0 (some ⟨g, 0, none⟩) i c (ec (es.take i)) hold (n + 1 - i) (by omega) (by omega) (by omega) (by omega) (by rw [hzb]; omega) (by rw [hzb, hik]; exact growslice_fits hroom (by omega))
  rw [hik] at hrz
  obtain ⟨G, hG⟩ : ∃ G, G = grownCap w (n + 1) c 80 := ⟨_, rfl⟩
  have hGn : n + 1 ≤ G := by rw [hG]; exact grownCap_ge w _ _ _
  have hGm : G ≤ maxLen := by rw [hG]; exact grownCap_le_maxLen w (n + 1) c 80 (by unfold maxLen; omega)
  obtain ⟨ROW, hROW⟩ := toList_ex ((ec (es.take i)).toArray ++ Builtin.zeroCells (Value.agg #[.int .i64 0, .int .i64 0, .int .i64 0]).cells (n + 1 - i) ++ Builtin.zeroCells (Value.agg #[.int .i64 0, .int .i64 0, .int .i64 0]).cells (G - (n + 1)))
  rw [← hG, ← hROW, ← hkk] at hrz
  have hz9 : ∀ k, (Builtin.zeroCells (Value.agg #[.int .i64 0, .int .i64 0, .int .i64 0]).cells k).size = k * 3 := fun k => by simp [Builtin.zeroCells, Value.cells]
  have hRl : ROW.length = G * 3 := by
    have := congrArg Array.size hROW
    rw [Array.size_append, Array.size_append, hz9, hz9] at this
    simp only [List.size_toArray] at this
    rw [ec_length, List.length_take] at this
    omega
  have hRt : ROW.take (i * 3) = ec (es.take i) := by
    have h1 := congrArg Array.toList hROW
    rw [Array.toList_append, Array.toList_append] at h1
    simp only at h1
    rw [h1, List.append_assoc, List.take_append_of_le_length (by rw [ec_length, List.length_take]; omega), List.take_of_length_le (by rw [ec_length, List.length_take]; omega)]
  obtain ⟨W1, hW1⟩ : ∃ W1, W1 = w.drew.alloc (.cells ROW.toArray 80) := ⟨_, rfl⟩
  rw [← hW1] at hrz
  have hb1 : Below w.heap.size w W1 := by rw [hW1]; exact (Below.refl _ _).drew.alloc (Nat.le_refl _) _
  have hg1 : W1.heap[w.heap.size]? = some (.cells ROW.toArray 80 (0, 0)) := by rw [hW1]; exact heap_alloc_new w.drew _
  have hgo : W1.heap[g]? = some (.cells cur.toArray 80 (0, 0)) := (hb1.block g hgw).trans hg
  have hvo : W1.heap[vb]? = some (.cells #[.int .i64 e.1, .int .i64 e.2.1, .int .i64 e.2.2] 80 (0, 0)) := (hb1.block vb hvw).trans hv
  obtain ⟨w2, hr2, hg2, hb2, hs2⟩ := copy3_ex w.heap.size (i * 3) (n + 1 - i) (G - i) ⟨vb, 0, none⟩ 1 1 ROW (ec [e]) W1 hg1
    (by rw [ec_length]; simp only [Nat.min_def, List.length_singleton]; split <;> omega)
    (fun j v hj => by
      have : (⟨vb, 0, none⟩ : Addr).add j = ⟨vb, j, none⟩ := by unfold Addr.add; split <;> simp_all
      rw [this, cell_of_row W1 vb j _ 80 (0, 0) hvo]
      simpa [ec] using hj)
    (by rw [ec_length, hRl]; simp; omega) (ec_one _)
  have hg3 : w2.heap[g]? = some (.cells cur.toArray 80 (0, 0)) := (hb2.block g (by have := hb1.size; omega) (fun h => by injection h; omega)).trans hgo
  have hdl : (ec (es.drop i)).length = (n - i) * 3 := by rw [ec_length, List.length_drop, hes]
  obtain ⟨w3, hr3, hg4, hb3, hs3⟩ := copy3_ex w.heap.size ((i + 1) * 3) (n - i) (G - (i + 1)) ⟨g, i * 3, none⟩ (n - i) (c - i) (splice ROW (i * 3) (ec [e])) (ec (es.drop i)) w2.drew hg2
    (by rw [hdl]; simp only [Nat.min_def]; split <;> omega)
    (fun j v hj => by
      rw [hadd, cell_of_row w2.drew g (i * 3 + j) cur.toArray 80 (0, 0) hg3]
      rw [← ec_drop, List.getElem?_drop] at hj
      simpa using hcurl _ v hj)
    (by rw [length_splice _ _ _ (by rw [ec_length, hRl]; simp; omega), hdl, hRl]; omega) (ec_one _)
  have HG : Hid (w3.heap[w.heap.size]? = some (.cells (splice (splice ROW (i * 3) (ec [e])) ((i + 1) * 3) (ec (es.drop i))).toArray 80 (0, 0))) := Lib.hid hg4
  have HF : Hid (Below w.heap.size w w3) := Lib.hid (by
    have h12 : Below w.heap.size w w2 := hb1.grown hb2 hb1.size (fun k hk => by cases hk; exact Nat.le_refl _)
    exact h12.drew.grown hb3 (by have := h12.size; exact this) (fun k hk => by cases hk; exact Nat.le_refl _))
  have hG63 : G ≤ 9223372036854775807 := by unfold maxLen at hGm; omega
  have hGi : ¬ (G = i) := by omega
  have hGim : ¬ (G = i + 1) := by omega
  have hci : ¬ (c = i) := by omega
  have hi1 : (i : Int) + 1 ≤ (n : Int) + 1 := by omega
  have hi2 : (i : Int) ≤ (n : Int) + 1 := by omega
  have hi3 : (i : Int) ≤ (n : Int) := by omega
  have hi4 : (i : Int) ≤ (c : Int) := by omega
  have hw1 : IntKind.i64.wrap ((i : Int) + 1) = (i : Int) + 1 := by rw [IntKind.wrap_i64]; omega
  have hp1 : (0 : Int) ≤ (i : Int) + 1 := by omega
  have hp2 : ((i : Int) + 1).toNat = i + 1 := by omega
  have HR := Lib.hid hRl
  have HT := Lib.hid hRt
  have HM := Lib.hid hGm
  clear hkk hik hold hROW hG hRl hRt hW1 hg1 hgo hvo hg2 hg3 hg4 hb1 hb2 hb3 hs2 hs3 hdl hcurl hadd hg hv hcl hcur hes hgw hvw hi0 hz0 hzs hzb hz9 hGm
  go_enter Tryz.func31, Tryz.ntmps31
  go_wp2_with (first
    | (at_builtin; refine Lib.wpList_append_run _ rfl _ _ _ _ rfl _ _ rfl rfl _ _ (hrz _) ?_)
    | (at_builtin; refine list_copy3 _ rfl _ _ 25 25 rfl _ _ rfl rfl (hr2 _) ?_))
  go_region_law (refine step_copy3 rfl _ _ 25 25 rfl _ _ (by simp [Act.eval, Act.put]) (by simp [Act.eval, Act.put]) (hr3 _) ?_)
  go_wp2_with fail
  go_ret
  exact ⟨G, ROW, rfl, hGn, HM.out, HR.out, HT.out, HG.out, HF.out⟩
theorem splice_in {α : Type} (L D E : List α) (o : Nat) (hE : E.length = 3) (h : o + 3 + D.length ≤ L.length) : splice (splice L (o + 3) D) o E = L.take o ++ (E ++ (D ++ L.drop (o + 3 + D.length))) := by
  unfold splice
  have h1 : (L.take (o + 3) ++ (D ++ L.drop (o + 3 + D.length))).take o = L.take o := by
    rw [List.take_append_of_le_length (by rw [List.length_take]; omega), List.take_take, Nat.min_eq_left (by omega)]
  have h2 : (L.take (o + 3) ++ (D ++ L.drop (o + 3 + D.length))).drop (o + 3) = D ++ L.drop (o + 3 + D.length) := by
    rw [List.drop_append_of_le_length (by rw [List.length_take]; omega), List.drop_eq_nil_of_le (by rw [List.length_take]; omega)]; rfl
  rw [h1, hE, h2]
theorem splice_out {α : Type} (L D E : List α) (o : Nat) (hE : E.length = 3) (h : o + 3 + D.length ≤ L.length) : ∃ R, splice (splice L o E) (o + 3) D = L.take o ++ (E ++ (D ++ R)) := by
  unfold splice
  have h1 : (L.take o ++ (E ++ L.drop (o + E.length))).take (o + 3) = L.take o ++ E := by
    rw [← List.append_assoc, List.take_append_of_le_length (by rw [List.length_append, List.length_take]; omega)]
    exact List.take_of_length_le (by rw [List.length_append, List.length_take]; omega)
  rw [h1]
  exact ⟨_, by rw [List.append_assoc]⟩
def putAt (es : List Ed) (i : Nat) (e : Ed) : List Ed := es.take i ++ (e :: es.drop i)
theorem put_cells (es : List Ed) (i : Nat) (e : Ed) : ec (putAt es i e) = ec (es.take i) ++ (ec [e] ++ ec (es.drop i)) := by
  unfold putAt
  rw [show e :: es.drop i = [e] ++ es.drop i from rfl, ec_append, ec_append]
theorem put_len (es : List Ed) (i : Nat) (e : Ed) (h : i ≤ es.length) : (putAt es i e).length = es.length + 1 := by
  unfold putAt
  rw [List.length_append, List.length_cons, List.length_take, List.length_drop]
  omega
theorem put_take {es : List Ed} {i : Nat} {e : Ed} {X R : List Value} (h : i ≤ es.length) (hX : X = ec (es.take i)) : (X ++ (ec [e] ++ (ec (es.drop i) ++ R))).take ((es.length + 1) * 3) = ec (putAt es i e) := by
  have h1 : X ++ (ec [e] ++ (ec (es.drop i) ++ R)) = ec (putAt es i e) ++ R := by rw [put_cells, hX]; simp only [List.append_assoc]
  have h2 : (ec (putAt es i e)).length = (es.length + 1) * 3 := by rw [ec_length, put_len es i e h]
  rw [h1, List.take_append_of_le_length (by omega), List.take_of_length_le (by omega)]
/-- s[k:] of edges: its run, and what it reads as. -/
theorem cut3_l (A : Option Addr) (n c k : Nat) (i : Int) (ki : IntKind) (hi : i = (k : Int)) (hk : k ≤ n) (hc : n ≤ c) :
    ∃ A', (∀ W, (Instr.slice 25 (.slice A n c) (some (.int ki i)) none none).run Tryz.prog W = .ok (.slice A' (n - k) (c - k)) W) ∧
      ∀ (w : World) (B : Nat) (xs : List Value), Lies w B 3 A n xs → Lies w B 3 A' (n - k) (xs.drop (k * 3)) := by
  subst hi
  refine ⟨if c = k then A else A.map (·.add (k * 3)), fun W => ?_, fun w B xs h => ?_⟩
  rotate_left
  · refine ⟨by rw [List.length_drop, h.1, Nat.sub_mul], fun j u hu => ?_⟩
    rw [List.getElem?_drop] at hu
    have hj : k * 3 + j < xs.length := (List.getElem?_eq_some_iff.1 hu).1
    have := h.1
    obtain ⟨ad, rfl, hb, hcell⟩ := h.2 _ u hu
    rw [if_neg (by omega)]
    exact ⟨ad.add (k * 3), rfl, by rw [block_add]; exact hb, by rw [add_add]; exact hcell⟩
  · have he : Tryz.prog.elem 25 = 80 := by kernel_rfl
    have ht : Tryz.prog.underlying 25 = some (.slice (Tryz.prog.elem 25)) := by rw [he]; exact Tryz.underlying25
    have hz : ∀ W, (sizeOf (Tryz.prog.elem 25)).run Tryz.prog W = .ok 3 W := by rw [he]; exact Tryz.sizeOf80
    rw [run_slice_l W 25 A n c ht ki k (by omega) (by omega)]
    simp [hz, sliced, Result.andThen]
def InsPost (base : Nat) (v : Value) (es : List Ed) (w : World) (r : Ending) (w' : World) : Prop :=
  w.grownBy w' v.ownBlock ∧ ∃ A' c', r = .returned (.slice A' es.length c') ∧ w'.ownsRow base 80 3 (.slice A' es.length c') es.length (ec es)
set_option maxHeartbeats 400000 in
set_option maxRecDepth 100000 in
theorem insert_end (base : Nat) (A : Option Addr) (n c vb : Nat) (es : List Ed) (e : Ed) (w : World) (hown : w.ownsRow base 80 3 (.slice A n c) n (ec es)) (hbase : base ≤ w.heap.size)
    (hv : w.heap[vb]? = some (.cells #[.int .i64 e.1, .int .i64 e.2.1, .int .i64 e.2.2] 80 (0, 0))) (hn : n ≤ 80) :
    Calls Tryz.prog 31 #[.slice A n c, .int .i64 n, .slice (some ⟨vb, 0, none⟩) 1 1] w fun r w' => ∃ A' c', r = .returned (.slice A' (n + 1) c') ∧ w'.ownsRow base 80 3 (.slice A' (n + 1) c') (n + 1) (ec (es ++ [e])) ∧ w.grownBy w' (Value.slice A n c).ownBlock := by
  obtain ⟨i0, hi0, hz0, hzs, hzb⟩ := info_parts (show (Tryz.prog.info? 80).map (fun i => (i.zero, i.size, i.bytes)) = some (some (.agg #[.int .i64 0, .int .i64 0, .int .i64 0]), 3, 24) by kernel_rfl)
  have hl : Lies w w.heap.size 3 (some ⟨vb, 0, none⟩) 1 (ec [e]) := ⟨rfl, fun j u hj => ⟨⟨vb, 0, none⟩, rfl, (Array.getElem?_eq_some_iff.1 hv).1, by
    have : (⟨vb, 0, none⟩ : Addr).add j = ⟨vb, j, none⟩ := by unfold Addr.add; split <;> simp_all
    rw [this, cell_of_row w vb j _ 80 (0, 0) hv]
    simpa [ec] using hj⟩⟩
  have hcc := own_cap hown
  obtain ⟨A', hcut, -⟩ := cut3_l A n c n (n : Int) .i64 rfl (Nat.le_refl _) hcc
  have HOWN := Lib.hid hown
  have HL := Lib.hid hl
  have HI0 := Lib.hid hi0
  have HZ0 := Lib.hid hz0
  have HZS := Lib.hid hzs
  have HZB := Lib.hid hzb
  clear hown hl hv hi0 hz0 hzs hzb
  go_enter Tryz.func31, Tryz.ntmps31
  go_wp2_with (at_builtin; go_must (refine wpList_app2 _ rfl (.tmp 23) (.tmp 24) 25 rfl base 80 i0 _ 3 24 Tryz.underlying25 HI0.out HZ0.out HZS.out HZB.out rfl (by decide) A n c (ec es) rfl HOWN.out w.heap.size _ 1 1 (ec [e]) rfl HL.out (ec_one _) (n + 1) (ec (es ++ [e])) rfl (ec_append es [e]).symm (by unfold maxLen; omega) (by omega) hbase ?_))
  intro A2 c2 w2 ho2 _ hb2
  go_wp2_with fail
  go_ret
  exact ⟨A2, c2, rfl, ho2, hb2⟩
set_option maxHeartbeats 2000000 in
set_option maxRecDepth 100000 in
theorem insert_any (base : Nat) (A : Option Addr) (n c i vb : Nat) (es : List Ed) (e : Ed) (w : World) (hown : w.ownsRow base 80 3 (.slice A n c) n (ec es)) (hbase : base ≤ w.heap.size)
    (hv : w.heap[vb]? = some (.cells #[.int .i64 e.1, .int .i64 e.2.1, .int .i64 e.2.2] 80 (0, 0))) (hne : ∀ ad, A = some ad → vb ≠ ad.block) (hin : i ≤ n) (hn : n ≤ 80) :
    Calls Tryz.prog 31 #[.slice A n c, .int .i64 i, .slice (some ⟨vb, 0, none⟩) 1 1] w (InsPost base (.slice A n c) (putAt es i e) w) := by
  have hes : es.length = n := by have := hown.1; rw [ec_length] at this; omega
  by_cases hi : i = n
  · subst hi
    refine (insert_end base A i c vb es e w hown hbase hv hn).mono ?_
    rintro r w' ⟨A', c', rfl, ho, hb⟩
    have hp : putAt es i e = es ++ [e] := by unfold putAt; rw [← hes]; simp
    rw [hp]
    refine ⟨hb, A', c', ?_, ?_⟩
    · simp [hes]
    · simpa [hes] using ho
  · rcases hown.2 with ⟨_, h0⟩ | ⟨g, cap, cur, hveq, hbg, hg, hnc, hcm, hcs, hct⟩
    · omega
    · injection hveq with h1 h2 h3
      subst h1 h3
      have hput := put_len es i e (by omega)
      have hgl : g < w.heap.size := (Array.getElem?_eq_some_iff.1 hg).1
      by_cases hroom : n + 1 ≤ c
      · refine (insert_room g n c i vb cur.toList es e w hg (by simpa using hcs) hct hes hv (hne _ rfl) (by omega) hroom hcm hn).mono ?_
        rintro r w' ⟨rfl, hg', hgr⟩
        refine ⟨hgr, some ⟨g, 0, none⟩, c, by rw [hput, hes], ?_⟩
        rw [hput, hes]
        have hdl : (ec (es.drop i)).length = (n - i) * 3 := by rw [ec_length, List.length_drop, hes]
        have hsp : splice (splice cur.toList ((i + 1) * 3) (ec (es.drop i))) (i * 3) (ec [e]) = cur.toList.take (i * 3) ++ (ec [e] ++ (ec (es.drop i) ++ cur.toList.drop (i * 3 + 3 + (ec (es.drop i)).length))) := by
          rw [show (i + 1) * 3 = i * 3 + 3 by omega]
          exact splice_in cur.toList (ec (es.drop i)) (ec [e]) (i * 3) rfl (by rw [hdl]; simp; omega)
        refine ⟨by rw [ec_length, hput, hes], .inr ⟨g, c, _, rfl, hbg, hg', hroom, hcm, ?_, ?_⟩⟩
        · rw [List.size_toArray, length_splice _ _ _ (by rw [length_splice _ _ _ (by rw [hdl]; simp; omega)]; simp [ec_length]; omega), length_splice _ _ _ (by rw [hdl]; simp; omega)]
          simpa using hcs
        · rw [hsp]
          have := put_take (es := es) (i := i) (e := e) (R := cur.toList.drop (i * 3 + 3 + (ec (es.drop i)).length)) (X := cur.toList.take (i * 3)) (by omega) (by rw [← ec_take, ← hct, List.take_take, Nat.min_eq_left (by omega)])
          rw [hes] at this
          exact this
      · refine (insert_grow g n c i vb cur.toList es e w hg (by simpa using hcs) hct hes hv (by omega) hnc (by omega) hn).mono ?_
        rintro r w' ⟨G, row, rfl, hG1, hG2, hRl, hRt, hg', hb⟩
        refine ⟨⟨hb.os, hb.tape, hb.output, hb.size, fun k hk _ => hb.block k hk⟩, some ⟨w.heap.size, 0, none⟩, G, by rw [hput, hes], ?_⟩
        rw [hput, hes]
        have hdl : (ec (es.drop i)).length = (n - i) * 3 := by rw [ec_length, List.length_drop, hes]
        obtain ⟨R, hsp⟩ := splice_out row (ec (es.drop i)) (ec [e]) (i * 3) rfl (by rw [hdl, hRl]; omega)
        rw [show (i + 1) * 3 = i * 3 + 3 by omega] at hg'
        refine ⟨by rw [ec_length, hput, hes], .inr ⟨w.heap.size, G, _, rfl, hbase, hg', hG1, hG2, ?_, ?_⟩⟩
        · rw [List.size_toArray, length_splice _ _ _ (by rw [length_splice _ _ _ (by rw [hRl]; simp [ec_length]; omega), hdl, hRl]; omega), length_splice _ _ _ (by rw [hRl]; simp [ec_length]; omega)]
          exact hRl
        · rw [hsp]
          have := put_take (es := es) (i := i) (e := e) (R := R) (X := row.take (i * 3)) (by omega) hRt
          rw [hes] at this
          exact this
/-- An edge put to its place among rising ones. -/
def insE : List Ed → Ed → List Ed
  | [], e => [e]
  | x :: r, e => if ltE x e then x :: insE r e else e :: x :: r
def hasE (es : List Ed) (e : Ed) : Bool := es.any fun x => x.1 == e.1 && x.2.1 == e.2.1
theorem eAt_cons (x : Ed) (r : List Ed) (k : Nat) : eAt (x :: r) (k + 1) = eAt r k := by simp [eAt]
theorem eAt_zero (x : Ed) (r : List Ed) : eAt (x :: r) 0 = x := by simp [eAt]
theorem put_ins : ∀ (es : List Ed) (e : Ed) (p : Nat), Place es e p p → putAt es p e = insE es e
  | [], e, p, h => by
    obtain ⟨_, h2, _, _⟩ := h
    have : p = 0 := by simpa using h2
    subst this; rfl
  | x :: r, e, 0, h => by
    have := h.2.2.2 0 (Nat.le_refl _) (by simp)
    rw [eAt_zero] at this
    unfold putAt insE
    rw [if_neg this]; rfl
  | x :: r, e, p + 1, h => by
    obtain ⟨_, h2, h3, h4⟩ := h
    have hx := h3 0 (by omega)
    rw [eAt_zero] at hx
    unfold insE
    rw [if_pos hx, ← put_ins r e p ⟨Nat.le_refl _, by simpa using h2, fun k hk => by have := h3 (k + 1) (by omega); rwa [eAt_cons] at this, fun k hk hk2 => by have := h4 (k + 1) (by omega) (by simpa using hk2); rwa [eAt_cons] at this⟩]
    rfl
theorem has_iff {es : List Ed} {e : Ed} {p : Nat} (hr : Rises es) (hp : Place es e p p) : hasE es e = true ↔ p < es.length ∧ keyE (eAt es p) e := by
  unfold hasE
  rw [List.any_eq_true]
  constructor
  · rintro ⟨x, hx, hk⟩
    obtain ⟨k, hkl, rfl⟩ := List.mem_iff_getElem.1 hx
    have hk' : keyE (eAt es k) e := by
      simp only [Bool.and_eq_true, beq_iff_eq] at hk
      have : eAt es k = es[k] := by simp [eAt, hkl]
      rw [this]; exact hk
    obtain ⟨_, h2, h3, h4⟩ := hp
    have hkp : p ≤ k := by
      rcases Nat.lt_or_ge k p with h | h
      · have := h3 k h
        unfold ltE at this; unfold keyE at hk'; omega
      · exact h
    have hpk : k = p := by
      rcases Nat.lt_or_ge p k with h | h
      · have h5 := hr p k h hkl
        have h6 := h4 p (Nat.le_refl _) (by omega)
        unfold ltE at h5 h6; unfold keyE at hk'; omega
      · omega
    subst hpk
    exact ⟨hkl, hk'⟩
  · rintro ⟨h1, h2⟩
    have : eAt es p = es[p] := by simp [eAt, h1]
    refine ⟨es[p], List.getElem_mem h1, ?_⟩
    rw [this] at h2
    simp only [Bool.and_eq_true, beq_iff_eq]
    exact h2
/-- A line of an edge: the error, and the edges then. -/
def readE (N : Int) (es : List Ed) (l : List UInt8) : Int × List Ed :=
  match edgeNums l with
  | none => (2, es)
  | some e => if 80 ≤ es.length then (3, es) else if edge1 N e.1 e.2.1 e.2.2 = 0 then (if hasE es e then (5, es) else (0, insE es e)) else (edge1 N e.1 e.2.1 e.2.2, es)
def RePost (base : Nat) (N : Int) (q : Int × List Ed) (w : World) (r : Ending) (w' : World) : Prop :=
  Below base w w' ∧ ∃ A' c', r = .returned (.tuple #[.agg #[.int .i64 N, .slice A' q.2.length c'], .int .i64 q.1]) ∧ w'.ownsRow base 80 3 (.slice A' q.2.length c') q.2.length (ec q.2)
theorem own_set {w : World} {base s n : Nat} {e : TypeId} {v : Value} {xs : List Value} (h : w.ownsRow base e s v n xs) (b k : Nat) (u : Value) (hne : v.ownBlock ≠ some b) : (w.setCell ⟨b, k, none⟩ u).ownsRow base e s v n xs :=
  h.kept (row := some b) ⟨rfl, rfl, rfl, by simp [World.setCell], fun i hi hn => Below.heap_setCell w ⟨b, k, none⟩ u i (fun e => hn (by rw [e]))⟩ (.inr hne)
theorem own_blk_ne {w : World} {base : Nat} {e t : TypeId} {size n g : Nat} {v : Value} {xs : List Value} {cs : Array Value} (h : w.ownsRow base e size v n xs) (hg : w.heap[g]? = some (.cells cs t (0, 0))) (hne : e ≠ t) : v.ownBlock ≠ some g := by
  rcases h.2 with ⟨rfl, _⟩ | ⟨g', cap, cur, rfl, _, hh, _⟩
  · simp [Value.ownBlock]
  · intro he
    have : g' = g := by simpa [Value.ownBlock] using he
    subst this
    rw [hg] at hh
    injection hh with hh
    injection hh with _ ht
    exact hne ht.symm
set_option maxHeartbeats 1000000 in
set_option maxRecDepth 100000 in
theorem readEdge_any (base : Nat) (N : Int) (A : Option Addr) (n c : Nat) (es : List Ed) (s : ByteArray) (w : World) (hown : w.ownsRow base 80 3 (.slice A n c) n (ec es)) (hbase : base ≤ w.heap.size) (hr : Rises es) (hn : n ≤ 80) (hs : s.size ≤ 4000) :
    Calls Tryz.prog 14 #[.agg #[.int .i64 N, .slice A n c], .string s] w (RePost base N (readE N es s.data.toList) w) := by
  have hes : es.length = n := by have := hown.1; rw [ec_length] at this; omega
  subst hes
  have HR : Hid (readE N es s.data.toList = _) := Lib.hid (by unfold readE; rfl)
  obtain ⟨w0, hw0⟩ : ∃ w0, w0 = (w.alloc (.cells #[.int .i64 N, .slice A es.length c] 27)).alloc (.cells #[.int .i64 0, .slice none 0 0] 27) := ⟨_, rfl⟩
  have hb0 : Below w.heap.size w w0 := by rw [hw0]; exact ((Below.refl _ _).alloc (Nat.le_refl _) _).alloc (by simp) _
  have hz0 : w0.heap.size = w.heap.size + 2 := by rw [hw0]; simp
  have k0 : w0.cell? ⟨w.heap.size, 0, none⟩ = some (.int .i64 N) := by rw [hw0]; simp [go_sem]
  have k1 : w0.cell? ⟨w.heap.size, 1, none⟩ = some (.slice A es.length c) := by rw [hw0]; simp [go_sem]
  have k2 : w0.cell? ⟨w.heap.size + 1, 0, none⟩ = some (.int .i64 0) := by rw [hw0]; simp [go_sem]
  have k3 : w0.cell? ⟨w.heap.size + 1, 1, none⟩ = some (.slice none 0 0) := by rw [hw0]; simp [go_sem]
  have k4 : ∀ o, w0.frozen? ⟨w.heap.size + 1, o, none⟩ = false := fun o => by rw [hw0]; simp [go_sem]
  have q0 : w0.heap[w.heap.size]? = some (.cells #[.int .i64 N, .slice A es.length c] 27 (0, 0)) := by rw [hw0]; exact (Below.heap_alloc _ _ _ (by simp)).trans (heap_alloc_new w _)
  have q1 : w0.heap[w.heap.size + 1]? = some (.cells #[.int .i64 0, .slice none 0 0] 27 (0, 0)) := by rw [hw0]; have := heap_alloc_new (w.alloc (.cells #[.int .i64 N, .slice A es.length c] 27)) (.cells #[.int .i64 0, .slice none 0 0] 27); simpa using this
  have k5 : w0.frozen? ⟨w.heap.size, 1, none⟩ = false := by rw [hw0]; simp [go_sem]
  go_enter Tryz.func14, Tryz.ntmps14
  go_wp2_with fail
  rw [← hw0]
  refine (edgeNumbers_any s _ hs).mono ?_
  rintro r w1 ⟨hb1, hcase⟩
  have hz1 : w.heap.size + 2 ≤ w1.heap.size := by have := hb1.size; omega
  have c0 : w1.cell? ⟨w.heap.size, 0, none⟩ = some (.int .i64 N) := (hb1.cell (p := ⟨w.heap.size, 0, none⟩) (by show w.heap.size < _; omega)).trans k0
  have c1 : w1.cell? ⟨w.heap.size, 1, none⟩ = some (.slice A es.length c) := (hb1.cell (p := ⟨w.heap.size, 1, none⟩) (by show w.heap.size < _; omega)).trans k1
  have c2 : w1.cell? ⟨w.heap.size + 1, 0, none⟩ = some (.int .i64 0) := (hb1.cell (p := ⟨w.heap.size + 1, 0, none⟩) (by show w.heap.size + 1 < _; omega)).trans k2
  have c3 : w1.cell? ⟨w.heap.size + 1, 1, none⟩ = some (.slice none 0 0) := (hb1.cell (p := ⟨w.heap.size + 1, 1, none⟩) (by show w.heap.size + 1 < _; omega)).trans k3
  have c4 : w1.frozen? ⟨w.heap.size + 1, 0, none⟩ = false := (hb1.frozen (p := ⟨w.heap.size + 1, 0, none⟩) (by show w.heap.size + 1 < _; omega)).trans (k4 0)
  have c6 : w1.frozen? ⟨w.heap.size, 1, none⟩ = false := (hb1.frozen (p := ⟨w.heap.size, 1, none⟩) (by show w.heap.size < _; omega)).trans k5
  have c5 : w1.frozen? ⟨w.heap.size + 1, 1, none⟩ = false := (hb1.frozen (p := ⟨w.heap.size + 1, 1, none⟩) (by show w.heap.size + 1 < _; omega)).trans (k4 1)
  have Q0 := Lib.hid ((hb1.block w.heap.size (by omega)).trans q0)
  have Q1 := Lib.hid ((hb1.block (w.heap.size + 1) (by omega)).trans q1)
  clear q0 q1
  have hb01 : Below w.heap.size w w1 := hb0.trans (hb1.mono (by omega))
  clear k0 k1 k2 k3 k4 k5 hb1 hb0 hz0
  clear hw0
  have al : ∀ (W : World) (o : Obj) (b k : Nat), b < W.heap.size → (W.alloc o).cell? ⟨b, k, none⟩ = W.cell? ⟨b, k, none⟩ := fun W o b k h => World.cell?_alloc_lt W o ⟨b, k, none⟩ h
  have fl : ∀ (W : World) (o : Obj) (b k : Nat), b < W.heap.size → (W.alloc o).frozen? ⟨b, k, none⟩ = W.frozen? ⟨b, k, none⟩ := fun W o b k h => (below_alloc W o).frozen (p := ⟨b, k, none⟩) h
  have l0 : w.heap.size < w1.heap.size := by omega
  have l1 : w.heap.size + 1 < w1.heap.size := by omega
  have fin : ∀ (W : World) (q : Int), Below w.heap.size w W → RePost base N (q, es) w (.returned (.tuple #[.agg #[.int .i64 N, .slice A es.length c], .int .i64 q])) W := fun W q hb => ⟨hb.mono hbase, A, c, rfl, own_next hown hb⟩
  have FIN := Lib.hid fin
  have HOWN := Lib.hid hown
  have HRI := Lib.hid hr
  clear fin hown hr
  rcases hcase with ⟨x, y, z, he, rfl⟩ | ⟨x, y, z, he, rfl⟩
  · have HE := Lib.hid (show readE N es s.data.toList = if 80 ≤ es.length then (3, es) else if edge1 N x y z = 0 then (if hasE es (x, y, z) then (5, es) else (0, insE es (x, y, z))) else (edge1 N x y z, es) by rw [HR.out, he])
    clear he HR
    by_cases h80 : 80 ≤ es.length
    · have H1 := Lib.hid (show readE N es s.data.toList = (3, es) by rw [HE.out, if_pos h80])
      clear HE
      go_wp2_with fail
      exact bodyPost_ret (v := .tuple #[.agg #[.int .i64 N, .slice A es.length c], .int .i64 3]) (by simp [results, Tryz.results14, go_sem, c2, c3, al, l1]) rfl (by rw [H1.out]; exact FIN.out _ 3 (((hb01.setCell (p := ⟨w.heap.size + 1, 0, none⟩) (by simp) _).setCell (p := ⟨w.heap.size + 1, 1, none⟩) (by simp) _).alloc (by simp; omega) _))
    by_cases hx : edge1 N x y z = 0
    · have HE2 := Lib.hid (show readE N es s.data.toList = if hasE es (x, y, z) then (5, es) else (0, insE es (x, y, z)) by rw [HE.out, if_neg h80, if_pos hx])
      have HX := Lib.hid hx
      clear HE hx
      go_wp2_with fail
      refine (checkEdge_any _ _ _ _ _).mono ?_
      rintro e w' ⟨rfl, rfl⟩
      rw [HX.out]
      go_wp2_with fail
      obtain ⟨w2, hw2⟩ : ∃ w2, w2 = (w1.alloc (.cells #[.int .i64 x, .int .i64 y, .int .i64 z] 75)).alloc (.cells #[.int .i64 x, .int .i64 y, .int .i64 z] 80) := ⟨_, rfl⟩
      have hb02 : Below w.heap.size w w2 := by rw [hw2]; exact (hb01.alloc (by omega) _).alloc (by simp; omega) _
      have hb12 : Below w1.heap.size w1 w2 := by rw [hw2]; exact ((Below.refl _ _).alloc (Nat.le_refl _) _).alloc (by simp) _
      have hz2 : w1.heap.size + 2 = w2.heap.size := by rw [hw2]; simp
      have e0 : w2.cell? ⟨w1.heap.size + 1, 0, none⟩ = some (.int .i64 x) := by rw [hw2]; simp [go_sem]
      have e1 : w2.cell? ⟨w1.heap.size + 1, 1, none⟩ = some (.int .i64 y) := by rw [hw2]; simp [go_sem]
      have e2 : w2.cell? ⟨w1.heap.size + 1, 2, none⟩ = some (.int .i64 z) := by rw [hw2]; simp [go_sem]
      rw [← hw2]
      clear hw2
      have hA := Lies.of_own (own_next HOWN.out hb02)
      refine (search_any A es.length c es (x, y, z) w2 hA (own_cap HOWN.out) hn HRI.out).mono ?_
      rintro r w3 ⟨hb23, p, hp, hcase⟩
      have hb03 : Below w.heap.size w w3 := hb02.trans (hb23.mono hb02.size)
      have hb13 : Below w1.heap.size w1 w3 := hb12.trans (hb23.mono hb12.size)
      have hz3 : w1.heap.size + 2 ≤ w3.heap.size := by have := hb23.size; omega
      have d0 : w3.cell? ⟨w.heap.size, 0, none⟩ = some (.int .i64 N) := (hb13.cell (p := ⟨w.heap.size, 0, none⟩) l0).trans c0
      have d1 : w3.cell? ⟨w.heap.size, 1, none⟩ = some (.slice A es.length c) := (hb13.cell (p := ⟨w.heap.size, 1, none⟩) l0).trans c1
      have d2 : w3.cell? ⟨w.heap.size + 1, 0, none⟩ = some (.int .i64 0) := (hb13.cell (p := ⟨w.heap.size + 1, 0, none⟩) l1).trans c2
      have d3 : w3.cell? ⟨w.heap.size + 1, 1, none⟩ = some (.slice none 0 0) := (hb13.cell (p := ⟨w.heap.size + 1, 1, none⟩) l1).trans c3
      have d4 : w3.frozen? ⟨w.heap.size + 1, 0, none⟩ = false := (hb13.frozen (p := ⟨w.heap.size + 1, 0, none⟩) l1).trans c4
      have d5 : w3.frozen? ⟨w.heap.size + 1, 1, none⟩ = false := (hb13.frozen (p := ⟨w.heap.size + 1, 1, none⟩) l1).trans c5
      have d6 : w3.frozen? ⟨w.heap.size, 1, none⟩ = false := (hb13.frozen (p := ⟨w.heap.size, 1, none⟩) l0).trans c6
      have g0 : w3.cell? ⟨w1.heap.size + 1, 0, none⟩ = some (.int .i64 x) := (hb23.cell (p := ⟨w1.heap.size + 1, 0, none⟩) (by show w1.heap.size + 1 < _; omega)).trans e0
      have g1 : w3.cell? ⟨w1.heap.size + 1, 1, none⟩ = some (.int .i64 y) := (hb23.cell (p := ⟨w1.heap.size + 1, 1, none⟩) (by show w1.heap.size + 1 < _; omega)).trans e1
      have g2 : w3.cell? ⟨w1.heap.size + 1, 2, none⟩ = some (.int .i64 z) := (hb23.cell (p := ⟨w1.heap.size + 1, 2, none⟩) (by show w1.heap.size + 1 < _; omega)).trans e2
      have R0 := Lib.hid ((hb13.block w.heap.size l0).trans Q0.out)
      have R1 := Lib.hid ((hb13.block (w.heap.size + 1) l1).trans Q1.out)
      have m0 : w.heap.size < w3.heap.size := by omega
      have m1 : w.heap.size + 1 < w3.heap.size := by omega
      have hH := has_iff HRI.out hp
      have HP := Lib.hid hp
      clear c0 c1 c2 c3 c4 c5 c6 e0 e1 e2 hb23 hb12 hb13 hb02 hA hp hz2
      rcases hcase with ⟨rfl, hlt, hk⟩ | ⟨rfl, hk⟩
      · have H1 := Lib.hid (show readE N es s.data.toList = (5, es) by rw [HE2.out, if_pos (hH.2 ⟨hlt, hk⟩)])
        clear HE2 hH hk
        go_wp2_with fail
        exact bodyPost_ret (v := .tuple #[.agg #[.int .i64 N, .slice A es.length c], .int .i64 5]) (by simp [results, Tryz.results14, go_sem, d2, d3]) rfl (by rw [H1.out]; exact FIN.out _ 5 ((hb03.setCell (p := ⟨w.heap.size + 1, 0, none⟩) (by simp) _).setCell (p := ⟨w.heap.size + 1, 1, none⟩) (by simp) _))
      · have H1 := Lib.hid (show readE N es s.data.toList = (0, putAt es p (x, y, z)) by
          rw [HE2.out, if_neg (fun h => hk (hH.1 h).1 (hH.1 h).2), put_ins es _ p HP.out])
        have hpl : p ≤ es.length := HP.out.2.1
        clear HE2 hH hk
        go_wp2_with fail
        obtain ⟨w4, hw4⟩ : ∃ w4, w4 = w3.alloc (.cells #[.int .i64 x, .int .i64 y, .int .i64 z] 80) := ⟨_, rfl⟩
        have hb04 : Below w.heap.size w w4 := by rw [hw4]; exact hb03.alloc (by omega) _
        have hv : w4.heap[w3.heap.size]? = some (.cells #[.int .i64 x, .int .i64 y, .int .i64 z] 80 (0, 0)) := by rw [hw4]; exact heap_alloc_new w3 _
        have hb34 : Below w3.heap.size w3 w4 := by rw [hw4]; exact below_alloc _ _
        have hz4 : w3.heap.size + 1 = w4.heap.size := by rw [hw4]; simp
        rw [← hw4]
        clear hw4
        have hown4 := own_next HOWN.out hb04
        have hlt4 := HOWN.out.lt
        refine (insert_any base A es.length c p w3.heap.size es (x, y, z) w4 hown4 (by omega) hv (fun ad h => by
          have := (hlt4 ad.block (by rw [h]; rfl)).2
          omega) hpl hn).mono ?_
        rintro r w5 ⟨hgr, A', c', rfl, ho5⟩
        have bH : w5.heap[w.heap.size]? = w3.heap[w.heap.size]? := (hgr.block w.heap.size (by omega) (fun h => by have := (hlt4 w.heap.size h.symm).2; omega)).trans (hb34.block _ m0)
        have bH1 : w5.heap[w.heap.size + 1]? = w3.heap[w.heap.size + 1]? := (hgr.block (w.heap.size + 1) (by omega) (fun h => by have := (hlt4 (w.heap.size + 1) h.symm).2; omega)).trans (hb34.block _ m1)
        have f0 : w5.cell? ⟨w.heap.size, 0, none⟩ = some (.int .i64 N) := (World.cell?_of_block bH).trans d0
        have f1 : w5.cell? ⟨w.heap.size, 1, none⟩ = some (.slice A es.length c) := (World.cell?_of_block bH).trans d1
        have f2 : w5.cell? ⟨w.heap.size + 1, 0, none⟩ = some (.int .i64 0) := (World.cell?_of_block bH1).trans d2
        have f3 : w5.cell? ⟨w.heap.size + 1, 1, none⟩ = some (.slice none 0 0) := (World.cell?_of_block bH1).trans d3
        have f4 : w5.frozen? ⟨w.heap.size + 1, 0, none⟩ = false := by rw [← d4]; simp only [World.frozen?, bH1]
        have f5 : w5.frozen? ⟨w.heap.size + 1, 1, none⟩ = false := by rw [← d5]; simp only [World.frozen?, bH1]
        have f6 : w5.frozen? ⟨w.heap.size, 1, none⟩ = false := by rw [← d6]; simp only [World.frozen?, bH]
        have hb5 : Below base w w5 := (hb04.mono hbase).grown hgr (by omega) (fun k hk => (hlt4 k hk).1)
        have hz5 : w.heap.size + 2 ≤ w5.heap.size := by have := hgr.size; omega
        have HO5 := Lib.hid ho5
        have HN0 := Lib.hid (own_blk_ne ho5 (bH.trans R0.out) (by decide))
        have HN1 := Lib.hid (own_blk_ne ho5 (bH1.trans R1.out) (by decide))
        have n1 : w.heap.size < w5.heap.size := by omega
        have n2 : w.heap.size + 1 < w5.heap.size := by omega
        clear d0 d1 d2 d3 d4 d5 d6 g0 g1 g2 bH bH1 hgr ho5 hown4 hv hb34 hb03 hb04 hlt4
        go_wp2_with fail
        exact bodyPost_ret (v := .tuple #[.agg #[.int .i64 N, .slice A' (putAt es p (x, y, z)).length c'], .int .i64 0]) (by simp [results, Tryz.results14, go_sem, f2, f3]) rfl (by
          rw [H1.out]
          refine ⟨((hb5.setCell (p := ⟨w.heap.size, 1, none⟩) hbase _).setCell (p := ⟨w.heap.size + 1, 0, none⟩) (by show base ≤ w.heap.size + 1; omega) _).setCell (p := ⟨w.heap.size + 1, 1, none⟩) (by show base ≤ w.heap.size + 1; omega) _, A', c', rfl, ?_⟩
          exact own_set (own_set (own_set HO5.out _ _ _ HN0.out) _ _ _ HN1.out) _ _ _ HN1.out)
    · have H1 := Lib.hid (show readE N es s.data.toList = (edge1 N x y z, es) by rw [HE.out, if_neg h80, if_neg hx])
      have hx1 : (edge1 N x y z != 0) = true := by simpa using hx
      clear HE hx
      go_wp2_with fail
      refine (checkEdge_any _ _ _ _ _).mono ?_
      rintro e w' ⟨rfl, rfl⟩
      go_wp2_with fail
      exact bodyPost_ret (v := .tuple #[.agg #[.int .i64 N, .slice A es.length c], .int .i64 (edge1 N x y z)]) (by simp [results, Tryz.results14, go_sem, c2, c3, al, l1]) rfl (by rw [H1.out]; exact FIN.out _ _ (((hb01.setCell (p := ⟨w.heap.size + 1, 0, none⟩) (by simp) _).setCell (p := ⟨w.heap.size + 1, 1, none⟩) (by simp) _).alloc (by simp; omega) _))
  · have H1 := Lib.hid (show readE N es s.data.toList = (2, es) by rw [HR.out, he])
    clear he HR
    go_wp2_with fail
    exact bodyPost_ret (v := .tuple #[.agg #[.int .i64 N, .slice A es.length c], .int .i64 2]) (by simp [results, Tryz.results14, go_sem, c2, c3, al, l1]) rfl (by rw [H1.out]; exact FIN.out _ 2 (((hb01.setCell (p := ⟨w.heap.size + 1, 0, none⟩) (by simp) _).setCell (p := ⟨w.heap.size + 1, 1, none⟩) (by simp) _).alloc (by simp; omega) _))
theorem rises_iff (es : List Ed) : Rises es ↔ es.Pairwise ltE := by
  rw [List.pairwise_iff_getElem]
  constructor
  · intro h i j hi hj hij
    have := h i j hij hj
    rwa [show eAt es i = es[i] by simp [eAt, hi], show eAt es j = es[j] by simp [eAt, hj]] at this
  · intro h a b hab hb
    have := h a b (by omega) hb hab
    rwa [show eAt es a = es[a] by simp [eAt, (by omega : a < es.length)], show eAt es b = es[b] by simp [eAt, hb]]
theorem mem_ins {es : List Ed} {e y : Ed} : y ∈ insE es e ↔ y = e ∨ y ∈ es := by
  induction es with
  | nil => simp [insE]
  | cons x r ih =>
    unfold insE
    by_cases h : ltE x e
    · rw [if_pos h, List.mem_cons, ih, List.mem_cons]
      constructor
      · rintro (h | h | h)
        · exact .inr (.inl h)
        · exact .inl h
        · exact .inr (.inr h)
      · rintro (h | h | h)
        · exact .inr (.inl h)
        · exact .inl h
        · exact .inr (.inr h)
    · rw [if_neg h, List.mem_cons, List.mem_cons]
theorem ins_len (es : List Ed) (e : Ed) : (insE es e).length = es.length + 1 := by
  induction es with
  | nil => rfl
  | cons x r ih =>
    unfold insE
    split
    · simp [ih]
    · simp
theorem ins_sorted {es : List Ed} {e : Ed} (h : es.Pairwise ltE) (hh : hasE es e = false) : (insE es e).Pairwise ltE := by
  induction es with
  | nil => simp [insE]
  | cons x r ih =>
    rw [List.pairwise_cons] at h
    have hx : ¬ (x.1 = e.1 ∧ x.2.1 = e.2.1) := by
      intro hc
      unfold hasE at hh
      rw [List.any_cons] at hh
      simp [hc.1, hc.2] at hh
    have hr : hasE r e = false := by
      unfold hasE at hh ⊢
      rw [List.any_cons] at hh
      simp only [Bool.or_eq_false_iff] at hh
      exact hh.2
    unfold insE
    by_cases hl : ltE x e
    · rw [if_pos hl, List.pairwise_cons]
      refine ⟨fun y hy => ?_, ih h.2 hr⟩
      rcases mem_ins.1 hy with rfl | hy
      · exact hl
      · exact h.1 y hy
    · rw [if_neg hl, List.pairwise_cons, List.pairwise_cons]
      have hex : ltE e x := by unfold ltE at hl ⊢; omega
      refine ⟨fun y hy => ?_, h.1, h.2⟩
      rcases List.mem_cons.1 hy with rfl | hy
      · exact hex
      · exact ltE_trans hex (h.1 y hy)
/-- A text from a line on: the graph, the line's number, the error. -/
def goL : Nat → Nat → Int → List Ed → List UInt8 → (Int × List Ed) × Nat × Int
  | 0, _, _, _, _ => ((0, []), 0, 0)
  | f + 1, k, N, es, l =>
    if k = 0 then
      if (readH (cutA l)).2 = 0 then (if cutB l = [] then (((readH (cutA l)).1, []), 0, 0) else goL f (k + 1) (readH (cutA l)).1 [] (cutB l))
      else ((0, []), k + 1, (readH (cutA l)).2)
    else
      if (readE N es (cutA l)).1 = 0 then (if cutB l = [] then ((N, (readE N es (cutA l)).2), 0, 0) else goL f (k + 1) N (readE N es (cutA l)).2 (cutB l))
      else ((0, []), k + 1, (readE N es (cutA l)).1)
/-- What a text is read as. -/
def parseL (l : List UInt8) : (Int × List Ed) × Nat × Int := if 4000 < l.length then ((0, []), 0, 3) else goL (l.length + 1) 0 0 [] l
theorem readE_sorted {N : Int} {es : List Ed} {l : List UInt8} (h : es.Pairwise ltE) : (readE N es l).2.Pairwise ltE := by
  unfold readE
  split
  · exact h
  · split
    · exact h
    · split
      · split
        · exact h
        · rename_i hh
          exact ins_sorted h (by simpa using hh)
      · exact h
theorem readE_len {N : Int} {es : List Ed} {l : List UInt8} (h : es.length ≤ 80) : (readE N es l).2.length ≤ 80 := by
  unfold readE
  split
  · exact h
  · split
    · exact h
    · split
      · split
        · exact h
        · rw [ins_len]; omega
      · exact h
theorem blk_set2 {w : World} {g : Nat} {t : TypeId} {a b u v : Value} (h : w.heap[g]? = some (.cells #[a, b] t (0, 0))) : ((w.setCell ⟨g, 0, none⟩ u).setCell ⟨g, 1, none⟩ v).heap[g]? = some (.cells #[u, v] t (0, 0)) := by
  simp [World.setCell, Array.getElem?_modify, h]
theorem blk_far {w : World} {g g' k : Nat} {u : Value} (h : g ≠ g') : (w.setCell ⟨g', k, none⟩ u).heap[g]? = w.heap[g]? := Below.heap_setCell w ⟨g', k, none⟩ u g h
theorem blk_cell {w : World} {g : Nat} {t : TypeId} {cs : Array Value} (h : w.heap[g]? = some (.cells cs t (0, 0))) (i : Nat) : w.cell? ⟨g, i, none⟩ = cs[i]? := cell_of_row w g i cs t (0, 0) h
theorem blk_frozen {w : World} {g : Nat} {t : TypeId} {cs : Array Value} (h : w.heap[g]? = some (.cells cs t (0, 0))) (i : Nat) : w.frozen? ⟨g, i, none⟩ = false := by simp [World.frozen?, h]
def PgRel (q : (Int × List Ed) × Nat × Int) (w : World) (s at_ : Value) (W : World) : Prop :=
  ∃ (f k : Nat) (l : List UInt8) (t : ByteArray) (N : Int) (es : List Ed) (A : Option Addr) (c : Nat), s = .string t ∧ t = ⟨l.toArray⟩ ∧ at_ = .int .i64 k ∧ l.length ≤ 4000 ∧ l.length < f ∧ k + l.length ≤ 4000 ∧ goL f k N es l = q ∧ es.Pairwise ltE ∧ es.length ≤ 80 ∧
    W.heap[w.heap.size]? = some (.cells #[.int .i64 0, .slice none 0 0] 27 (0, 0)) ∧ W.heap[w.heap.size + 1]? = some (.cells #[.int .i64 N, .slice A es.length c] 27 (0, 0)) ∧
    W.ownsRow (w.heap.size + 2) 80 3 (.slice A es.length c) es.length (ec es) ∧ Below w.heap.size w W
theorem own_fr {w : World} {b s n c : Nat} {e : TypeId} {A : Option Addr} {xs : List Value} (h : w.ownsRow b e s (.slice A n c) n xs) : ∀ ad, A = some ad → b ≤ ad.block := by
  intro ad e1
  rcases h.2 with ⟨hv, _⟩ | ⟨g, cap, cur, hv, hb, _⟩
  · injection hv with e2; rw [e2] at e1; cases e1
  · injection hv with e2; rw [e2] at e1; injection e1 with e1; rw [← e1]; exact hb
def PaPost (q : (Int × List Ed) × Nat × Int) (w : World) (r : Ending) (w' : World) : Prop :=
  Below w.heap.size w w' ∧ ∃ A' c', r = .returned (.tuple #[.agg #[.int .i64 q.1.1, .slice A' q.1.2.length c'], .int .i64 q.2.1, .int .i64 q.2.2]) ∧ Lies w' w'.heap.size 3 A' q.1.2.length (ec q.1.2) ∧ q.1.2.length ≤ c' ∧ ∀ ad, A' = some ad → w.heap.size ≤ ad.block
set_option maxHeartbeats 1000000 in
set_option maxRecDepth 100000 in
theorem parse_any (s : ByteArray) (l0 : List UInt8) (w : World) (hs : s = ⟨l0.toArray⟩) (hz : s.size ≤ maxLen) : Calls Tryz.prog 5 #[.string s] w (PaPost (parseL l0) w) := by
  have hsz : s.size = l0.length := by rw [hs]; simp [ByteArray.size]
  have hz' : (s.size : Int) ≤ 9223372036854775807 := by unfold maxLen at hz; omega
  clear hz
  by_cases h4 : 4000 < l0.length
  · have HQ := Lib.hid (show parseL l0 = ((0, []), 0, 3) by unfold parseL; rw [if_pos h4])
    have h5 : 4000 < s.size := by omega
    clear hs hsz h4
    go_enter Tryz.func5, Tryz.ntmps5
    go_wp2_with fail
    go_step3
    go_wp2_with fail
    exact bodyPost_ret (v := .tuple #[.agg #[.int .i64 0, .slice none 0 0], .int .i64 0, .int .i64 3]) (by simp [results, Tryz.results5, go_sem]) rfl (by rw [HQ.out]; exact ⟨below_alloc _ _, none, 0, rfl, Lies.nil, Nat.le_refl _, fun _ h => by cases h⟩)
  · have h5 : ¬ 4000 < s.size := by omega
    have HS := Lib.hid hs
    have HQ := Lib.hid (show goL (l0.length + 1) 0 0 [] l0 = parseL l0 by unfold parseL; rw [if_neg h4])
    generalize parseL l0 = q at *
    clear hs hsz
    go_enter Tryz.func5, Tryz.ntmps5
    go_wp2_with fail
    go_step3
    go_wp2_with fail
    go_step3
    go_wp2_with fail
    go_loopw [0, 6] (fun s k W => PgRel q w s k W) (fun s k W => 4000 - (intOf k).toNat)
    case atStart => 
      refine ⟨l0.length + 1, 0, l0, s, 0, [], none, 0, rfl, HS.out, rfl, by omega, by omega, by omega, HQ.out, List.Pairwise.nil, by simp, ?_, ?_, World.ownsRow_nil _ _ _ _, ?_⟩
      · exact (Below.heap_alloc _ _ _ (by simp)).trans (heap_alloc_new w _)
      · have := heap_alloc_new (w.alloc (.cells #[.int .i64 0, .slice none 0 0] 27)) (.cells #[.int .i64 0, .slice none 0 0] 27); simpa using this
      · exact ((Below.refl _ _).alloc (Nat.le_refl _) _).alloc (by simp) _
    case round =>
      obtain ⟨f, k, l, t, N, es, A, c, rfl, ht, rfl, hl, hf, hkl, hgo, hsort, hlen, hB0, hB1, hown, hb⟩ := hrel
      obtain ⟨f, rfl⟩ : ∃ f', f = f' + 1 := ⟨f - 1, by omega⟩
      have hbl := cutB_len l
      have hal := cutA_len l
      have HGO := Lib.hid hgo
      have HSO := Lib.hid hsort
      have HOW := Lib.hid hown
      have HT := Lib.hid ht
      have Z0 : w.heap.size + 2 ≤ wr.heap.size := by have := (Array.getElem?_eq_some_iff.1 hB1).1; omega
      have HB0 := Lib.hid hB0
      have HB1 := Lib.hid hB1
      clear hgo hsort hown ht hB0 hB1
      go_wp2_with fail
      refine (cut_nl t l _ HT.out hl).mono ?_
      rintro e w1 ⟨a, b, cc, rfl, ha, hbe, hbel⟩
      have had : a.data.toList = cutA l := by rw [ha]
      have haz : a.size ≤ 4000 := by rw [Lib.size_eq, had]; omega
      have D0 := Lib.hid ((hbel.block w.heap.size (by omega)).trans HB0.out)
      have D1 := Lib.hid ((hbel.block (w.heap.size + 1) (by omega)).trans HB1.out)
      have HO1 := Lib.hid (own_next HOW.out hbel)
      have hb1 : Below w.heap.size w w1 := hb.trans (hbel.mono (by omega))
      have Z1 : w.heap.size + 2 ≤ w1.heap.size := by have := hbel.size; omega
      have HAD := Lib.hid had
      have HBE := Lib.hid hbe
      clear had ha hbe HB0 HB1 HOW hbel
      by_cases hk0 : k = 0
      · have hk1 : ((k : Int) + 1 == 1) = true := by rw [hk0]; rfl
        have HK := Lib.hid hk0
        clear hk0
        go_wp2_with fail
        refine (readHead_any a _ haz).mono ?_
        rintro e w2 ⟨rfl, hb12⟩
        rw [HAD.out]
        have E0 := (hb12.block w.heap.size (by omega)).trans D0.out
        have E1 := (hb12.block (w.heap.size + 1) (by omega)).trans D1.out
        have c0 := blk_cell E0 0
        have c1 := blk_cell E0 1
        have c2 := blk_cell E1 0
        have c3 := blk_cell E1 1
        have f0 := blk_frozen E0 0
        have f1 := blk_frozen E0 1
        have f2 := blk_frozen E1 0
        have f3 := blk_frozen E1 1
        simp only [List.getElem?_toArray, List.getElem?_cons_zero, List.getElem?_cons_succ] at c0 c1 c2 c3
        have HE0 := Lib.hid E0
        have HE1 := Lib.hid E1
        have hb2 : Below w.heap.size w w2 := hb1.trans (hb12.mono (by omega))
        have hZ2 : w.heap.size + 2 ≤ w2.heap.size := by have := hb12.size; omega
        clear E0 E1 hb12
        by_cases he : (readH (cutA l)).2 = 0
        · have he1 : ((readH (cutA l)).2 != 0) = false := by simpa using he
          have HE := Lib.hid he
          clear he
          by_cases hre : cutB l = []
          · have HQ2 := Lib.hid (show q = (((readH (cutA l)).1, []), 0, 0) by rw [← HGO.out]; unfold goL; rw [if_pos HK.out]; rw [if_pos HE.out, if_pos hre])
            have hbe : b.toList.isEmpty = true := by rw [Lib.toList_data, HBE.out, hre]; rfl
            clear hre
            go_wp2_with fail
            exact bodyPost_ret (v := .tuple #[.agg #[.int .i64 (readH (cutA l)).1, .slice none 0 0], .int .i64 0, .int .i64 0]) (by simp [results, Tryz.results5, go_sem, c0, c1]) rfl (by
              rw [HQ2.out]
              exact ⟨(((hb2.setCell (p := ⟨w.heap.size + 1, 0, none⟩) (by simp) _).setCell (p := ⟨w.heap.size + 1, 1, none⟩) (by simp) _).setCell (p := ⟨w.heap.size, 0, none⟩) (by simp) _).setCell (p := ⟨w.heap.size, 1, none⟩) (by simp) _, _, _, rfl, Lies.nil, Nat.le_refl _, fun _ h => by cases h⟩)
          · have HQ2 := Lib.hid (show goL f (k + 1) (readH (cutA l)).1 [] (cutB l) = q by rw [← HGO.out]; conv => rhs; unfold goL; rw [if_pos HK.out]; rw [if_pos HE.out, if_neg hre])
            have hbe : b.toList.isEmpty = false := by rw [Lib.toList_data, HBE.out]; simpa using hre
            have hpos : 0 < l.length := by
              rcases Nat.eq_zero_or_pos l.length with h | h
              · rw [List.eq_nil_of_length_eq_zero h] at hre; exact absurd rfl hre
              · exact h
            clear hre
            go_wp2_with fail
            go_roundw
            case rel => exact ⟨f, k + 1, cutB l, b, (readH (cutA l)).1, [], _, _, rfl, HBE.out, by go_num, by omega, by omega, by omega, HQ2.out, List.Pairwise.nil, Nat.zero_le _, (blk_far (by omega)).trans ((blk_far (by omega)).trans HE0.out), blk_set2 HE1.out, World.ownsRow_nil _ _ _ _, (hb2.setCell (p := ⟨w.heap.size + 1, 0, none⟩) (by simp) _).setCell (p := ⟨w.heap.size + 1, 1, none⟩) (by simp) _⟩
            case measure => simp [intOf]; omega
        · have he1 : ((readH (cutA l)).2 != 0) = true := by simpa using he
          have HQ2 := Lib.hid (show q = ((0, []), k + 1, (readH (cutA l)).2) by rw [← HGO.out]; unfold goL; rw [if_pos HK.out]; rw [if_neg he])
          clear he
          go_wp2_with fail
          exact bodyPost_ret (v := .tuple #[.agg #[.int .i64 0, .slice none 0 0], .int .i64 ((k : Int) + 1), .int .i64 (readH (cutA l)).2]) (by simp [results, Tryz.results5, go_sem, c0, c1]) rfl (by
              rw [HQ2.out]
              exact ⟨(((hb2.setCell (p := ⟨w.heap.size + 1, 0, none⟩) (by simp) _).setCell (p := ⟨w.heap.size + 1, 1, none⟩) (by simp) _).setCell (p := ⟨w.heap.size, 0, none⟩) (by simp) _).setCell (p := ⟨w.heap.size, 1, none⟩) (by simp) _, none, 0, by simp, Lies.nil, Nat.le_refl _, fun _ h => by cases h⟩)
      · have hk1 : ((k : Int) + 1 == 1) = false := by rw [beq_eq_false_iff_ne]; omega
        have HK := Lib.hid hk0
        clear hk0
        have C2 := blk_cell D1.out 0
        have C3 := blk_cell D1.out 1
        simp only [List.getElem?_toArray, List.getElem?_cons_zero, List.getElem?_cons_succ] at C2 C3
        go_wp2_with fail
        refine (readEdge_any (w.heap.size + 2) N A es.length c es a _ HO1.out Z1 ((rises_iff es).2 HSO.out) hlen haz).mono ?_
        rintro e w2 ⟨hb12, A', c', rfl, ho2⟩
        rw [HAD.out] at ho2 ⊢
        have HO2 := Lib.hid ho2
        have LN := Lib.hid (readE_len (N := N) (l := cutA l) hlen)
        have SN := Lib.hid (readE_sorted (N := N) (l := cutA l) HSO.out)
        have E0 := (hb12.block w.heap.size (by omega)).trans D0.out
        have E1 := (hb12.block (w.heap.size + 1) (by omega)).trans D1.out
        have c0 := blk_cell E0 0
        have c1 := blk_cell E0 1
        have c2 := blk_cell E1 0
        have c3 := blk_cell E1 1
        have f0 := blk_frozen E0 0
        have f1 := blk_frozen E0 1
        have f2 := blk_frozen E1 0
        have f3 := blk_frozen E1 1
        simp only [List.getElem?_toArray, List.getElem?_cons_zero, List.getElem?_cons_succ] at c0 c1 c2 c3
        have HE0 := Lib.hid E0
        have HE1 := Lib.hid E1
        have hb2 : Below w.heap.size w w2 := hb1.trans (hb12.mono (by omega))
        have hZ2 : w.heap.size + 2 ≤ w2.heap.size := by have := hb12.size; omega
        have HN0 := Lib.hid (own_blk_ne ho2 E0 (by decide))
        have HN1 := Lib.hid (own_blk_ne ho2 E1 (by decide))
        clear E0 E1 hb12 ho2 C2 C3
        by_cases he : (readE N es (cutA l)).1 = 0
        · have he1 : ((readE N es (cutA l)).1 != 0) = false := by simpa using he
          have HE := Lib.hid he
          clear he
          by_cases hre : cutB l = []
          · have HQ2 := Lib.hid (show q = ((N, (readE N es (cutA l)).2), 0, 0) by rw [← HGO.out]; unfold goL; rw [if_neg HK.out]; rw [if_pos HE.out, if_pos hre])
            have hbe : b.toList.isEmpty = true := by rw [Lib.toList_data, HBE.out, hre]; rfl
            clear hre
            go_wp2_with fail
            exact bodyPost_ret (v := .tuple #[.agg #[.int .i64 N, .slice A' (readE N es (cutA l)).2.length c'], .int .i64 0, .int .i64 0]) (by simp [results, Tryz.results5, go_sem, c0, c1]) rfl (by
              rw [HQ2.out]
              exact ⟨(((hb2.setCell (p := ⟨w.heap.size + 1, 0, none⟩) (by simp) _).setCell (p := ⟨w.heap.size + 1, 1, none⟩) (by simp) _).setCell (p := ⟨w.heap.size, 0, none⟩) (by simp) _).setCell (p := ⟨w.heap.size, 1, none⟩) (by simp) _, _, _, rfl, Lies.of_own (own_set (own_set (own_set (own_set HO2.out _ _ _ HN1.out) _ _ _ HN1.out) _ _ _ HN0.out) _ _ _ HN0.out), own_cap HO2.out, fun ad e => Nat.le_trans (by omega) (own_fr HO2.out ad e)⟩)
          · have HQ2 := Lib.hid (show goL f (k + 1) N (readE N es (cutA l)).2 (cutB l) = q by rw [← HGO.out]; conv => rhs; unfold goL; rw [if_neg HK.out]; rw [if_pos HE.out, if_neg hre])
            have hbe : b.toList.isEmpty = false := by rw [Lib.toList_data, HBE.out]; simpa using hre
            have hpos : 0 < l.length := by
              rcases Nat.eq_zero_or_pos l.length with h | h
              · rw [List.eq_nil_of_length_eq_zero h] at hre; exact absurd rfl hre
              · exact h
            clear hre
            go_wp2_with fail
            go_roundw
            case rel => exact ⟨f, k + 1, cutB l, b, N, (readE N es (cutA l)).2, _, _, rfl, HBE.out, by go_num, by omega, by omega, by omega, HQ2.out, SN.out, LN.out, (blk_far (by omega)).trans ((blk_far (by omega)).trans HE0.out), blk_set2 HE1.out, own_set (own_set HO2.out _ _ _ HN1.out) _ _ _ HN1.out, (hb2.setCell (p := ⟨w.heap.size + 1, 0, none⟩) (by simp) _).setCell (p := ⟨w.heap.size + 1, 1, none⟩) (by simp) _⟩
            case measure => simp [intOf]; omega
        · have he1 : ((readE N es (cutA l)).1 != 0) = true := by simpa using he
          have HQ2 := Lib.hid (show q = ((0, []), k + 1, (readE N es (cutA l)).1) by rw [← HGO.out]; unfold goL; rw [if_neg HK.out]; rw [if_neg he])
          clear he
          go_wp2_with fail
          exact bodyPost_ret (v := .tuple #[.agg #[.int .i64 0, .slice none 0 0], .int .i64 ((k : Int) + 1), .int .i64 (readE N es (cutA l)).1]) (by simp [results, Tryz.results5, go_sem, c0, c1]) rfl (by
              rw [HQ2.out]
              exact ⟨(((hb2.setCell (p := ⟨w.heap.size + 1, 0, none⟩) (by simp) _).setCell (p := ⟨w.heap.size + 1, 1, none⟩) (by simp) _).setCell (p := ⟨w.heap.size, 0, none⟩) (by simp) _).setCell (p := ⟨w.heap.size, 1, none⟩) (by simp) _, none, 0, by simp, Lies.nil, Nat.le_refl _, fun _ h => by cases h⟩)
end Go.Proofs.YtpgdddjjjfkneaaGreatDoor
