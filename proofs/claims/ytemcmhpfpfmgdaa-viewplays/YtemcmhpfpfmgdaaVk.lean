import Derived.Test.YtemcmhpfpfmgdaaVw
import Derived.Maps.OwnSet
/-
  Words for a map from numbers to members that a call makes; the contract of view.byId. No condition but that the members rise and are at most a thousand.
-/
namespace Go.Proofs.Ytemcmhpfpfmgdaa
open Go.ChangeShapes Go.WideShapes Go.ChangeAt Go.RowKit Go.Maps
set_option linter.unusedVariables false

/-- How a member in a map reads. -/
def dm (m : Mb) : DataW Unit := .agg [.lit (.int .i64 m.1), .lit (.int .i64 m.2)]
theorem dm_inj {a b : Mb} (h : dm a = dm b) : a = b := by
  unfold dm at h
  obtain ⟨a0, a1⟩ := a
  obtain ⟨b0, b1⟩ := b
  simp at h
  rw [h.1, h.2]
def mv (m : Mb) : Value := .agg #[.int .i64 m.1, .int .i64 m.2]
theorem mv_inj {a b : Mb} (h : mv a = mv b) : a = b := by
  unfold mv at h
  obtain ⟨a0, a1⟩ := a
  obtain ⟨b0, b1⟩ := b
  simp at h
  rw [h.1, h.2]
def rdM : Value → Option (DataW Unit × List MemPlace)
  | .agg ⟨[.int .i64 a, .int .i64 b]⟩ => some (dm (a, b), [])
  | _ => none
theorem rdM_mk (m : Mb) : rdM (mv m) = some (dm m, []) := rfl
theorem rdM_inv {v : Value} {z : DataW Unit × List MemPlace} (h : rdM v = some z) : ∃ m, v = mv m ∧ z = (dm m, []) := by
  unfold rdM at h
  split at h
  · rename_i a b
    injection h with h
    exact ⟨(a, b), rfl, h.symm⟩
  · cases h
theorem law3 : Keyed Try.prog 3 := int_keyed Try.underlying3
theorem zero59 (w : World) : (zeroValue 59).run Try.prog w = .ok (mv (0, 0)) w := Try.zeroValue59 w
/-- What the map answers of a worker. -/
def mo (f : Int → Int) (id : Int) : Mb := if f id = 0 then (0, 0) else (id, f id)
/-- The map's datum has just the members that a function tells. -/
structure MapIs (D : DataW Unit) (f : Int → Int) : Prop where
  isMap : IsMap D
  has : ∀ id : Int, Go.Maps.has D (.int .i64 id) = decide (f id ≠ 0)
  is : ∀ id : Int, f id ≠ 0 → ∀ zd, D.atKey (.int .i64 id) zd = dm (id, f id)
  no : ∀ id : Int, f id = 0 → ∀ zd, D.atKey (.int .i64 id) zd = zd
theorem MapIs.at {D : DataW Unit} {f : Int → Int} (h : MapIs D f) (id : Int) : D.atKey (.int .i64 id) (dm (0, 0)) = dm (mo f id) := by
  unfold mo
  by_cases h0 : f id = 0
  · rw [if_pos h0]; exact h.no id h0 _
  · rw [if_neg h0]; exact h.is id h0 _
theorem MapIs.empty : MapIs (.map []) (fun _ => 0) := ⟨isMap_empty, fun id => by simp [Go.Maps.has], fun id h => absurd rfl h, fun id _ zd => rfl⟩
theorem lit_ne {a b : Int} (h : a ≠ b) : (Lit.int .i64 a) ≠ Lit.int .i64 b := fun e => h (by simpa using e)
theorem MapIs.put {D : DataW Unit} {f : Int → Int} (h : MapIs D f) (id inc : Int) (hi : inc ≠ 0) : MapIs (D.put (.int .i64 id) (dm (id, inc))) (fun x => if x = id then inc else f x) := by
  have hk : WideAt.IsKeyLit (.int .i64 id) := by simp [WideAt.IsKeyLit]
  refine ⟨h.isMap.put _ _, fun x => ?_, fun x hx zd => ?_, fun x hx zd => ?_⟩
  · by_cases e : x = id
    · subst e; rw [has_put_same h.isMap hk]; simp [hi]
    · rw [has_put_other (lit_ne e), h.has]; simp [e]
  · by_cases e : x = id
    · subst e; rw [atKey_put_same h.isMap hk, if_pos rfl]
    · rw [if_neg e] at hx ⊢; rw [atKey_put_other (lit_ne e)]; exact h.is x hx zd
  · by_cases e : x = id
    · subst e; rw [if_pos rfl] at hx; exact absurd hx hi
    · rw [if_neg e] at hx; rw [atKey_put_other (lit_ne e)]; exact h.no x hx zd
theorem MapIs.del {D : DataW Unit} {f : Int → Int} (h : MapIs D f) (id : Int) : MapIs (D.del (.int .i64 id)) (fun x => if x = id then 0 else f x) := by
  refine ⟨h.isMap.del _, fun x => ?_, fun x hx zd => ?_, fun x hx zd => ?_⟩
  · by_cases e : x = id
    · subst e; rw [has_del_same]; simp
    · rw [has_del_other (lit_ne e), h.has]; simp [e]
  · by_cases e : x = id
    · subst e; rw [if_pos rfl] at hx; exact absurd rfl hx
    · rw [if_neg e] at hx ⊢; rw [atKey_del_other (lit_ne e)]; exact h.is x hx zd
  · by_cases e : x = id
    · subst e; rw [atKey_del_same]
    · rw [if_neg e] at hx; rw [atKey_del_other (lit_ne e)]; exact h.no x hx zd
theorem MapIs.to {D : DataW Unit} {f g : Int → Int} (h : MapIs D f) (e : ∀ x, g x = f x) : MapIs D g := by
  have : g = f := funext e
  rw [this]; exact h
theorem wf_of {a : Int} (h : -9223372036854775808 ≤ a ∧ a ≤ 9223372036854775807) : (Lit.int .i64 a).wf = true := WalkArith.wf_i64 (by omega)
theorem key_of {a : Int} (h : (Lit.int .i64 a).wf = true) : keyOf Try.prog 3 (.int .i64 a) = some (.int .i64 a) := keyOf_int_mk Try.underlying3 h
section
variable (w : World) {ops : Array Oper} {rest : List Oper} {o : Oper} {a : Act} {Q : Exit → Act → World → Prop}
/-- 'm[k]' at members. -/
theorem wpList_look (hg : o.guard = none) (m x : Operand) (hop : o.op = Op.lookup 62 m x false) (b n : Nat) (D : DataW Unit) (f : Int → Int)
    (hm : a.eval m = .map (some b)) (hown : w.ownsMap Try.prog 3 rdM b n D) (hD : MapIs D f) (id : Int) (hx : a.eval x = .int .i64 id) (hw : (Lit.int .i64 id).wf = true)
    (hK : wpList Try.prog ops Q rest (a.put o.dst (.agg #[.int .i64 (mo f id).1, .int .i64 (mo f id).2])) w) :
    wpList Try.prog ops Q (o :: rest) a w := by
  refine wpList_plain hg fun K' hK' => ?_
  obtain ⟨v, ps, hrun, hv⟩ := hown.lookup law3 Try.underlying62 (zero59 w) (rdM_mk (0, 0)) (key_of hw)
  obtain ⟨m', rfl, hz⟩ := rdM_inv hv
  rw [hD.at id] at hz
  obtain rfl : mo f id = m' := dm_inj (Prod.mk.inj hz).1
  unfold Oper.wp
  simp [execOp, hop, hm, hx, hrun, Result.andThen]
  exact hK' _ _ hK
end
theorem incL_snoc {l : List Mb} {m : Mb} (x : Int) (h : ∀ b ∈ l, b.1 ≠ m.1) : incL (l ++ [m]) x = if x = m.1 then m.2 else incL l x := by
  induction l with
  | nil =>
    show (if m.1 = x then m.2 else 0) = _
    by_cases e : x = m.1
    · rw [if_pos e.symm, if_pos e]
    · rw [if_neg (fun h => e h.symm), if_neg e]; rfl
  | cons b r ih =>
    have hb := h b (by simp)
    rw [List.cons_append, incL, incL]
    by_cases e : b.1 = x
    · rw [if_pos e, if_pos e, if_neg (by rw [← e]; exact hb)]
    · rw [if_neg e, if_neg e]
      exact ih fun b hb => h b (by simp [hb])
theorem take_lt {l : List Mb} {a : Int} (h : riseM a l = true) {k : Nat} (hk : k < l.length) : ∀ b ∈ l.take k, b.1 ≠ (mAt l k).1 := by
  intro b hb
  obtain ⟨i, hi, rfl⟩ := List.mem_iff_getElem.1 hb
  rw [List.length_take] at hi
  have := List.pairwise_iff_getElem.1 (riseM_pairs h) i k (by omega) hk (by omega)
  rw [List.getElem_take, mAt_get l k hk]
  omega
def BiRel (l : List Mb) (w1 : World) (b : Nat) (i : Value) (W : World) : Prop := ∃ (k : Nat) (D : DataW Unit), i = .int .i64 k ∧ k ≤ l.length ∧ Hid (MapIs D (incL (l.take k))) ∧ Hid (W.ownsMap Try.prog 3 rdM b k D) ∧ Hid (Below w1.heap.size w1 W)
def BiPost (l : List Mb) (w : World) (r : Ending) (w' : World) : Prop := ∃ (b n : Nat) (D : DataW Unit), r = .returned (.map (some b)) ∧ n ≤ l.length ∧ MapIs D (incL l) ∧ w'.ownsMap Try.prog 3 rdM b n D ∧ w.heap.size ≤ b ∧ Below w.heap.size w w'
set_option maxHeartbeats 1000000 in
theorem byid_any (num : Int) (A : Option Addr) (c : Nat) (l : List Mb) (w : World) (hA : Lies w w.heap.size 2 A l.length (mc l)) (hl : riseM 0 l = true) (hn : l.length ≤ 1000) :
    Calls Try.prog 29 #[.agg #[.int .i64 num, .slice A l.length c]] w (BiPost l w) := by
  have d1 : (w.alloc (.cells #[.int .i64 num, .slice A l.length c] 24)).cell? ⟨w.heap.size, 1, none⟩ = some (.slice A l.length c) := by simp [go_sem]
  have HB := Lib.hid (below_alloc w (.cells #[.int .i64 num, .slice A l.length c] 24))
  have HA := Lib.hid (hA.below HB.out)
  have HSZ0 := Lib.hid (show (w.alloc (.cells #[.int .i64 num, .slice A l.length c] 24)).heap.size = w.heap.size + 1 by simp)
  have HL := Lib.hid hl
  have hmm : ∀ (h : Int) (W : World), (Instr.makeMap 62 (some (.int .i64 h))).run Try.prog W = .ok (.map (some W.heap.size)) (W.alloc (.map #[] 0)) := fun h W => by simp [Instr.makeMap, run_underlying Try.underlying62, asInt, asIntOf, Result.andThen]
  clear hA hl
  go_enter Try.func29, Try.ntmps29
  go_upto_region 1 with fail
  generalize w.alloc (.cells #[.int .i64 num, .slice A l.length c] 24) = w1 at d1 HB HA HSZ0 ⊢
  have HO0 := Lib.hid (World.ownsMap_made w1 Try.prog 3 rdM)
  have HB0 := Lib.hid (below_alloc w1 (.map #[] 0))
  have d2 := (HB0.out.cell (p := ⟨w.heap.size, 1, none⟩) (by show w.heap.size < _; rw [HSZ0.out]; omega)).trans d1
  go_wp2_with fail
  go_loopw [5, 13] (fun _ i W => BiRel l w1 w1.heap.size i W) (fun _ i W => l.length - (intOf i).toNat)
  case atStart => exact ⟨0, _, rfl, Nat.zero_le _, Lib.hid (MapIs.empty.to (fun _ => rfl)), HO0, HB0⟩
  case round =>
    obtain ⟨k, D, rfl, hk, HM, HO, HW⟩ := hrel
    by_cases hlt : k < l.length
    · obtain ⟨ad, rfl, hadb, e0, e1⟩ := (HA.out.below ((HW.out).mono (by rw [HSZ0.out]; omega))).mb k hlt
      have hkl : (k : Int) < (l.length : Int) := by omega
      have HT := Lib.hid (mtake_at l k hlt)
      have HI := Lib.hid (fun x => incL_snoc x (take_lt HL.out hlt))
      have HV := Lib.hid (riseM_mem HL.out _ (mAt_mem l k hlt))
      obtain ⟨m, hm⟩ : ∃ m, m = mAt l k := ⟨_, rfl⟩
      rw [← hm] at HT HI HV e0 e1
      clear hm
      obtain ⟨id, inc⟩ := m
      simp only at e0 e1
      have hw := wf_of (a := id) (by have := HV.out; omega)
      have HBA := Lib.hid (below_alloc wr (.cells #[.int .i64 id, .int .i64 inc] 59))
      have f0 : (wr.alloc (.cells #[.int .i64 id, .int .i64 inc] 59)).cell? ⟨wr.heap.size, 0, none⟩ = some (.int .i64 id) := by simp [go_sem]
      have f1 : (wr.alloc (.cells #[.int .i64 id, .int .i64 inc] 59)).cell? ⟨wr.heap.size, 1, none⟩ = some (.int .i64 inc) := by simp [go_sem]
      have HO4 := Lib.hid (HO.out.alloc (.cells #[.int .i64 id, .int .i64 inc] 59))
      have HW4 := Lib.hid (HW.out.trans (HBA.out.mono HW.out.size))
      go_upto_region 5 with fail
      clear e0 e1
      generalize wr.alloc (.cells #[.int .i64 id, .int .i64 inc] 59) = w4 at HBA f0 f1 HO4 HW4 ⊢
      go_wp2_with (first
        | (at_mapUpdate; refine wpList_mapUpdate_own _ rfl _ _ _ 62 rfl 3 59 law3 Try.underlying62 rdM w1.heap.size k D rfl HO4.out (by unfold maxLen; omega) _ _ _ rfl rfl (key_of hw) _ [] (rdM_mk (id, inc)) ?_; intro w6 hown6 hgrow6; have HO6 := Lib.hid hown6; have HG6 := Lib.hid hgrow6; clear hown6 hgrow6)
        | fail)
      go_roundw
      case rel => exact ⟨k + 1, _, by go_num, by omega, Lib.hid ((HM.out.put id inc (by have := HV.out; omega)).to (fun x => by rw [HT.out]; exact HI.out x)), HO6, Lib.hid (HW4.out.grown HG6.out HW4.out.size (fun j hj => by cases hj; exact Nat.le_refl _))⟩
      case measure => simp [intOf]; omega
    · have hk' : k = l.length := by omega
      subst hk'
      have HT := Lib.hid (show l.take l.length = l from List.take_length)
      go_wp2_with fail
      go_ret
      exact ⟨_, _, D, rfl, Nat.le_refl _, HM.out.to (fun x => by rw [HT.out]), HO.out, by rw [HSZ0.out]; omega, HB.out.trans (HW.out.mono HB.out.size)⟩
end Go.Proofs.Ytemcmhpfpfmgdaa
