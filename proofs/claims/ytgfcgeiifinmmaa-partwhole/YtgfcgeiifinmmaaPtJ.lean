/-
  Plain mathematics of joining: values dealt out, messages put in order; words for a state that is being joined. No condition.
-/
import Derived.Test.YtgfcgeiifinmmaaPtH
import Derived.Test.YtgfcgeiifinmmaaPtI
import Derived.Deep.OwnRows
namespace Go.Proofs.Ytgfcgeiifinmmaa
open Go.Sort Go.ChangeShapes Go.WideShapes Go.ChangeAt Go.RowKit
set_option linter.unusedVariables false

theorem ris_len (N : Int) : ∀ (l : List Ms) (a : Int), risB N a l = true → l.length ≤ (N - a - 1).toNat := by
  intro l
  induction l with
  | nil => intro a _; exact Nat.zero_le _
  | cons m r ih =>
    intro a h
    unfold risB at h
    simp only [Bool.and_eq_true, decide_eq_true_eq] at h
    have := ih _ h.2.2
    simp only [List.length_cons]
    omega
theorem right_P {N : Int} {es : List Ed} {p s l q : Int} {x : Pt} (h : rightP N es p s l q x = true) :
    jchk N es p s l q = 0 ∧ (0 ≤ x.P ∧ x.P < q) ∧ (0 ≤ x.step ∧ x.step ≤ 40) ∧ x.vals.length = (verts N.toNat q.toNat x.P.toNat).length ∧ x.rest.length = (verts N.toNat q.toNat x.P.toNat).length ∧ risB N (-1) x.inn = true ∧ ∀ m ∈ x.inn, toHome q.toNat x.P.toNat m = true := by
  unfold rightP at h
  simp only [Bool.and_eq_true, decide_eq_true_eq, List.all_eq_true] at h
  exact ⟨h.1, h.2.1, h.2.2.1, h.2.2.2.1, h.2.2.2.2.1, h.2.2.2.2.2.1, h.2.2.2.2.2.2⟩
/-- What is known of partitions that may be joined. -/
structure Jn (n q : Nat) (L : List Pt) : Prop where
  len : L.length = q
  q1 : 1 ≤ q
  q6 : q ≤ 6
  n24 : n ≤ 24
  vl : ∀ k, k < q → (pAt L k).vals.length = (verts n q k).length
  rl : ∀ k, k < q → (pAt L k).rest.length = (verts n q k).length
  ris : ∀ k, k < q → risB n (-1) (pAt L k).inn = true
  home : ∀ k, k < q → ∀ m ∈ (pAt L k).inn, toHome q k m = true
theorem Jn.of {N : Int} {es : List Ed} {p s l q : Int} {L : List Pt} (hj : jchk N es p s l q = 0) (h : joinB N es p s l q L = true) : Jn N.toNat q.toNat L := by
  obtain ⟨hl, hg⟩ := good_of h
  have hb := badJ_not (jchk_zero hj).2
  have hN := jchk_N hj
  have key : ∀ k, k < q.toNat → (pAt L k).P = k ∧ rightP N es p s l q (pAt L k) = true := fun k hk => by
    have := hg k (by omega)
    unfold goodB at this
    simp only [Bool.and_eq_true, decide_eq_true_eq] at this
    exact ⟨this.1, this.2.2⟩
  have hNn : ((N.toNat : Nat) : Int) = N := by omega
  refine ⟨by omega, by omega, by omega, by omega, fun k hk => ?_, fun k hk => ?_, fun k hk => ?_, fun k hk => ?_⟩
  all_goals
    obtain ⟨hP, hR⟩ := key k hk
    have := right_P hR
    rw [hP, Int.toNat_natCast] at this
  · exact this.2.2.2.1
  · exact this.2.2.2.2.1
  · rw [hNn]; exact this.2.2.2.2.2.1
  · exact this.2.2.2.2.2.2
theorem Jn.at {n q : Nat} {L : List Pt} (h : Jn n q L) {k i : Nat} (hk : k < q) (hi : i < (pAt L k).vals.length) : k + i * q < n ∧ (k + i * q) % q = k ∧ (k + i * q) / q = i := by
  have h1 := h.q1
  have h2 := verts_spec n q k h.q1 h.q6 hk
  rw [h.vl k hk] at hi
  have h3 := h2.2 i hi
  have h4 := (verts_mem (n := n) (q := q) (k := k)).1 (List.getElem_mem hi)
  rw [h3] at h4
  refine ⟨h4.1, h4.2, ?_⟩
  rw [Nat.add_mul_div_right _ _ (by omega), Nat.div_eq_of_lt hk, Nat.zero_add]
/-- The first parts are dealt out, and i values of part k. -/
def Jv {α : Type} (n q : Nat) (f : Nat → α) (a : List α → Nat → α) (k i : Nat) (vs : List α) : Prop := vs.length = n ∧ ∀ v, v < n → (v % q < k ∨ (v % q = k ∧ v / q < i)) → a vs v = f v
theorem Jv.set {n q : Nat} {f : Nat → Int} {k i : Nat} {vs : List Int} (h : Jv n q f vAt k i vs) (hv : k + i * q < n) (hm : (k + i * q) % q = k) (hd : (k + i * q) / q = i) {x : Int} (hx : x = f (k + i * q)) : Jv n q f vAt k (i + 1) (vs.set (k + i * q) x) := by
  refine ⟨by rw [List.length_set]; exact h.1, fun v hvn hc => ?_⟩
  rw [vAt_get _ _ (by rw [List.length_set, h.1]; exact hvn), List.getElem_set]
  by_cases e : k + i * q = v
  · rw [if_pos e, hx, e]
  · rw [if_neg e, ← vAt_get _ _ (by rw [h.1]; exact hvn)]
    apply h.2 v hvn
    rcases hc with hc | ⟨h1, h2⟩
    · exact .inl hc
    · refine .inr ⟨h1, ?_⟩
      rcases Nat.lt_succ_iff_lt_or_eq.1 h2 with h3 | h3
      · exact h3
      · exfalso; apply e
        have := Nat.div_add_mod v q
        rw [h1, h3] at this
        rw [← this, Nat.mul_comm, Nat.add_comm]
theorem Jv.setR {n q : Nat} {f : Nat → Bool} {k i : Nat} {vs : List Bool} (h : Jv n q f rAt k i vs) (hv : k + i * q < n) (hm : (k + i * q) % q = k) (hd : (k + i * q) / q = i) {x : Bool} (hx : x = f (k + i * q)) : Jv n q f rAt k (i + 1) (vs.set (k + i * q) x) := by
  refine ⟨by rw [List.length_set]; exact h.1, fun v hvn hc => ?_⟩
  rw [rAt_get _ _ (by rw [List.length_set, h.1]; exact hvn), List.getElem_set]
  by_cases e : k + i * q = v
  · rw [if_pos e, hx, e]
  · rw [if_neg e, ← rAt_get _ _ (by rw [h.1]; exact hvn)]
    apply h.2 v hvn
    rcases hc with hc | ⟨h1, h2⟩
    · exact .inl hc
    · refine .inr ⟨h1, ?_⟩
      rcases Nat.lt_succ_iff_lt_or_eq.1 h2 with h3 | h3
      · exact h3
      · exfalso; apply e
        have := Nat.div_add_mod v q
        rw [h1, h3] at this
        rw [← this, Nat.mul_comm, Nat.add_comm]
theorem Jv.next {α : Type} {n q : Nat} {f : Nat → α} {a : List α → Nat → α} {k i : Nat} {vs : List α} (h : Jv n q f a k i vs) (hi : ∀ v, v < n → v % q = k → v / q < i) : Jv n q f a (k + 1) 0 vs :=
  ⟨h.1, fun v hv hc => h.2 v hv (by
    rcases hc with hc | ⟨_, hc⟩
    · rcases Nat.lt_succ_iff_lt_or_eq.1 hc with h3 | h3
      · exact .inl h3
      · exact .inr ⟨h3, hi v hv h3⟩
    · exact absurd hc (Nat.not_lt_zero _))⟩
theorem Jn.all {n q : Nat} {L : List Pt} (h : Jn n q L) {k : Nat} (hk : k < q) : ∀ v, v < n → v % q = k → v / q < (pAt L k).vals.length := by
  intro v hv hm
  obtain ⟨hlt, _⟩ := verts_at (q := q) h.q1 h.q6 hv
  rw [hm] at hlt
  rw [h.vl k hk]; exact hlt
theorem Jv.end {n q : Nat} {f : Nat → Int} {vs : List Int} (hq : 1 ≤ q) (h : Jv n q f vAt q 0 vs) : vs = (List.range n).map f := by
  apply List.ext_getElem
  · rw [h.1]; simp
  · intro i h1 h2
    rw [← vAt_get _ _ h1, h.2 i (by rw [← h.1]; exact h1) (.inl (Nat.mod_lt _ hq))]; simp
theorem Jv.endR {n q : Nat} {f : Nat → Bool} {vs : List Bool} (hq : 1 ≤ q) (h : Jv n q f rAt q 0 vs) : vs = (List.range n).map f := by
  apply List.ext_getElem
  · rw [h.1]; simp
  · intro i h1 h2
    rw [← rAt_get _ _ h1, h.2 i (by rw [← h.1]; exact h1) (.inl (Nat.mod_lt _ hq))]; simp
/-- All messages of the first k partitions. -/
def msJ (L : List Pt) (k : Nat) : List Ms := (List.range k).flatMap fun j => (pAt L j).inn
theorem msJ_succ (L : List Pt) (k : Nat) : msJ L (k + 1) = msJ L k ++ (pAt L k).inn := by unfold msJ; rw [List.range_succ, List.flatMap_append]; simp
theorem Jn.len24 {n q : Nat} {L : List Pt} (h : Jn n q L) {k : Nat} (hk : k < q) : (pAt L k).inn.length ≤ 24 := by
  have := ris_len n _ _ (h.ris k hk)
  have := h.n24
  omega
theorem Jn.msJ {n q : Nat} {L : List Pt} (h : Jn n q L) (k : Nat) (hk : k ≤ q) : (msJ L k).length ≤ k * 24 := by
  induction k with
  | zero => unfold Ytgfcgeiifinmmaa.msJ; simp
  | succ k ih =>
    rw [msJ_succ, List.length_append]
    have := ih (by omega)
    have := h.len24 (show k < q by omega)
    omega
/-- The messages, sorted by To, are those of the joined state. -/
theorem Jn.sorted {n q : Nat} {L : List Pt} (h : Jn n q L) {l' : List Ms} (hp : l'.Perm (Ytgfcgeiifinmmaa.msJ L q)) (hs : l'.Pairwise fun a b => a.1 ≤ b.1) :
    l' = (List.range n).flatMap fun (v : Nat) => (pAt L (v % q)).inn.filter fun m => m.1 == (v : Int) := by
  have hq := h.q1
  have hne : (Ytgfcgeiifinmmaa.msJ L q).Pairwise fun a b => a.1 ≠ b.1 := by
    unfold Ytgfcgeiifinmmaa.msJ
    rw [List.pairwise_flatMap]
    refine ⟨fun k hk => ?_, ?_⟩
    · exact (ris_ris n (-1) _ (h.ris k (List.mem_range.1 hk))).imp fun {a b} hab => by omega
    · refine List.Pairwise.imp_of_mem ?_ List.nodup_range
      intro a b ha hb hab x hx y hy e
      have h1 := h.home a (List.mem_range.1 ha) x hx
      have h2 := h.home b (List.mem_range.1 hb) y hy
      unfold toHome at h1 h2
      simp only [Bool.and_eq_true, decide_eq_true_eq, beq_iff_eq] at h1 h2
      rw [e] at h1
      exact hab (h1.2.symm.trans h2.2)
  have hl : Ris l' := by
    have h1 := (hp.pairwise_iff (R := fun a b : Ms => a.1 ≠ b.1) (fun hab => hab.symm)).2 hne
    exact (hs.and h1).imp fun {a b} hab => by omega
  have ht : Ris ((List.range n).flatMap fun (v : Nat) => (pAt L (v % q)).inn.filter fun m => m.1 == (v : Int)) := by
    unfold Ris
    rw [List.pairwise_flatMap]
    refine ⟨fun v hv => ?_, ?_⟩
    · exact (ris_ris n (-1) _ (h.ris (v % q) (Nat.mod_lt _ hq))).filter _
    · refine List.Pairwise.imp ?_ (List.pairwise_lt_range (n := n))
      intro a b hab x hx y hy
      have h1 := (List.mem_filter.1 hx).2
      have h2 := (List.mem_filter.1 hy).2
      simp only [beq_iff_eq] at h1 h2
      omega
  have nd : ∀ {l : List Ms}, Ris l → l.Nodup := fun {l} hr => hr.imp fun {a b} hab e => by rw [e] at hab; omega
  have toS : ∀ {l : List Ms}, Ris l → Srt l := fun {l} hr => hr.imp fun {a b} hab => by rw [ltM_not]; omega
  refine srt_uniq _ _ (toS hl) (toS ht) ?_
  rw [List.perm_ext_iff_of_nodup (nd hl) (nd ht)]
  intro m
  rw [hp.mem_iff]
  unfold Ytgfcgeiifinmmaa.msJ
  simp only [List.mem_flatMap, List.mem_range, List.mem_filter, beq_iff_eq]
  constructor
  · rintro ⟨k, hk, hm⟩
    have h1 := h.home k hk m hm
    have h2 := ris_to n (-1) _ (h.ris k hk) m hm
    unfold toHome at h1
    simp only [Bool.and_eq_true, decide_eq_true_eq, beq_iff_eq] at h1
    exact ⟨m.1.toNat, by omega, by rw [h1.2]; exact hm, by omega⟩
  · rintro ⟨v, hv, hm, _⟩
    exact ⟨v % q, Nat.mod_lt _ hq, hm⟩
theorem made_v (m : Nat) : (madeCells #[.int .i64 0] m).toList = vc (List.replicate m 0) := by rw [toList_madeCells_one]; simp [vc]
theorem made_r (m : Nat) : (madeCells #[.bool false] m).toList = rc (List.replicate m false) := by rw [toList_madeCells_one]; simp [rc]
theorem qs_three {w5 W : World} {m bn gV gR : Nat} {st : Int} {zv zr : Array Value} (hzv : zv.toList = vc (List.replicate m 0)) (hzr : zr.toList = rc (List.replicate m false)) (hm : m ≤ maxLen) (hb : Below w5.heap.size w5 W) (hv : W.heap[gV]? = some (.cells zv 2)) (hr : W.heap[gR]? = some (.cells zr 4))
    (hn : W.heap[bn]? = some (.cells #[.int .i64 st, .slice (some ⟨gV, 0, none⟩) m m, .slice (some ⟨gR, 0, none⟩) m m, .slice none 0 0] 40)) (lv : w5.heap.size ≤ gV) (lr : w5.heap.size ≤ gR) (ln : w5.heap.size ≤ bn) :
    Qs w5 bn st (some ⟨gV, 0, none⟩) m (some ⟨gR, 0, none⟩) m none 0 (List.replicate m 0) (List.replicate m false) [] W := by
  have sv : zv.size = m := by rw [← Array.length_toList, hzv, vc_len]; simp
  have sr : zr.size = m := by rw [← Array.length_toList, hzr, rc_len]; simp
  refine ⟨hb, by simpa using hn, ?_, ?_, World.ownsRow_nil _ _ _ _, ln⟩
  · rw [List.length_replicate]
    refine ⟨by rw [vc_len]; simp, .inr ⟨gV, m, zv, rfl, lv, hv, Nat.le_refl _, hm, by rw [sv, Nat.mul_one], ?_⟩⟩
    rw [hzv, Nat.mul_one]; exact List.take_of_length_le (by rw [vc_len]; simp)
  · rw [List.length_replicate]
    refine ⟨by rw [rc_len]; simp, .inr ⟨gR, m, zr, rfl, lr, hr, Nat.le_refl _, hm, by rw [sr, Nat.mul_one], ?_⟩⟩
    rw [hzr, Nat.mul_one]; exact List.take_of_length_le (by rw [rc_len]; simp)
section
variable {wb : World} {bo : Nat} {st : Int} {gV cV gR cR : Nat} {M : Option Addr} {cM : Nat} {vs : List Int} {rs : List Bool} {ms : List Ms} {W W' : World}
theorem Qs.apart (h : Qs wb bo st (some ⟨gV, 0, none⟩) cV (some ⟨gR, 0, none⟩) cR M cM vs rs ms W) : gV ≠ gR ∧ gV ≠ bo ∧ gR ≠ bo ∧ (Value.slice M ms.length cM).ownBlock ≠ some gV ∧ (Value.slice M ms.length cM).ownBlock ≠ some gR ∧ wb.heap.size ≤ gV ∧ wb.heap.size ≤ gR := by
  have h1 := own_ne h.v h.nb (by decide)
  have h2 := own_ne h.r h.nb (by decide)
  have h3 := (h.v.lt gV rfl)
  have h4 := (h.r.lt gR rfl)
  have kV : ∃ cur, W.heap[gV]? = some (.cells cur 2) := by
    rcases h.v.2 with ⟨hv, _⟩ | ⟨g, cap, cur, hv, _, hh, _⟩
    · injection hv with e1; cases e1
    · injection hv with e1; injection e1 with e1; injection e1 with e1; subst e1; exact ⟨cur, hh⟩
  have kR : ∃ cur, W.heap[gR]? = some (.cells cur 4) := by
    rcases h.r.2 with ⟨hv, _⟩ | ⟨g, cap, cur, hv, _, hh, _⟩
    · injection hv with e1; cases e1
    · injection hv with e1; injection e1 with e1; injection e1 with e1; subst e1; exact ⟨cur, hh⟩
  obtain ⟨cu, ku⟩ := kV
  obtain ⟨cu2, ku2⟩ := kR
  exact ⟨fun e => own_ne h.r ku (by decide) (by rw [e]; rfl), fun e => h1 (by rw [e]; rfl), fun e => h2 (by rw [e]; rfl), own_ne h.m ku (by decide), own_ne h.m ku2 (by decide), h3.1, h4.1⟩
theorem Qs.set (h : Qs wb bo st (some ⟨gV, 0, none⟩) cV (some ⟨gR, 0, none⟩) cR M cM vs rs ms W) (k : Nat) (x : Int) (b : Bool) :
    Qs wb bo st (some ⟨gV, 0, none⟩) cV (some ⟨gR, 0, none⟩) cR M cM (vs.set k x) (rs.set k b) ms ((W.setCell ⟨gV, k, none⟩ (.int .i64 x)).setCell ⟨gR, k, none⟩ (.bool b)) := by
  obtain ⟨n1, n2, n3, n6, n7, n4, n5⟩ := h.apart
  have v1 := (h.v.stored k (.int .i64 x)).1
  rw [vc_set] at v1
  have r1 := (ownsRow_setCell_other h.r (a := ⟨gV, k, none⟩) (fun e => n1 (by simpa [Value.ownBlock] using e.symm)) (.int .i64 x))
  have r2 := (r1.stored k (.bool b)).1
  rw [rc_set] at r2
  refine ⟨(h.bl.setCell (p := ⟨gV, k, none⟩) n4 _).setCell (p := ⟨gR, k, none⟩) n5 _, ?_, ?_, ?_, ?_, h.hb⟩
  · rw [Below.heap_setCell _ _ _ _ (fun e => n3 e.symm), Below.heap_setCell _ _ _ _ (fun e => n2 e.symm), List.length_set, List.length_set]
    exact h.nb
  · rw [List.length_set]; exact ownsRow_setCell_other v1 (a := ⟨gR, k, none⟩) (fun e => n1 (by simpa [Value.ownBlock] using e)) _
  · rw [List.length_set]; exact r2
  · exact ownsRow_setCell_other (ownsRow_setCell_other h.m (a := ⟨gV, k, none⟩) n6 _) (a := ⟨gR, k, none⟩) n7 _
/-- The messages are put in another order. -/
theorem Qs.sort {V R : Option Addr} (h : Qs wb bo st V cV R cR M cM vs rs ms W) {ms' : List Ms} (hl : ms'.length = ms.length) (ho : W'.ownsRow wb.heap.size 61 2 (.slice M ms.length cM) ms.length (mc ms')) (hg : W.grownBy W' (Value.slice M ms.length cM).ownBlock) : Qs wb bo st V cV R cR M cM vs rs ms' W' :=
  ⟨h.bl.grown hg h.bl.size (fun k hk => (h.m.lt k hk).1), by rw [hl]; exact h.blk h.m (by decide) hg, own_apart h.v h.m hg (by decide), own_apart h.r h.m hg (by decide), by rw [hl]; exact ho, h.hb⟩
end
end Go.Proofs.Ytgfcgeiifinmmaa
