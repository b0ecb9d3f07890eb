import Derived.Test.YtemcmhpfpfmgdaaVk
import Derived.Shelf.SlIter.Collect
import Derived.Lib.SlKeysI
import Derived.RangeFuncGives
import Derived.Sort.MapsRangeIn
import Derived.Sort.KeysCollected
import Derived.WalkKit
import Derived.OwnWalkIn
import Derived.TacticsInMore
import Derived.RegionIn
import Derived.LoopNIn
import Derived.LoopIn
import Derived.Shelf.AbstractIn
/-
  The contracts of maps.Values over a map of members and of its iterator; of slices.AppendSeq and slices.Collect at members, against whatever iterator. No condition but that there are at most a thousand.
-/
namespace Go.Proofs.Ytemcmhpfpfmgdaa
open Go.RowKit Go.Maps Go.Sort Go.Shelf
set_option linter.unusedVariables false

/-- All members that a function tells, each once, in some order. -/
def AllOf (f : Int → Int) (ms : List Mb) : Prop := (ms.map (·.1)).Nodup ∧ ∀ m : Mb, m ∈ ms ↔ (f m.1 = m.2 ∧ m.2 ≠ 0)

set_option maxRecDepth 100000 in
set_option maxHeartbeats 1000000 in
/-- The iterator over a map's members, for every loop body that goes on. -/
theorem values1 (n : Nat) (hn : 1 ≤ n) (l Bm b nn : Nat) (D0 : DataW Unit) (f : Int → Int) (hD : MapIs D0 f) (J : List Mb → World → Prop)
    (hY : ∀ pre x W, J pre W → pre.length < Maps.size D0 → YieldAt Fence.wide (n - 1) Try.prog l #[mv x] W fun e W' => e = .returned (.bool true) ∧ J (pre ++ [x]) W' ∧ KeepsWalks W W')
    (W : World) (hJ : AbidesFrom W.heap.size J) (hm : W.cell? ⟨Bm, 0, none⟩ = some (.map (some b))) (hown : W.ownsMap Try.prog 3 rdM b nn D0) (h0 : J [] W) :
    CallsIn Fence.wide n Try.prog 40 #[.func (.yield l) #[] #[], .pointer (some ⟨Bm, 0, none⟩)] W fun e W' => (∃ v, e = .returned v) ∧ ∃ ms : List Mb, AllOf f ms ∧ J ms W' := by
  refine callsIn_of_wp Try.func40 rfl trivial ?_ rfl
  simp only [Try.ntmps40, List.size_toArray, List.length_cons, List.length_nil, Nat.reduceAdd, Nat.reduceSub, Array.replicate_succ, Array.replicate_zero, List.push_toArray, List.append_toArray, List.nil_append, List.cons_append]
  gi_wp2_with (first
    | (gi_at_range; refine wpListIn_range_own _ rfl _ 62 rfl 3 59 law3 Try.underlying62 _ b nn _ rfl hown ?_; intro w0 hrg0 hg0 hs0)
    | gi_in)
  go_frame
  gi_loopw [4] (fun _ wr => ∃ (left : Lit → Bool) (cnt : Nat) (ms : List Mb), wr.ranges Try.prog 3 rdM b W.heap.size nn D0 left cnt ∧ ms.length + cnt ≤ Maps.size D0 ∧ CollectedI D0 left (ms.map (·.1)) ∧ (∀ m ∈ ms, f m.1 = m.2 ∧ m.2 ≠ 0) ∧ J ms wr)
    (fun _ wr => wr.rangeLeft b W.heap.size)
  case atStart =>
    exact ⟨_, _, [], hrg0, by simp, CollectedI.start D0, by simp, hJ [] W w0 none h0 hg0 (fun r e => by cases e)⟩
  case round =>
    obtain ⟨left, cnt, ms, hrg, hcs, hC, hV, hJs⟩ := hrel
    gi_wp2_with (first
      | (gi_at_next; refine wpListIn_next_ranges _ rfl _ rfl 3 law3 rdM encZ mv (fun key kl hk => by obtain ⟨x, hx, _⟩ := Maps.keyOf_i64 Try.underlying3 hk; exact ⟨x, hx⟩) (fun v y hv => by obtain ⟨c, rfl, _⟩ := rdM_inv hv; exact ⟨c, rfl⟩) b W.heap.size nn _ _ _ rfl hrg ?_ ?_)
      | gi_in)
    · intro hc0 hl0
      gi_wp2
      go_end0
      refine ⟨⟨_, rfl⟩, ms, ⟨hC.1, fun m => ?_⟩, hJs⟩
      constructor
      · exact hV m
      · rintro ⟨h1, h2⟩
        have h3 : m.1 ∈ ms.map (·.1) := (hC.2 m.1).2 ⟨by rw [hD.has, h1]; simpa using h2, hl0 _⟩
        obtain ⟨m', hm', e⟩ := List.mem_map.1 h3
        have h4 := (hV m' hm').1
        have : m' = m := by
          obtain ⟨a, b⟩ := m
          obtain ⟨a', b'⟩ := m'
          simp only at e h1 h4
          subst e
          rw [h1] at h4
          rw [h4]
        rw [← this]; exact hm'
    · intro x c0 c1 kl yd yp w2 cnt2 hkey hlk hv hat hrg2 hlt hg2 hs2 hen
      obtain ⟨x', ex, rfl, _⟩ := Maps.keyOf_i64 Try.underlying3 hkey
      obtain rfl : x = x' := encZ_inj ex
      obtain ⟨c', ec, ez⟩ := rdM_inv hv
      obtain rfl : (c0, c1) = c' := mv_inj ec
      obtain rfl : yd = dm (c0, c1) := (Prod.mk.inj ez).1
      have hfx : f x ≠ 0 := by
        have h1 : has D0 (.int .i64 x) = true := has_true_of_atKey hat
        rw [hD.has] at h1
        simpa using h1
      have hcc : (x, f x) = (c0, c1) := dm_inj ((hD.is x hfx (dm (0, 0))).symm.trans (hat _))
      obtain ⟨rfl, rfl⟩ : x = c0 ∧ f x = c1 := ⟨(Prod.mk.inj hcc).1, (Prod.mk.inj hcc).2⟩
      have hJ2 : J ms w2 := hJ ms wr w2 (some W.heap.size) hJs hg2 (fun r e => by cases e; exact ⟨Nat.le_refl _, hrg.iter_walk⟩)
      have hJ3 : J ms (w2.alloc (.cells #[.int .i64 x, .int .i64 (f x)] 59)) := hJ ms w2 _ none hJ2 (World.grownBy_alloc _ _ none) (fun r e => by cases e)
      obtain ⟨fn, tmps, assign, body, hy, hR⟩ := hY ms (x, f x) _ hJ3 (by omega)
      dsimp only [mv] at hy hen
      clear hs2 hat
      gi_wp2
      refine hR.mono ?_
      have hC2 : CollectedI D0 (fun z => left z && !z.sameKey (.int .i64 x)) ((ms ++ [(x, f x)]).map (·.1)) := by
        have := hC.step hlk (hD.is x hfx)
        simpa using this
      have hV2 : ∀ m ∈ ms ++ [(x, f x)], f m.1 = m.2 ∧ m.2 ≠ 0 := fun m hm => (List.mem_append.1 hm).elim (hV m) (fun e => by simp at e; subst e; exact ⟨rfl, hfx⟩)
      rintro e W3 ⟨rfl, hJ4, hk3⟩
      gi_wp2
      have hrg3 := (hrg2.alloc _).of_walks hk3
      go_roundw
      case rel => exact ⟨_, cnt2, ms ++ [(x, f x)], hrg3, by simp; omega, hC2, hV2, hJ4⟩
      case measure => rw [hrg3.left_eq, hrg.left_eq]; exact hlt
theorem values_in (n : Nat) (mb : Option Nat) (w : World) :
    CallsIn Fence.wide n Try.prog 36 #[.map mb] w fun e w' => e = .returned (.func (.func 40) #[] #[.pointer (some ⟨w.heap.size, 0, none⟩)]) ∧ w' = w.alloc (.cells #[.map mb] 62) := by
  refine callsIn_of_wp Try.func36 rfl trivial ?_ rfl
  simp only [Try.ntmps36, List.size_toArray, List.length_cons, List.length_nil, Nat.reduceAdd, Nat.reduceSub, Array.replicate_succ, Array.replicate_zero, List.push_toArray, List.append_toArray, List.nil_append, List.cons_append]
  gi_wp2
  go_ret
  exact ⟨rfl, rfl⟩
/-- What maps.Values hands back gives all members. -/
theorem values_gives (n : Nat) (hn : 1 ≤ n) (Bm b nn : Nat) (D0 : DataW Unit) (f : Int → Int) (hD : MapIs D0 f) (w : World) (hBm : Bm < w.heap.size)
    (hm : w.cell? ⟨Bm, 0, none⟩ = some (.map (some b))) (hown : w.ownsMap Try.prog 3 rdM b nn D0) :
    SeqGives Fence.wide n Try.prog 40 #[.pointer (some ⟨Bm, 0, none⟩)] mv (AllOf f) (Maps.size D0) w := fun l J W hW hJ hY h0 => by
  have hown' : W.ownsMap Try.prog 3 rdM b nn D0 := by
    have hbl := hown.lt
    obtain ⟨es, clock, hb, Ft, hs, hD⟩ := hown
    exact ⟨es, clock, (hW.block b hbl).trans hb, Ft, hs, hD⟩
  exact values1 n hn l Bm b nn D0 f hD J hY W hJ ((hW.cell (p := ⟨Bm, 0, none⟩) hBm).trans hm) hown' h0

def apAssign : Code := (Code.region 2 #[{ dst := some 5, op := Op.alloc 59, type := 0, pos := "iter.go:51", after := #[], guard := none }, { dst := none, op := Op.store 59 (Operand.tmp 5) (Operand.tmp 7), type := 0, pos := "iter.go:51", after := #[{ on := 0, ground := Ground.data }, { on := 0, ground := Ground.phase }], guard := none }] false)
def apBody : Code := (Code.block 1 (Code.region 3 #[{ dst := some 8, op := Op.load 22 (Operand.tmp 2), type := 22, pos := "iter.go:52", after := #[], guard := none }, { dst := some 9, op := Op.load 59 (Operand.tmp 5), type := 59, pos := "iter.go:52", after := #[], guard := none }, { dst := some 10, op := Op.buildSlice 22 1 #[(0, Operand.tmp 9)], type := 22, pos := "iter.go:52", after := #[{ on := 1, ground := Ground.data }], guard := none }, { dst := some 11, op := Op.call { callee := Callee.builtin Builtin.append, args := #[Operand.tmp 8, Operand.tmp 10], argTypes := #[22, 22] }, type := 22, pos := "iter.go:52", after := #[{ on := 0, ground := Ground.data }, { on := 2, ground := Ground.data }], guard := none }, { dst := none, op := Op.store 22 (Operand.tmp 2) (Operand.tmp 11), type := 0, pos := "iter.go:52", after := #[{ on := 3, ground := Ground.data }, { on := 3, ground := Ground.chain }, { on := 0, ground := Ground.phase }, { on := 1, ground := Ground.phase }, { on := 2, ground := Ground.phase }, { on := 3, ground := Ground.phase }], guard := none }] false))
def apRec (fn : FuncId) (sv : Value) (Bs D : Nat) (st : LoopState) (pend : Option Code) : Loop :=
  { state := st, pending := pend, fn, tmps := #[.slice none 0 0, sv, .pointer (some ⟨Bs, 0, none⟩), undef, .slice none 0 0, undef, sv, undef, undef, undef, undef, undef, undef], params := #[7], assign := apAssign, body := apBody, defers := D }
/-- Between two rounds: the box holds a slice of the call's own with what has come so far; nothing that lay before the call has turned. -/
structure ApAt (w0 : World) (fn : FuncId) (sv : Value) (Bs l D : Nat) (ms : List Mb) (W : World) : Prop where
  box : ∃ A c, W.heap[Bs]? = some (.cells #[.slice A ms.length c] 22 (0, 0)) ∧ W.ownsRow w0.heap.size 59 2 (.slice A ms.length c) ms.length (mc ms)
  L : W.heap[l]? = some (.loop (apRec fn sv Bs D .ready none))
  K : W.heap[D]? = some (.deferred (some []))
  below : Below w0.heap.size w0 W
theorem ap_abides (w0 : World) (fn : FuncId) (sv : Value) (Bs l D B : Nat) (hB : w0.heap.size ≤ B) : AbidesFrom B (ApAt w0 fn sv Bs l D) := fun s W W' row h hg hrow => by
  have hrow' : ∀ r, row = some r → ∃ o : Obj, W.heap[r]? = some o ∧ o.isWalk = true := fun r e => (hrow r e).2
  obtain ⟨A, c, hv, hr⟩ := h.box
  exact ⟨⟨A, c, (grownBy_keeps hg hrow' hv rfl).trans hv, ownsRow_abides_a hr hg hrow'⟩, (grownBy_keeps hg hrow' h.L rfl).trans h.L, (grownBy_keeps hg hrow' h.K rfl).trans h.K,
    h.below.grown hg h.below.size (fun k e => Nat.le_trans hB (hrow k e).1)⟩
theorem info59 : (Try.prog.info? 59).map (fun i => (i.zero, i.size, i.bytes)) = some (some (.agg #[.int .i64 0, .int .i64 0]), 2, 16) := by kernel_rfl
theorem cell_new2 (w : World) (a b : Value) (t : TypeId) : ∀ j u, [a, b][j]? = some u → (w.alloc (.cells #[a, b] t)).cell? ((⟨w.heap.size, 0, none⟩ : Addr).add j) = some u := by
  intro j u hj
  have : (⟨w.heap.size, 0, none⟩ : Addr).add j = ⟨w.heap.size, j, none⟩ := by unfold Addr.add; split <;> simp_all
  rw [this, cell_of_row _ _ j _ t (0, 0) (heap_alloc_new _ _)]
  simpa using hj
theorem mc_snoc (ms : List Mb) (m : Mb) : mc ms ++ [.int .i64 m.1, .int .i64 m.2] = mc (ms ++ [m]) := by rw [mc_append]; rfl

set_option maxRecDepth 100000 in
set_option maxHeartbeats 2000000 in
theorem apYield (m : Nat) (w0 : World) (fn : FuncId) (hfn : Fence.wide.fn fn) (sv : Value) (Bs l D : Nat) (hBl : Bs ≠ l) (hDl : D ≠ l) (hDB : D ≠ Bs) (h0B : w0.heap.size ≤ Bs) (h0l : w0.heap.size ≤ l)
    (N : Nat) (hN : N ≤ 1000) (ms : List Mb) (x : Mb) (W : World) (h : ApAt w0 fn sv Bs l D ms W) (hlen : ms.length < N) :
    YieldAt Fence.wide m Try.prog l #[mv x] W fun e W' => e = .returned (.bool true) ∧ ApAt w0 fn sv Bs l D (ms ++ [x]) W' ∧ KeepsWalks W W' := by
  obtain ⟨i0, hi, hz0, hz1, hz2⟩ := info_parts info59
  obtain ⟨id, inc⟩ := x
  obtain ⟨A, c, hv, hrow⟩ := h.box
  refine ⟨fn, #[.slice none 0 0, sv, .pointer (some ⟨Bs, 0, none⟩), undef, .slice none 0 0, undef, sv, mv (id, inc), undef, undef, undef, undef, undef], apAssign, apBody, by simpa [apRec] using run_yield (P := Try.prog) (args := #[mv (id, inc)]) h.L rfl, roundIn_of_wpIn hfn ?_⟩
  have hl : l < W.heap.size := (Array.getElem?_eq_some_iff.1 h.L).1
  -- the loop variable's own block
  obtain ⟨W1, hW1⟩ : ∃ W1, W.alloc (.cells #[.int .i64 id, .int .i64 inc] 59) = W1 := ⟨_, rfl⟩
  have hs1 : W1.heap.size = W.heap.size + 1 := by rw [← hW1]; simp
  have e0 : W1.cell? ⟨W.heap.size, 0, none⟩ = some (.int .i64 id) := by rw [← hW1]; simp [go_sem]
  have e1 : W1.cell? ⟨W.heap.size, 1, none⟩ = some (.int .i64 inc) := by rw [← hW1]; simp [go_sem]
  have old1 : ∀ {j : Nat} {o : Obj}, W.heap[j]? = some o → W1.heap[j]? = some o := fun {j o} hj => by
    rw [← hW1]; exact (Below.heap_alloc _ _ j (Array.getElem?_eq_some_iff.1 hj).1).trans hj
  have hv1 := old1 hv
  have hK1 := old1 h.K
  have hL1 := old1 h.L
  have hz := h.below.size
  have hrow1 : W1.ownsRow w0.heap.size 59 2 (.slice A ms.length c) ms.length (mc ms) := by rw [← hW1]; exact hrow.alloc _
  have hb1 : Below w0.heap.size w0 W1 := by rw [← hW1]; exact h.below.alloc hz _
  have hk1 : KeepsWalks W W1 := by rw [← hW1]; exact KeepsWalks.alloc _ _
  have hl1 : l < W1.heap.size := (Array.getElem?_eq_some_iff.1 hL1).1
  have hbr := run_beginRound (P := Try.prog) hL1 rfl
  obtain ⟨W5, hW5⟩ : ∃ W5, W1.putObj l (.loop { apRec fn sv Bs D .ready none with state := .busy }) = W5 := ⟨_, rfl⟩
  rw [hW5] at hbr
  have hg5 : W1.grownBy W5 (some l) := by rw [← hW5]; exact grownBy_putObj_a _ _ _
  have hk5 : KeepsWalks W W5 := hk1.trans (by rw [← hW5]; exact KeepsWalks.putObj _ hL1 rfl)
  have hv5 : W5.heap[Bs]? = some (.cells #[.slice A ms.length c] 22 (0, 0)) := by rw [← hW5]; exact (World.putObj_heap_other hBl).trans hv1
  have hK5 : W5.heap[D]? = some (.deferred (some [])) := by rw [← hW5]; exact (World.putObj_heap_other hDl).trans hK1
  have hL5 : W5.heap[l]? = some (.loop { apRec fn sv Bs D .ready none with state := .busy }) := by rw [← hW5]; exact World.putObj_heap_same hl1
  have hrow5 : W5.ownsRow w0.heap.size 59 2 (.slice A ms.length c) ms.length (mc ms) := hrow1.kept hg5 (ownsRow_ne_a hrow1 hL1 (fun cur e => by cases e))
  have hb5 : Below w0.heap.size w0 W5 := hb1.grown hg5 hb1.size (fun k e => by cases e; exact h0l)
  have blk5 : W5.heap[W.heap.size]? = W1.heap[W.heap.size]? := by rw [← hW5]; exact World.putObj_heap_other (by omega)
  have f0 : W5.cell? ⟨W.heap.size, 0, none⟩ = some (.int .i64 id) := (World.cell?_of_block (a := ⟨W.heap.size, 0, none⟩) blk5).trans e0
  have f1 : W5.cell? ⟨W.heap.size, 1, none⟩ = some (.int .i64 inc) := (World.cell?_of_block (a := ⟨W.heap.size, 1, none⟩) blk5).trans e1
  clear e0 e1
  obtain ⟨hc5, hf5⟩ := cell_of_box_a hv5
  have hBlt : Bs < W5.heap.size := (Array.getElem?_eq_some_iff.1 hv5).1
  have hl5 : l < W5.heap.size := (Array.getElem?_eq_some_iff.1 hL5).1
  have hDlt : D < W5.heap.size := (Array.getElem?_eq_some_iff.1 hK5).1
  have ne_of : ∀ {j : Nat} {o : Obj}, W5.heap[j]? = some o → (∀ cur, o ≠ .cells cur 59 (0, 0)) → some j ≠ (Value.slice A ms.length c).ownBlock := fun hj hno => by
    rcases ownsRow_ne_a hrow5 hj hno with e | e
    · rw [e]; simp
    · exact fun e' => e e'.symm
  have HN := Lib.hid (show mc ms ++ [.int .i64 id, .int .i64 inc] = mc (ms ++ [(id, inc)]) from mc_snoc ms (id, inc))
  unfold apAssign
  dsimp only [mv]
  gi_wp2_with (rw [Oper.semAt_eq _ _ _ (fun c h => by cases h)]; go_simp; try go_bits)


  clear hW5 hW1 hbr
  unfold apBody
  gi_wp2_with (first
    | (gi_at_builtin; refine wpListIn_append_own _ rfl _ _ 22 rfl w0.heap.size 59 i0 _ 2 16 Try.underlying22 hi hz0 hz1 hz2 rfl (by decide) _ _ _ rfl (hrow5.alloc _) ⟨W5.heap.size, 0, none⟩ 1 1 [.int .i64 id, .int .i64 inc] rfl rfl (cell_new2 _ _ _ _) (by simp [Value.oneCell']) (by unfold maxLen; omega) (by omega) (by simp; omega) ?_; intro v' w3 hown' hg3 hnil3
       have hv3 : w3.heap[Bs]? = some (.cells #[.slice A ms.length c] 22 (0, 0)) := (hg3.block Bs (by simp; omega) (ne_of hv5 (fun cur e => by cases e))).trans ((Below.heap_alloc _ _ Bs hBlt).trans hv5)
       obtain ⟨hc3, hf3⟩ := cell_of_box_a hv3
       obtain ⟨g', cap', cur', rfl, hbase', hgb', hr1, hr2, hr3, hr4⟩ : ∃ g' cap' cur', v' = .slice (some ⟨g', 0, none⟩) (ms.length + 1) cap' ∧ w0.heap.size ≤ g' ∧ w3.heap[g']? = some (.cells cur' 59 (0, 0)) ∧ ms.length + 1 ≤ cap' ∧ cap' ≤ maxLen ∧ cur'.size = cap' * 2 ∧ cur'.toList.take ((ms.length + 1) * 2) = mc ms ++ [.int .i64 id, .int .i64 inc] := by
         rcases hown'.2 with ⟨_, h0⟩ | h'
         · exact absurd h0 (by omega)
         · exact h'
       go_frame)
    | (rw [Oper.semAt_eq _ _ _ (fun c h => by cases h)]; go_simp; try go_bits))
  have hg3' : (W5.alloc (.cells #[.int .i64 id, .int .i64 inc] 59)).grownBy w3 (Value.slice A ms.length c).ownBlock := hg3
  have hL3 : w3.heap[l]? = some (.loop { apRec fn sv Bs D .ready none with state := .busy }) := (hg3'.block l (by simp; omega) (ne_of hL5 (fun cur e => by cases e))).trans ((Below.heap_alloc _ _ l hl5).trans hL5)
  have hK3 : w3.heap[D]? = some (.deferred (some [])) := (hg3'.block D (by simp; omega) (ne_of hK5 (fun cur e => by cases e))).trans ((Below.heap_alloc _ _ D hDlt).trans hK5)
  obtain ⟨w4, hw4⟩ : ∃ w4, w3.setCell ⟨Bs, 0, none⟩ (.slice (some ⟨g', 0, none⟩) (ms.length + 1) cap') = w4 := ⟨_, rfl⟩
  rw [hw4]
  have hg4 : w3.grownBy w4 (some Bs) := by rw [← hw4]; exact grownBy_setCell0_a _ _ _
  have hv4 : w4.heap[Bs]? = some (.cells #[.slice (some ⟨g', 0, none⟩) (ms.length + 1) cap'] 22 (0, 0)) := by rw [← hw4]; exact heap_setCell_box_a _ hv3
  have hL4 : w4.heap[l]? = some (.loop { apRec fn sv Bs D .ready none with state := .busy }) := (hg4.block l (Array.getElem?_eq_some_iff.1 hL3).1 (fun e => hBl (by cases e; rfl))).trans hL3
  have hK4 : w4.heap[D]? = some (.deferred (some [])) := (hg4.block D (Array.getElem?_eq_some_iff.1 hK3).1 (fun e => hDB (by cases e; rfl))).trans hK3
  have hrow4 := hown'.kept hg4 (ownsRow_ne_a hown' hv3 (fun cur e => by cases e))
  have hl4 : l < w4.heap.size := (Array.getElem?_eq_some_iff.1 hL4).1
  have hb3 : Below w0.heap.size w0 w3 := (hb5.alloc hb5.size _).grown hg3' (by have := hb5.size; simp; omega) (fun k e => (hrow5.lt k e).1)
  have hb4 : Below w0.heap.size w0 w4 := hb3.grown hg4 hb3.size (fun k e => by cases e; exact h0B)
  have hk4 : KeepsWalks W w4 := ((hk5.trans (KeepsWalks.alloc _ _)).trans (KeepsWalks.of_grownBy hg3' (ownsRow_not_walk_a (hrow5.alloc _)))).trans (by rw [← hw4]; exact KeepsWalks.setCell _ _ _)
  clear hw4
  refine ⟨_, _, run_endRound none hL4, rfl, ⟨⟨_, _, (World.putObj_heap_other hBl).trans (by rw [List.length_append]; exact hv4), ?_⟩, World.putObj_heap_same hl4, (World.putObj_heap_other hDl).trans hK4, hb4.grown (grownBy_putObj_a _ _ _) hb4.size (fun k e => by cases e; exact h0l)⟩, hk4.trans (KeepsWalks.putObj _ hL4 rfl)⟩
  have := hrow4.kept (grownBy_putObj_a w4 l (.loop { { apRec fn sv Bs D .ready none with state := .busy } with state := if (none : Option Code).isNone then .ready else .done, pending := none })) (ownsRow_ne_a hrow4 hL4 (fun cur e => by cases e))
  rw [HN.out] at this
  rw [List.length_append]
  exact this

set_option maxRecDepth 100000 in
set_option maxHeartbeats 2000000 in
/-- slices.AppendSeq onto nothing, against whatever iterator gives members. -/
theorem appendSeq_in (n : Nat) (hn : 2 ≤ n) (g : Nat) (lb : Array Value) (eg : ∀ args w, (callFunc g args).run Try.prog w = .ok (.enter g args) w)
    (S : List Mb → Prop) (N : Nat) (hN : N ≤ 1000) (w : World) (hseq : SeqGives Fence.wide (n - 1) Try.prog g lb mv S N w) :
    CallsIn Fence.wide n Try.prog 41 #[.slice none 0 0, .func (.func g) #[] lb] w fun e w' => ∃ A c ms, e = .returned (.slice A ms.length c) ∧ S ms ∧ w'.ownsRow w.heap.size 59 2 (.slice A ms.length c) ms.length (mc ms) ∧ Below w.heap.size w w' := by
  have h1 : 1 ≤ n := by omega
  have hne : (22 : TypeId) ≠ 59 := by decide
  refine callsIn_of_wp_marks Try.func41 rfl trivial ?_ rfl
  simp only [Try.ntmps41, List.size_toArray, List.length_cons, List.length_nil, Nat.reduceAdd, Nat.reduceSub, Array.replicate_succ, Array.replicate_zero, List.push_toArray, List.append_toArray, List.nil_append, List.cons_append]
  gi_wp2
  refine wpIn_rangeFunc ?_
  intro fn hfn
  rw [show (Fence.wide).round = none from rfl]
  obtain ⟨W0, hW0⟩ : ∃ W0, w.alloc (.cells #[.slice none 0 0] 22) = W0 := ⟨_, rfl⟩
  have hs0 : W0.heap.size = w.heap.size + 1 := by rw [← hW0]; simp
  have hv0 : W0.heap[w.heap.size]? = some (.cells #[.slice none 0 0] 22 (0, 0)) := by rw [← hW0]; exact World.alloc_heap_new w _
  have hb0 : Below w.heap.size w W0 := by rw [← hW0]; exact (Below.refl _ w).alloc (Nat.le_refl _) _
  rw [hW0]
  obtain ⟨W1, hW1⟩ : ∃ W1, (W0.alloc (.deferred (some []))).alloc (.loop (apRec fn (.func (.func g) #[] lb) w.heap.size W0.heap.size .ready none)) = W1 := ⟨_, rfl⟩
  have hold : ∀ k, k < W0.heap.size → W1.heap[k]? = W0.heap[k]? := fun k hk => by
    rw [← hW1]; exact (Below.heap_alloc _ _ k (by simp; omega)).trans (Below.heap_alloc _ _ k hk)
  have hb1 : Below w.heap.size w W1 := by rw [← hW1]; exact (hb0.alloc hb0.size _).alloc (by have := hb0.size; simp; omega) _
  have hs1 : W1.heap.size = W0.heap.size + 2 := by rw [← hW1]; simp
  have hM : ApAt w fn (.func (.func g) #[] lb) w.heap.size (W0.heap.size + 1) W0.heap.size [] W1 :=
    ⟨⟨none, 0, (hold w.heap.size (by omega)).trans hv0, World.ownsRow_nil _ _ _ _⟩,
     by rw [← hW1]; have := World.alloc_heap_new (W0.alloc (.deferred (some []))) (.loop (apRec fn (.func (.func g) #[] lb) w.heap.size W0.heap.size .ready none)); rwa [World.size_alloc] at this,
     by rw [← hW1]; exact (Below.heap_alloc _ _ _ (by simp)).trans (World.alloc_heap_new W0 _), hb1⟩
  refine ⟨W0.heap.size + 1, [{ target := .collected W0.heap.size, args := #[] }], W1, { target := .fn (.func g) lb, args := #[.func (.yield (W0.heap.size + 1)) #[] #[]] }, W1, g,
    #[.func (.yield (W0.heap.size + 1)) #[] #[]] ++ lb, W1, ?_, ?_, ?_, ?_, fun _ => h1, ?_⟩
  · rw [← hW1]; exact run_enterLoop_outer _ _ _ _ _
  · simp [resolve, go_sem]
  · intro f' hf'; trivial
  · simp [invoke, go_sem, eg]
  · refine (hseq (W0.heap.size + 1) (ApAt w fn (.func (.func g) #[] lb) w.heap.size (W0.heap.size + 1) W0.heap.size) W1 hb1 (ap_abides _ _ _ _ _ _ _ hb1.size)
      (fun pre x W hJ hl => apYield (n - 1 - 1) w fn hfn _ w.heap.size (W0.heap.size + 1) W0.heap.size (by omega) (by omega) (by omega) (Nat.le_refl _) (by omega) N hN pre x W hJ hl) hM).mono ?_
    rintro e W2 ⟨⟨v0, rfl⟩, ms, hS, h2⟩
    obtain ⟨A, c, hv, hrow⟩ := h2.box
    have hend := run_endLoop (P := Try.prog) h2.L (by simp [apRec])
    obtain ⟨W3, hW3⟩ : ∃ W3, W2.putObj (W0.heap.size + 1) (.loop { apRec fn (.func (.func g) #[] lb) w.heap.size W0.heap.size .ready none with state := .exhausted }) = W3 := ⟨_, rfl⟩
    rw [hW3] at hend
    have hg3 : W2.grownBy W3 (some (W0.heap.size + 1)) := by rw [← hW3]; exact grownBy_putObj_a _ _ _
    have hv3 : W3.heap[w.heap.size]? = some (.cells #[.slice A ms.length c] 22 (0, 0)) := by rw [← hW3]; exact (World.putObj_heap_other (by omega)).trans hv
    have hK3 : W3.heap[W0.heap.size]? = some (.deferred (some [])) := by rw [← hW3]; exact (World.putObj_heap_other (by omega)).trans h2.K
    have hrow3 := hrow.kept hg3 (ownsRow_ne_a hrow h2.L (fun cur e => by cases e))
    have hb3 : Below w.heap.size w W3 := h2.below.grown hg3 h2.below.size (fun k e => by cases e; omega)
    obtain ⟨hc3, hf3⟩ := cell_of_box_a hv3
    clear hW3
    refine ⟨none, W3, hend, ?_⟩
    gi_wp2
    rw [← hs0]
    refine ⟨by simp, .inl ⟨_, _, rfl, run_takeDeferred hK3, ?_⟩⟩
    exact ⟨_, results_tmp rfl _ _ _, A, c, ms, rfl, hS, hrow3.kept (grownBy_putObj_a _ _ _) (ownsRow_ne_a hrow3 hK3 (fun cur e => by cases e)), hb3.grown (grownBy_putObj_a _ _ _) hb3.size (fun k e => by cases e; omega)⟩
set_option maxHeartbeats 1000000 in
theorem collect_in (n : Nat) (hn : 3 ≤ n) (g : Nat) (lb : Array Value) (eg : ∀ args w, (callFunc g args).run Try.prog w = .ok (.enter g args) w)
    (S : List Mb → Prop) (N : Nat) (hN : N ≤ 1000) (w : World) (hseq : SeqGives Fence.wide (n - 1 - 1) Try.prog g lb mv S N w) :
    CallsIn Fence.wide n Try.prog 38 #[.func (.func g) #[] lb] w fun e w' => ∃ A c ms, e = .returned (.slice A ms.length c) ∧ S ms ∧ w'.ownsRow w.heap.size 59 2 (.slice A ms.length c) ms.length (mc ms) ∧ Below w.heap.size w w' := by
  have h1 : 1 ≤ n := by omega
  refine callsIn_of_wp Try.func38 rfl trivial ?_ rfl
  simp only [Try.ntmps38, List.size_toArray, List.length_cons, List.length_nil, Nat.reduceAdd, Nat.reduceSub, Array.replicate_succ, Array.replicate_zero, List.push_toArray, List.append_toArray, List.nil_append, List.cons_append]
  gi_wp2_with (refine ⟨trivial, ?_⟩; gi_at_call 41; refine (appendSeq_in (n - 1) (by omega) g lb eg S N hN _ hseq).mono ?_; rintro e w' ⟨A, c, ms, rfl, hS, hrow, hb⟩)
  go_ret
  exact ⟨A, c, ms, rfl, hS, hrow, hb⟩
end Go.Proofs.Ytemcmhpfpfmgdaa
