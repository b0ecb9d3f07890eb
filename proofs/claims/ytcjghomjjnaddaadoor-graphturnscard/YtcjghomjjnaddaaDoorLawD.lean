/-
  The walk of GraphTurns. Condition: Go's own table of powers of ten lies in memory.
-/
import Derived.Test.YtcjghomjjnaddaaDoorLawC
import Derived.Test.YtcjghomjjnaddaaDoorWalksL
import Derived.Deep.RegionLaw
import Derived.Deep.Upon
namespace Go.Proofs.YtcjghomjjnaddaaDoor
open Go.RowKit
set_option linter.unusedVariables false

theorem step_app3 {P : Program} {ops : Array Oper} {o : Oper} {a : Act} {w : World} {K : Act → World → Prop} {Q : Exit → Act → World → Prop} {E : Prop}
    (hg : o.guard = none) (d x : Operand) (dT sT : TypeId) (hop : o.op = Op.call { callee := Callee.builtin Builtin.append, args := #[d, x], argTypes := #[dT, sT] })
    (v u : Value) (hd : a.eval d = v) (hx : a.eval x = u) {v' : Value} {w' : World} (hr : (Builtin.append_ #[dT, sT] o.type #[v, u]).run P w = .ok v' w') (hK : K (a.put o.dst v') w') :
    if Region.wanted o (yielded ops a.tmps) = true then Oper.wp P o a w K Q else E := by
  have hw : Region.wanted o (yielded ops a.tmps) = true := by simp [Region.wanted, hg]
  rw [if_pos hw]
  unfold Oper.wp
  simp [execOp, hop, resolve, invoke, builtin, hd, hx, hr, Result.andThen]
  exact hK

/-- s[:k:k] of edges. -/
theorem cut3_hm (ad : Addr) (n c k : Nat) (ki kj : IntKind) (hk : k ≤ c) :
    ∀ W, (Instr.slice 22 (.slice (some ad) n c) none (some (.int ki (k : Int))) (some (.int kj (k : Int)))).run Tryd.prog W = .ok (.slice (some ad) k k) W := by
  intro W
  have he : Tryd.prog.elem 22 = 42 := by kernel_rfl
  have ht : Tryd.prog.underlying 22 = some (.slice (Tryd.prog.elem 22)) := by rw [he]; exact Tryd.underlying22
  have hz : ∀ W, (sizeOf (Tryd.prog.elem 22)).run Tryd.prog W = .ok 3 W := by rw [he]; exact Tryd.sizeOf42
  rw [run_slice_hm W 22 (some ad) n c ht ki kj k k (by omega) (by omega) (by omega)]
  simp [hz, sliced, Result.andThen, add_zero]

/-- A list without the edge at k. -/
def cutE (es : List Ed) (k : Nat) : List Ed := es.take k ++ es.drop (k + 1)

theorem cutE_perm (es : List Ed) (k : Nat) (h : k < es.length) : es.Perm (eAt es k :: cutE es k) := by
  have e0 : es = es.take k ++ (eAt es k :: es.drop (k + 1)) := by
    rw [eAt_get es k h]
    conv => lhs; rw [← List.take_append_drop k es, List.drop_eq_getElem_cons h]
  conv => lhs; rw [e0]
  exact List.perm_middle
theorem cutE_len (es : List Ed) (k : Nat) (h : k < es.length) : (cutE es k).length = es.length - 1 := by
  have := (cutE_perm es k h).length_eq
  rw [List.length_cons] at this
  omega

set_option maxRecDepth 100000 in
/-- append(s[:k:k], s[k+1:]...) of edges. -/
theorem app_cut (ad : Addr) (n k c2 : Nat) (es : List Ed) (A2 : Option Addr) (W : World) (hA : Lies W W.heap.size 3 (some ad) n (ec es)) (hA2 : Lies W W.heap.size 3 A2 (n - (k + 1)) ((ec es).drop ((k + 1) * 3))) (hk : k < n) (hn : n ≤ 80) :
    ∃ A' c' w', (∀ ty, (Builtin.append_ #[22, 22] ty #[.slice (some ad) k k, .slice A2 (n - (k + 1)) c2]).run Tryd.prog W = .ok (.slice A' (n - 1) c') w') ∧ Lies w' w'.heap.size 3 A' (n - 1) (ec (cutE es k)) ∧ n - 1 ≤ c' ∧ Below W.heap.size W w' := by
  have hes := hA.ed_len
  obtain ⟨i0, hi0, hz0, hzs, hzb⟩ := info_parts (show (Tryd.prog.info? 42).map (fun i => (i.zero, i.size, i.bytes)) = some (some (.agg #[.int .i64 0, .int .i64 0, .int .i64 0]), 3, 24) by kernel_rfl)
  have hty : ∀ ty, Builtin.append_ #[22, 22] ty #[.slice (some ad) k k, .slice A2 (n - (k + 1)) c2] = Builtin.append_ #[22, 22] 0 #[.slice (some ad) k k, .slice A2 (n - (k + 1)) c2] := fun _ => rfl
  have hkl : Lies W W.heap.size 3 (some ad) k (ec (es.take k)) := by
    refine ⟨by rw [ec_length, List.length_take]; congr 1; omega, fun j u hj => ?_⟩
    rw [← ec_take, List.getElem?_take] at hj
    split at hj
    · exact hA.2 j u hj
    · cases hj
  rw [ec_drop] at hA2
  by_cases hl : n = k + 1
  · subst hl
    have hd : es.drop (k + 1) = [] := List.drop_eq_nil_of_le (by omega)
    have hsrc : Src Tryd.prog i0.size 22 (.slice A2 0 c2) 0 [] W := by
      cases A2 with
      | none => exact Src.ofNil W Tryd.underlying22 c2
      | some a2 => exact Src.ofSlice W Tryd.underlying22 a2 0 c2 [] (by simp) (fun j u h => by simp at h) (fun u h => by cases h)
    refine ⟨some ad, k, W, fun ty => ?_, ?_, Nat.le_refl _, Below.refl _ _⟩
    · rw [Nat.sub_self, run_append_nothing W 22 22 ty 42 i0 Tryd.underlying22 hi0 (some ad) k k (Nat.le_refl _) _ hsrc]
      rfl
    · unfold cutE
      rw [hd, List.append_nil]
      exact hkl
  · obtain ⟨a2, rfl⟩ : ∃ a2, A2 = some a2 := by
      obtain ⟨a2, h, _⟩ := hA2.ed 0 (by omega)
      exact ⟨a2, h⟩
    obtain ⟨v', w', hr, ho, hg⟩ := run_append_arg_grows (P := Tryd.prog) W 22 0 42 i0 _ 3 24 Tryd.underlying22 hi0 hz0 hzs hzb rfl (by decide) ad k k (ec (es.take k)) hkl.1 (fun j u hj => by
        obtain ⟨x, hx, _, hc⟩ := hkl.2 j u hj
        injection hx with hx
        subst hx
        exact hc) a2 (n - (k + 1)) c2 (ec (es.drop (k + 1))) hA2.1 (fun j u hj => by
        obtain ⟨x, hx, _, hc⟩ := hA2.2 j u hj
        injection hx with hx
        subst hx
        exact hc) (by omega) (by unfold maxLen; omega) (by omega)
    have en : k + (n - (k + 1)) = n - 1 := by omega
    rw [en] at ho
    rw [← ec_append] at ho
    obtain ⟨A', c', rfl⟩ : ∃ A' c', v' = .slice A' (n - 1) c' := by
      rcases ho.2 with ⟨rfl, h0⟩ | ⟨g, cap, cur, rfl, _⟩
      · rw [h0]; exact ⟨none, 0, rfl⟩
      · exact ⟨_, cap, rfl⟩
    exact ⟨A', c', w', fun ty => by rw [hty ty]; exact hr, Lies.of_own ho, own_cap ho, (Below.refl _ _).grown hg (Nat.le_refl _) (fun k hk => by cases hk)⟩

theorem pick_cell {w : World} {A : Option Addr} {n cp : Nat} {zs : List Int} (h : IsRow .i64 w A n cp zs) (i : Nat) (hi : i < n) : ∃ x p, A = some x ∧ x.block < w.heap.size ∧ w.cell? (x.add i) = some (.int .i64 p) ∧ -9223372036854775808 ≤ p ∧ p ≤ 9223372036854775807 := by
  rcases h with ⟨rfl, rfl, rfl, rfl⟩ | ⟨x, rfl, h1, h2, h3, h4, h5⟩
  · omega
  · have hc := h4 i (by omega)
    have hlt : (x.add i).block < w.heap.size := World.block_lt_of_cell? w _ hc
    rw [block_add] at hlt
    have hm : zs.getD i 0 ∈ zs := by rw [List.getD_eq_getElem?_getD, List.getElem?_eq_getElem (by omega)]; exact List.getElem_mem _
    have hw := h5 _ hm
    exact ⟨x, zs.getD i 0, rfl, hlt, hc, bounds_i64 hw⟩

theorem pick_k (p : Int) (n : Nat) (h : 0 < n) (hn : n ≤ 80) : ∃ k : Nat, wrap64 ((IntKind.u64.wrap p).tmod n) = (k : Int) ∧ k < n := by
  have h0 : 0 ≤ IntKind.u64.wrap p := by rw [IntKind.wrap_u64]; omega
  have h1 : (IntKind.u64.wrap p).tmod n = (IntKind.u64.wrap p) % n := Int.tmod_eq_emod_of_nonneg h0
  have h2 : 0 ≤ (IntKind.u64.wrap p) % n := Int.emod_nonneg _ (by omega)
  have h3 : (IntKind.u64.wrap p) % n < n := Int.emod_lt_of_pos _ (by omega)
  refine ⟨((IntKind.u64.wrap p) % n).toNat, ?_, by omega⟩
  rw [h1]
  generalize (IntKind.u64.wrap p) % n = m at *
  have : wrap64 m = m := by unfold wrap64; omega
  rw [this]; omega

def sLen : Value → Nat
  | .slice _ n _ => n
  | _ => 0

theorem lines_snoc (ps : List Ed) (e : Ed) : lines (ps ++ [e]) = lines ps ++ line e := by unfold lines; rw [List.flatMap_append]; simp

theorem own_none3 (w : World) (e : TypeId) (base : Nat) (hb : base ≤ w.heap.size) : (w.alloc (.cells #[] e)).ownsRow base e 3 (.slice (some ⟨w.heap.size, 0, none⟩) 0 0) 0 [] :=
  ⟨rfl, .inr ⟨w.heap.size, 0, #[], rfl, hb, heap_alloc_new w _, Nat.le_refl _, Nat.zero_le _, rfl, rfl⟩⟩

def TuRel (N : Int) (A0 : Option Addr) (c0 : Nat) (es : List Ed) (w : World) (left s i : Value) (W : World) : Prop :=
  ∃ (r ps : List Ed) (A : Option Addr) (c : Nat) (t : ByteArray), left = .slice A r.length c ∧ r.length ≤ c ∧ Lies W W.heap.size 3 A r.length (ec r) ∧ s = .string t ∧ t = ⟨(headL N ++ lines ps).toArray⟩ ∧ i = .int .i64 ps.length ∧ (ps ++ r).Perm es ∧
    Below (w.heap.size + 1) (w.alloc (.cells #[.int .i64 N, .slice A0 es.length c0] 24)) W

set_option maxHeartbeats 2000000 in
set_option maxRecDepth 100000 in
theorem turns_walk (N : Int) (A : Option Addr) (n c : Nat) (es : List Ed) (a1 : Option Addr) (len1 cap1 : Nat) (z1 : List Int) (w : World) (hA : Lies w w.heap.size 3 A n (ec es)) (hnc : n ≤ c) (hn : n ≤ maxLen) (hP : IsRow .i64 w a1 len1 cap1 z1) (hg : Gr w) :
    Calls Tryd.prog 7 #[.agg #[.int .i64 N, .slice A n c], .slice a1 len1 cap1] w fun e w' => e = .returned (.bool true) ∧ Below w.heap.size w w' := by
  have HG := Lib.hid hg
  have HP := Lib.hid hP
  clear hg hP
  by_cases h200 : 200 < n
  · go_enter Tryd.func7, Tryd.ntmps7
    go_wp2_with fail
    refine (great_any N A n c _ true (by simpa using h200)).mono ?_
    rintro e w1 ⟨rfl, hb1⟩
    have hb01 : Below w.heap.size w w1 := (below_alloc _ _).trans (hb1.mono (by simp))
    go_wp2_with fail
    refine (knows_any _ (HG.out.next hb01)).mono ?_
    rintro e w2 ⟨rfl, hb2⟩
    have hb02 := hb01.trans (hb2.mono hb01.size)
    go_wp2_with fail
    go_ret
    exact ⟨rfl, hb02⟩
  by_cases hok : chk N es = 0
  rotate_left
  · have h1 : (chk N es != 0) = true := by simpa using hok
    clear hok
    go_enter Tryd.func7, Tryd.ntmps7
    go_wp2_with fail
    refine (great_any N A n c _ false (by simpa using h200)).mono ?_
    rintro e w1 ⟨rfl, hb1⟩
    have hp1 : w.heap.size + 1 ≤ w1.heap.size ∧ w1.cell? ⟨w.heap.size, 0, none⟩ = some (.int .i64 N) ∧ w1.cell? ⟨w.heap.size, 1, none⟩ = some (.slice A n c) ∧ Below w.heap.size w w1 :=
      pk4 ⟨by simp, by simp [go_sem], by simp [go_sem], below_alloc _ _⟩ hb1
    obtain ⟨g1, g2, g3, g4⟩ := id hp1
    clear hb1
    go_wp2_with fail
    refine (rcheck_any N A n c es w1 (hA.next g4) hnc hn).mono ?_
    rintro e w2 ⟨rfl, hb2⟩
    have hp2 := pk4 hp1 hb2
    clear hp1 hb2 g1 g2 g3 g4
    obtain ⟨g1, g2, g3, g4⟩ := id hp2
    go_wp2_with fail
    refine (knows_any _ (HG.out.next g4)).mono ?_
    rintro e w5 ⟨rfl, hb5⟩
    have hp5 := pk4 hp2 hb5
    go_wp2_with fail
    go_ret
    exact ⟨rfl, hp5.2.2.2⟩
  obtain rfl := hA.ed_len
  obtain ⟨n1, n2, n3, _⟩ := chk_zero hok
  have hall := chk_ok hok
  obtain ⟨d, hd⟩ : ∃ d : ByteArray, d = ⟨(dec N).toArray⟩ := ⟨_, rfl⟩
  have hds : d.size ≤ 20 := by have := dec_len N (by omega); rw [hd]; simpa [ByteArray.size] using this
  have q1 : ¬ 9223372036854775807 < 6 + d.size := by omega
  have q2 : ¬ 9223372036854775807 < 6 + d.size + 1 := by omega
  obtain ⟨i0, hi0, hz0, hzs, hzb⟩ := info_parts (show (Tryd.prog.info? 42).map (fun i => (i.zero, i.size, i.bytes)) = some (some (.agg #[.int .i64 0, .int .i64 0, .int .i64 0]), 3, 24) by kernel_rfl)
  have HI0 := Lib.hid hi0
  have HZ0 := Lib.hid hz0
  have HZS := Lib.hid hzs
  have HZB := Lib.hid hzb
  have HD := Lib.hid hd
  have HOK := Lib.hid hok
  have HALL := Lib.hid hall
  have HA := Lib.hid hA
  clear hi0 hz0 hzs hzb hd hok hall hA
  go_enter Tryd.func7, Tryd.ntmps7
  go_wp2_with fail
  refine (great_any N A es.length c _ false (by simpa using h200)).mono ?_
  rintro e w1 ⟨rfl, hb1⟩
  have hp1 : w.heap.size + 1 ≤ w1.heap.size ∧ w1.cell? ⟨w.heap.size, 0, none⟩ = some (.int .i64 N) ∧ w1.cell? ⟨w.heap.size, 1, none⟩ = some (.slice A es.length c) ∧ Below w.heap.size w w1 :=
    pk4 ⟨by simp, by simp [go_sem], by simp [go_sem], below_alloc _ _⟩ hb1
  have hbb1 : Below (w.heap.size + 1) (w.alloc (.cells #[.int .i64 N, .slice A es.length c] 24)) w1 := hb1.mono (by simp)
  obtain ⟨g1, g2, g3, g4⟩ := id hp1
  clear hb1
  go_wp2_with fail
  refine (rcheck_any N A es.length c es w1 (HA.out.next g4) hnc hn).mono ?_
  rintro e w2 ⟨rfl, hb2⟩
  rw [HOK.out]
  have hbb2 := hbb1.trans (hb2.mono g1)
  have hp2 := pk4 hp1 hb2
  clear hp1 hb2 g1 g2 g3 g4 hbb1
  obtain ⟨g1, g2, g3, g4⟩ := id hp2
  have al : ∀ (W : World) (o : Obj) (b k : Nat), b < W.heap.size → (W.alloc o).cell? ⟨b, k, none⟩ = W.cell? ⟨b, k, none⟩ := fun W o b k h => World.cell?_alloc_lt W o ⟨b, k, none⟩ h
  have hl : w.heap.size < w2.heap.size := g1
  have HON := Lib.hid (own_none3 w2 42 (w.heap.size + 1) g1)
  have HL2 := Lib.hid (HA.out.next (g4.alloc g4.size (.cells #[] 42)))
  have hsz2 : w.heap.size + 1 ≤ (w2.alloc (.cells #[] 42)).heap.size := by simp; omega
  have hbb2n := hbb2.alloc g1 (.cells #[] 42)
  go_wp2_with (at_builtin; go_must (refine wpList_app _ rfl (.tmp 21) (.tmp 23) 22 rfl (w.heap.size + 1) 42 i0 _ 3 24 Tryd.underlying22 HI0.out HZ0.out HZS.out HZB.out rfl (by decide) _ 0 0 [] rfl HON.out _ A es.length c (ec es) (by simp [Act.eval]) HL2.out (ec_one _) es.length (ec es) (Nat.zero_add _) rfl hn (by omega) hsz2 ?_))
  intro A3 c3 w3 ho3 hb3
  have hbb3 := hbb2n.trans hb3
  have hL3 := Lies.of_own ho3
  have hc3 := own_cap ho3
  have k0 : w3.cell? ⟨w.heap.size, 0, none⟩ = some (.int .i64 N) := (hbb3.cell (p := ⟨w.heap.size, 0, none⟩) (by simp)).trans (by simp [go_sem])
  clear ho3 hb3 hbb2 hbb2n hsz2 hp2 g1 g2 g3 g4 HON HL2 hl
  go_wp2_with fail
  refine (digits_let N d _ HD.out (by omega) (by omega)).mono ?_
  rintro e w4 ⟨rfl, hb4⟩
  have hz3 : w.heap.size + 1 ≤ w3.heap.size := by have := hbb3.size; simpa using this
  have hbb4 := hbb3.trans (hb4.mono hz3)
  have hL4 := hL3.next hb4
  clear hb4 hL3 hbb3 k0 hz3
  go_wp2_with fail
  go_loopw [5, 6, 7] (fun l s i W => TuRel N A c es w l s i W) (fun l s i W => sLen l)
  case atStart => exact ⟨es, [], A3, c3, _, rfl, hc3, hL4, rfl, by rw [HD.out]; exact (by rw [show (⟨#[103, 114, 97, 112, 104, 32]⟩ : ByteArray) = ⟨([103, 114, 97, 112, 104, 32] : List UInt8).toArray⟩ from rfl, show (⟨#[10]⟩ : ByteArray) = ⟨([10] : List UInt8).toArray⟩ from rfl, str_app, str_app]; simp [headL, lines]), rfl, List.Perm.refl _, hbb4⟩
  case round =>
    clear hL4 hbb4 hc3
    obtain ⟨r, ps, A4, c4, t, rfl, hrc, hL, rfl, ht, rfl, hperm, hbb⟩ := hrel
    have HT := Lib.hid ht
    have hlen := hperm.length_eq
    rw [List.length_append] at hlen
    have HPM := Lib.hid hperm
    clear ht hperm
    have hb : Below w.heap.size w wr := (below_alloc _ _).trans (hbb.mono (by omega))
    have hz : w.heap.size + 1 ≤ wr.heap.size := by have := hbb.size; simpa using this
    by_cases hr0 : 0 < r.length
    · by_cases hp : ps.length < len1
      · obtain ⟨x, p, rfl, hxb, hxc0, hp1, hp2⟩ := pick_cell HP.out ps.length hp
        have hxc : wr.cell? (x.add ps.length) = some (.int .i64 p) := (hb.cell (p := x.add ps.length) (by rw [block_add]; exact hxb)).trans hxc0
        obtain ⟨k, hkk, hk⟩ := pick_k p r.length hr0 (by omega)
        clear hxc0
        obtain ⟨ad, rfl, hadb, e0, e1, e2⟩ := hL.ed k hk
        have hokk := HALL.out (eAt r k) (HPM.out.subset (by rw [eAt_get r k hk]; exact List.mem_append_right _ (List.getElem_mem hk)))
        have HPC := Lib.hid (cutE_perm r k hk)
        have HCL := Lib.hid (cutE_len r k hk)
        obtain ⟨ed, hed⟩ : ∃ ed, ed = eAt r k := ⟨_, rfl⟩
        rw [← hed] at hokk HPC e0 e1 e2
        clear hed
        obtain ⟨o1, o2, o3, o4, o5, o6⟩ := edge1_zero.1 hokk
        have hl0 : (headL N ++ lines ps).length ≤ 28 + 68 * 80 := by
          have h1 := lines_len N n2 ps (fun e he => HALL.out e (HPM.out.subset (List.mem_append_left _ he)))
          have h2 := dec_len N (by omega)
          rw [List.length_append]
          unfold headL
          simp only [List.length_append, List.length_cons, List.length_nil]
          omega
        have l1 := dec_len ed.1 (by omega)
        have l2 := dec_len ed.2.1 (by omega)
        have l3 := dec_len ed.2.2 (by omega)
        obtain ⟨d1, hd1⟩ : ∃ d : ByteArray, d = ⟨(dec ed.1).toArray⟩ := ⟨_, rfl⟩
        obtain ⟨d2, hd2⟩ : ∃ d : ByteArray, d = ⟨(dec ed.2.1).toArray⟩ := ⟨_, rfl⟩
        obtain ⟨d3, hd3⟩ : ∃ d : ByteArray, d = ⟨(dec ed.2.2).toArray⟩ := ⟨_, rfl⟩
        have z0 : t.size ≤ 28 + 68 * 80 := by rw [HT.out]; simpa [ByteArray.size] using hl0
        have z1 : d1.size ≤ 20 := by rw [hd1]; simpa [ByteArray.size] using l1
        have z2 : d2.size ≤ 20 := by rw [hd2]; simpa [ByteArray.size] using l2
        have z3 : d3.size ≤ 20 := by rw [hd3]; simpa [ByteArray.size] using l3
        have HS : Hid (t ++ ⟨#[101, 100, 103, 101, 32]⟩ ++ d1 ++ ⟨#[32]⟩ ++ d2 ++ ⟨#[32]⟩ ++ d3 ++ ⟨#[10]⟩ = ⟨(headL N ++ lines (ps ++ [ed])).toArray⟩) := Lib.hid (by
          rw [HT.out, hd1, hd2, hd3, lines_snoc, show (⟨#[101, 100, 103, 101, 32]⟩ : ByteArray) = ⟨([101, 100, 103, 101, 32] : List UInt8).toArray⟩ from rfl, show (⟨#[32]⟩ : ByteArray) = ⟨([32] : List UInt8).toArray⟩ from rfl, show (⟨#[10]⟩ : ByteArray) = ⟨([10] : List UInt8).toArray⟩ from rfl]
          simp only [str_app, line, List.append_assoc])
        have HD1 := Lib.hid hd1
        have HD2 := Lib.hid hd2
        have HD3 := Lib.hid hd3
        clear hd1 hd2 hd3 hl0 l1 l2 l3 hokk
        have q1 : ¬ 9223372036854775807 < t.size + 5 := by omega
        have q2 : ¬ 9223372036854775807 < t.size + 5 + d1.size := by omega
        have q3 : ¬ 9223372036854775807 < t.size + 5 + d1.size + 1 := by omega
        have q4 : ¬ 9223372036854775807 < t.size + 5 + d1.size + 1 + d2.size := by omega
        have q5 : ¬ 9223372036854775807 < t.size + 5 + d1.size + 1 + d2.size + 1 := by omega
        have q6 : ¬ 9223372036854775807 < t.size + 5 + d1.size + 1 + d2.size + 1 + d3.size := by omega
        have q7 : ¬ 9223372036854775807 < t.size + 5 + d1.size + 1 + d2.size + 1 + d3.size + 1 := by omega
        clear z0 z1 z2 z3
        have hL2 := Lib.hid hL
        clear hL
        go_wp2_with fail
        go_region_held3 (fun w' => wr.heap.size < w'.heap.size ∧ wr.heap.size ≤ w'.heap.size ∧ w'.cell? ⟨wr.heap.size, 0, none⟩ = some (.int .i64 ed.1) ∧ w'.cell? ⟨wr.heap.size, 1, none⟩ = some (.int .i64 ed.2.1) ∧ w'.cell? ⟨wr.heap.size, 2, none⟩ = some (.int .i64 ed.2.2) ∧ Below wr.heap.size wr w')
          (first | exact ⟨g1, g2, g3, g4, g5, g6⟩ | (refine ⟨?_, ?_, ?_, ?_, ?_, ?_⟩ <;> first | (simp; done) | (simp [go_sem]; done) | exact (below_alloc _ _).drew))
          (first | ((go_at_call 19); (with_reducible refine (digits_held wr.heap.size wr.heap.size (.int .i64 ed.1) (.int .i64 ed.2.1) (.int .i64 ed.2.2) wr ed.1 d1 _ HD1.out o1 (by omega) ⟨?c1, ?c2, ?c3, ?c4, ?c5, ?c6⟩).mono ?_); (case c1 => first | assumption | (simp; done)); (case c2 => first | assumption | (simp; done)); (case c3 => first | assumption | (simp [go_sem]; done)); (case c4 => first | assumption | (simp [go_sem]; done)); (case c5 => first | assumption | (simp [go_sem]; done)); (case c6 => first | assumption | exact (below_alloc _ _).drew); rintro e w5 ⟨rfl, g1, g2, g3, g4, g5, g6⟩) | ((go_at_call 19); (with_reducible refine (digits_held wr.heap.size wr.heap.size (.int .i64 ed.1) (.int .i64 ed.2.1) (.int .i64 ed.2.2) wr ed.2.1 d2 _ HD2.out o3 (by omega) ⟨?c1, ?c2, ?c3, ?c4, ?c5, ?c6⟩).mono ?_); (case c1 => first | assumption | (simp; done)); (case c2 => first | assumption | (simp; done)); (case c3 => first | assumption | (simp [go_sem]; done)); (case c4 => first | assumption | (simp [go_sem]; done)); (case c5 => first | assumption | (simp [go_sem]; done)); (case c6 => first | assumption | exact (below_alloc _ _).drew); rintro e w5 ⟨rfl, g1, g2, g3, g4, g5, g6⟩) | ((go_at_call 19); (with_reducible refine (digits_held wr.heap.size wr.heap.size (.int .i64 ed.1) (.int .i64 ed.2.1) (.int .i64 ed.2.2) wr ed.2.2 d3 _ HD3.out o5 (by omega) ⟨?c1, ?c2, ?c3, ?c4, ?c5, ?c6⟩).mono ?_); (case c1 => first | assumption | (simp; done)); (case c2 => first | assumption | (simp; done)); (case c3 => first | assumption | (simp [go_sem]; done)); (case c4 => first | assumption | (simp [go_sem]; done)); (case c5 => first | assumption | (simp [go_sem]; done)); (case c6 => first | assumption | exact (below_alloc _ _).drew); rintro e w5 ⟨rfl, g1, g2, g3, g4, g5, g6⟩))
        have hbb5 := hbb.trans (g6.mono hz)
        have hL5 := hL2.out.next g6
        clear g1 g2 g3 g4 g5 g6 e0 e1 e2
        obtain ⟨A2, hcutB, hLcut⟩ := cut3_l (some ad) r.length c4 (k + 1) ((k : Int) + 1) .i64 (by omega) (by omega) hrc
        obtain ⟨A', c', w', hr, hL', hc', hb'⟩ := app_cut ad r.length k (c4 - (k + 1)) r A2 w5.drew hL5 (hLcut _ _ _ hL5) hk (by omega)
        have hcutA := cut3_hm ad r.length c4 k .i64 .i64 (by omega)
        have HF := Lib.hid (hbb5.trans (Below.mono (below_of_drew hb') (by have := hbb5.size; simpa using this)))
        have HL' := Lib.hid hL'
        clear hLcut hL5 hL' hb' hbb5
        have hwk : IntKind.i64.wrap ((k : Int) + 1) = (k : Int) + 1 := by rw [IntKind.wrap_i64]; omega
        have hpk : (0 : Int) ≤ (k : Int) + 1 := by omega
        go_wp2_with fail
        go_region_law (refine step_app3 rfl _ _ 22 22 rfl _ _ (by simp [Act.eval, Act.put]) (by simp [Act.eval, Act.put]) (hr _) ?_)
        go_wp2_with fail
        go_roundw
        case rel => exact ⟨cutE r k, ps ++ [ed], A', c', _, by rw [HCL.out], by rw [HCL.out]; exact hc', by rw [HCL.out]; exact HL'.out, rfl, HS.out, by rw [List.length_append]; go_num, by rw [List.append_assoc]; exact (List.Perm.append_left ps HPC.out.symm).trans HPM.out, HF.out⟩
        case measure => simp [sLen]; omega
      · have hk : 0 < r.length := hr0
        obtain ⟨ad, rfl, hadb, e0, e1, e2⟩ := hL.ed 0 hk
        have hokk := HALL.out (eAt r 0) (HPM.out.subset (by rw [eAt_get r 0 hk]; exact List.mem_append_right _ (List.getElem_mem hk)))
        have HPC := Lib.hid (cutE_perm r 0 hk)
        have HCL := Lib.hid (cutE_len r 0 hk)
        obtain ⟨ed, hed⟩ : ∃ ed, ed = eAt r 0 := ⟨_, rfl⟩
        rw [← hed] at hokk HPC e0 e1 e2
        clear hed
        obtain ⟨o1, o2, o3, o4, o5, o6⟩ := edge1_zero.1 hokk
        have hl0 : (headL N ++ lines ps).length ≤ 28 + 68 * 80 := by
          have h1 := lines_len N n2 ps (fun e he => HALL.out e (HPM.out.subset (List.mem_append_left _ he)))
          have h2 := dec_len N (by omega)
          rw [List.length_append]
          unfold headL
          simp only [List.length_append, List.length_cons, List.length_nil]
          omega
        have l1 := dec_len ed.1 (by omega)
        have l2 := dec_len ed.2.1 (by omega)
        have l3 := dec_len ed.2.2 (by omega)
        obtain ⟨d1, hd1⟩ : ∃ d : ByteArray, d = ⟨(dec ed.1).toArray⟩ := ⟨_, rfl⟩
        obtain ⟨d2, hd2⟩ : ∃ d : ByteArray, d = ⟨(dec ed.2.1).toArray⟩ := ⟨_, rfl⟩
        obtain ⟨d3, hd3⟩ : ∃ d : ByteArray, d = ⟨(dec ed.2.2).toArray⟩ := ⟨_, rfl⟩
        have z0 : t.size ≤ 28 + 68 * 80 := by rw [HT.out]; simpa [ByteArray.size] using hl0
        have z1 : d1.size ≤ 20 := by rw [hd1]; simpa [ByteArray.size] using l1
        have z2 : d2.size ≤ 20 := by rw [hd2]; simpa [ByteArray.size] using l2
        have z3 : d3.size ≤ 20 := by rw [hd3]; simpa [ByteArray.size] using l3
        have HS : Hid (t ++ ⟨#[101, 100, 103, 101, 32]⟩ ++ d1 ++ ⟨#[32]⟩ ++ d2 ++ ⟨#[32]⟩ ++ d3 ++ ⟨#[10]⟩ = ⟨(headL N ++ lines (ps ++ [ed])).toArray⟩) := Lib.hid (by
          rw [HT.out, hd1, hd2, hd3, lines_snoc, show (⟨#[101, 100, 103, 101, 32]⟩ : ByteArray) = ⟨([101, 100, 103, 101, 32] : List UInt8).toArray⟩ from rfl, show (⟨#[32]⟩ : ByteArray) = ⟨([32] : List UInt8).toArray⟩ from rfl, show (⟨#[10]⟩ : ByteArray) = ⟨([10] : List UInt8).toArray⟩ from rfl]
          simp only [str_app, line, List.append_assoc])
        have HD1 := Lib.hid hd1
        have HD2 := Lib.hid hd2
        have HD3 := Lib.hid hd3
        clear hd1 hd2 hd3 hl0 l1 l2 l3 hokk
        have q1 : ¬ 9223372036854775807 < t.size + 5 := by omega
        have q2 : ¬ 9223372036854775807 < t.size + 5 + d1.size := by omega
        have q3 : ¬ 9223372036854775807 < t.size + 5 + d1.size + 1 := by omega
        have q4 : ¬ 9223372036854775807 < t.size + 5 + d1.size + 1 + d2.size := by omega
        have q5 : ¬ 9223372036854775807 < t.size + 5 + d1.size + 1 + d2.size + 1 := by omega
        have q6 : ¬ 9223372036854775807 < t.size + 5 + d1.size + 1 + d2.size + 1 + d3.size := by omega
        have q7 : ¬ 9223372036854775807 < t.size + 5 + d1.size + 1 + d2.size + 1 + d3.size + 1 := by omega
        clear z0 z1 z2 z3
        have hL2 := Lib.hid hL
        clear hL
        have e0' : wr.cell? ad = some (.int .i64 ed.1) := by simpa [add_zero] using e0
        have e1' : wr.cell? ⟨ad.block, ad.off + 1, none⟩ = some (.int .i64 ed.2.1) := by simpa [add_zero] using e1
        have e2' : wr.cell? ⟨ad.block, ad.off + 2, none⟩ = some (.int .i64 ed.2.2) := by simpa [add_zero] using e2
        clear e0 e1 e2
        go_wp2_with fail
        go_region_held3 (fun w' => wr.heap.size < w'.heap.size ∧ wr.heap.size ≤ w'.heap.size ∧ w'.cell? ⟨wr.heap.size, 0, none⟩ = some (.int .i64 ed.1) ∧ w'.cell? ⟨wr.heap.size, 1, none⟩ = some (.int .i64 ed.2.1) ∧ w'.cell? ⟨wr.heap.size, 2, none⟩ = some (.int .i64 ed.2.2) ∧ Below wr.heap.size wr w')
          (first | exact ⟨g1, g2, g3, g4, g5, g6⟩ | (refine ⟨?_, ?_, ?_, ?_, ?_, ?_⟩ <;> first | (simp; done) | (simp [go_sem]; done) | exact (below_alloc _ _).drew))
          (first | ((go_at_call 19); (with_reducible refine (digits_held wr.heap.size wr.heap.size (.int .i64 ed.1) (.int .i64 ed.2.1) (.int .i64 ed.2.2) wr ed.1 d1 _ HD1.out o1 (by omega) ⟨?c1, ?c2, ?c3, ?c4, ?c5, ?c6⟩).mono ?_); (case c1 => first | assumption | (simp; done)); (case c2 => first | assumption | (simp; done)); (case c3 => first | assumption | (simp [go_sem]; done)); (case c4 => first | assumption | (simp [go_sem]; done)); (case c5 => first | assumption | (simp [go_sem]; done)); (case c6 => first | assumption | exact (below_alloc _ _).drew); rintro e w5 ⟨rfl, g1, g2, g3, g4, g5, g6⟩) | ((go_at_call 19); (with_reducible refine (digits_held wr.heap.size wr.heap.size (.int .i64 ed.1) (.int .i64 ed.2.1) (.int .i64 ed.2.2) wr ed.2.1 d2 _ HD2.out o3 (by omega) ⟨?c1, ?c2, ?c3, ?c4, ?c5, ?c6⟩).mono ?_); (case c1 => first | assumption | (simp; done)); (case c2 => first | assumption | (simp; done)); (case c3 => first | assumption | (simp [go_sem]; done)); (case c4 => first | assumption | (simp [go_sem]; done)); (case c5 => first | assumption | (simp [go_sem]; done)); (case c6 => first | assumption | exact (below_alloc _ _).drew); rintro e w5 ⟨rfl, g1, g2, g3, g4, g5, g6⟩) | ((go_at_call 19); (with_reducible refine (digits_held wr.heap.size wr.heap.size (.int .i64 ed.1) (.int .i64 ed.2.1) (.int .i64 ed.2.2) wr ed.2.2 d3 _ HD3.out o5 (by omega) ⟨?c1, ?c2, ?c3, ?c4, ?c5, ?c6⟩).mono ?_); (case c1 => first | assumption | (simp; done)); (case c2 => first | assumption | (simp; done)); (case c3 => first | assumption | (simp [go_sem]; done)); (case c4 => first | assumption | (simp [go_sem]; done)); (case c5 => first | assumption | (simp [go_sem]; done)); (case c6 => first | assumption | exact (below_alloc _ _).drew); rintro e w5 ⟨rfl, g1, g2, g3, g4, g5, g6⟩))
        have hbb5 := hbb.trans (g6.mono hz)
        have hL5 := hL2.out.next g6
        clear g1 g2 g3 g4 g5 g6 e0' e1' e2'
        obtain ⟨A2, hcutB, hLcut⟩ := cut3_l (some ad) r.length c4 (0 + 1) (1) .i64 (by rfl) (by omega) hrc
        obtain ⟨A', c', w', hr, hL', hc', hb'⟩ := app_cut ad r.length 0 (c4 - (0 + 1)) r A2 w5.drew hL5 (hLcut _ _ _ hL5) hk (by omega)
        have hcutA := cut3_hm ad r.length c4 0 .i64 .i64 (by omega)
        have HF := Lib.hid (hbb5.trans (Below.mono (below_of_drew hb') (by have := hbb5.size; simpa using this)))
        have HL' := Lib.hid hL'
        clear hLcut hL5 hL' hb' hbb5
        have hwk : IntKind.i64.wrap 1 = 1 := by rw [IntKind.wrap_i64]; omega
        have hpk : (1 : Int) ≤ (r.length : Int) := by omega
        simp only [Nat.zero_add, Int.natCast_zero] at hcutA hr hcutB
        go_wp2_with fail
        go_region_law (refine step_app3 rfl _ _ 22 22 rfl _ _ (by simp [Act.eval, Act.put]) (by simp [Act.eval, Act.put]) (hr _) ?_)
        go_wp2_with fail
        go_roundw
        case rel => exact ⟨cutE r 0, ps ++ [ed], A', c', _, by rw [HCL.out], by rw [HCL.out]; exact hc', by rw [HCL.out]; exact HL'.out, rfl, HS.out, by rw [List.length_append]; go_num, by rw [List.append_assoc]; exact (List.Perm.append_left ps HPC.out.symm).trans HPM.out, HF.out⟩
        case measure => simp [sLen]; omega
    · have hrn : r = [] := List.eq_nil_of_length_eq_zero (by omega)
      subst hrn
      have hls : (headL N ++ lines ps).length ≤ 28 + 68 * 80 := by
        have h1 := lines_len N n2 ps (fun e he => HALL.out e (HPM.out.subset (List.mem_append_left _ he)))
        have h2 := dec_len N (by omega)
        rw [List.length_append]
        unfold headL
        simp only [List.length_append, List.length_cons, List.length_nil]
        omega
      have hts : t.size = (headL N ++ lines ps).length := by rw [HT.out]; simp [ByteArray.size]
      have htm : t.size ≤ maxLen := by unfold maxLen; omega
      have HQ : Hid ((4000 < t.size ∧ parseL (headL N ++ lines ps) = ((0, []), 0, 3)) ∨ (¬ 4000 < t.size ∧ parseL (headL N ++ lines ps) = ((N, es), 0, 0))) := Lib.hid (by
        by_cases h4 : 4000 < t.size
        · exact .inl ⟨h4, parse_long (by omega)⟩
        · exact .inr ⟨h4, parse_lines HOK.out (by simpa using HPM.out) (by omega)⟩)
      have hpA : w.heap.size + 1 ≤ wr.heap.size ∧ wr.cell? ⟨w.heap.size, 0, none⟩ = some (.int .i64 N) ∧ wr.cell? ⟨w.heap.size, 1, none⟩ = some (.slice A es.length c) ∧ Below w.heap.size w wr :=
        ⟨hz, (hbb.cell (p := ⟨w.heap.size, 0, none⟩) (by simp)).trans (by simp [go_sem]), (hbb.cell (p := ⟨w.heap.size, 1, none⟩) (by simp)).trans (by simp [go_sem]), hb⟩
      clear hL hrc hbb hb hz hls hts hlen al q1 q2 hds
      go_wp2_with fail
      refine (parse_any t (headL N ++ lines ps) wr HT.out htm).mono ?_
      rintro e w5 ⟨hb5, A5, c5, he, hL5, hc5⟩
      have hp5 := pk4 hpA hb5
      clear hpA hb5
      have al : ∀ (W : World) (o : Obj) (b k : Nat), b < W.heap.size → (W.alloc o).cell? ⟨b, k, none⟩ = W.cell? ⟨b, k, none⟩ := fun W o b k h => World.cell?_alloc_lt W o ⟨b, k, none⟩ h
      obtain ⟨g1, g2, g3, g4⟩ := id hp5
      have hl : w.heap.size < w5.heap.size := g1
      have g4n : ∀ o, Below w.heap.size w (w5.alloc o) := fun o => g4.alloc g4.size o
      have HN := Lib.hid hn
      have HNC := Lib.hid hnc
      clear htm hn hnc
      rcases HQ.out with ⟨h4, hq⟩ | ⟨h4, hq⟩
      · rw [hq] at he hL5 hc5
        subst he
        clear HQ hq hL5 hc5
        go_wp2_with fail
        refine (knows_any _ (HG.out.next (g4n _))).mono ?_
        rintro e w6 ⟨rfl, hb6⟩
        have hb06 := (g4n _).trans (hb6.mono (g4n _).size)
        clear al g4n
        go_wp2_with fail
        go_ret
        exact ⟨rfl, hb06⟩
      · rw [hq] at he hL5 hc5
        subst he
        clear HQ hq
        go_wp2_with fail
        refine (same_yes N A es.length c A5 c5 es _ (HA.out.next (g4n _)) (hL5.next (below_alloc w5 _)) HN.out).mono ?_
        rintro e w6 ⟨rfl, hb6⟩
        have hb06 := (g4n _).trans (hb6.mono (g4n _).size)
        clear al g4n hb6 hL5 hc5 g1 g2 g3 g4 hp5
        go_wp2_with fail
        refine (knows_any _ (HG.out.next hb06)).mono ?_
        rintro e w7 ⟨rfl, hb7⟩
        have hb07 := hb06.trans (hb7.mono hb06.size)
        go_wp2_with fail
        go_ret
        exact ⟨rfl, hb07⟩
end Go.Proofs.YtcjghomjjnaddaaDoor
