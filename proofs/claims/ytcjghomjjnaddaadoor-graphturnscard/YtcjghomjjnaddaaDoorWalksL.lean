/-
  The contract of slices.Insert of one edge into a row of the call's own: what it holds then. Conditions: as each states.
-/
import Derived.Test.YtcjghomjjnaddaaDoorWalksK
import Derived.Test.YtcjghomjjnaddaaDoorWalksJ
import Derived.Deep.DeepMust
namespace Go.Proofs.YtcjghomjjnaddaaDoor
open Go.RowKit
set_option linter.unusedVariables false

theorem splice_in {α : Type} (L D E : List α) (o : Nat) (hE : E.length = 3) (h : o + 3 + D.length ≤ L.length) : splice (splice L (o + 3) D) o E = L.take o ++ (E ++ (D ++ L.drop (o + 3 + D.length))) := by
  unfold splice
  have h1 : (L.take (o + 3) ++ (D ++ L.drop (o + 3 + D.length))).take o = L.take o := by
    rw [List.take_append_of_le_length (by rw [List.length_take]; omega), List.take_take, Nat.min_eq_left (by omega)]
  have h2 : (L.take (o + 3) ++ (D ++ L.drop (o + 3 + D.length))).drop (o + 3) = D ++ L.drop (o + 3 + D.length) := by
    rw [List.drop_append_of_le_length (by rw [List.length_take]; omega), List.drop_eq_nil_of_le (by rw [List.length_take]; omega)]; rfl
  rw [h1, hE, h2]
theorem splice_out {α : Type} (L D E : List α) (o : Nat) (hE : E.length = 3) (h : o + 3 + D.length ≤ L.length) : ∃ R, splice (splice L o E) (o + 3) D = L.take o ++ (E ++ (D ++ R)) := by
  unfold splice
  have h1 : (L.take o ++ (E ++ L.drop (o + E.length))).take (o + 3) = L.take o ++ E := by
    rw [← List.append_assoc, List.take_append_of_le_length (by rw [List.length_append, List.length_take]; omega)]
    exact List.take_of_length_le (by rw [List.length_append, List.length_take]; omega)
  rw [h1]
  exact ⟨_, by rw [List.append_assoc]⟩

def putAt (es : List Ed) (i : Nat) (e : Ed) : List Ed := es.take i ++ (e :: es.drop i)

theorem put_cells (es : List Ed) (i : Nat) (e : Ed) : ec (putAt es i e) = ec (es.take i) ++ (ec [e] ++ ec (es.drop i)) := by
  unfold putAt
  rw [show e :: es.drop i = [e] ++ es.drop i from rfl, ec_append, ec_append]
theorem put_len (es : List Ed) (i : Nat) (e : Ed) (h : i ≤ es.length) : (putAt es i e).length = es.length + 1 := by
  unfold putAt
  rw [List.length_append, List.length_cons, List.length_take, List.length_drop]
  omega
theorem put_take {es : List Ed} {i : Nat} {e : Ed} {X R : List Value} (h : i ≤ es.length) (hX : X = ec (es.take i)) : (X ++ (ec [e] ++ (ec (es.drop i) ++ R))).take ((es.length + 1) * 3) = ec (putAt es i e) := by
  have h1 : X ++ (ec [e] ++ (ec (es.drop i) ++ R)) = ec (putAt es i e) ++ R := by rw [put_cells, hX]; simp only [List.append_assoc]
  have h2 : (ec (putAt es i e)).length = (es.length + 1) * 3 := by rw [ec_length, put_len es i e h]
  rw [h1, List.take_append_of_le_length (by omega), List.take_of_length_le (by omega)]

/-- s[k:] of edges: its run, and what it reads as. -/
theorem cut3_l (A : Option Addr) (n c k : Nat) (i : Int) (ki : IntKind) (hi : i = (k : Int)) (hk : k ≤ n) (hc : n ≤ c) :
    ∃ A', (∀ W, (Instr.slice 22 (.slice A n c) (some (.int ki i)) none none).run Tryd.prog W = .ok (.slice A' (n - k) (c - k)) W) ∧
      ∀ (w : World) (B : Nat) (xs : List Value), Lies w B 3 A n xs → Lies w B 3 A' (n - k) (xs.drop (k * 3)) := by
  subst hi
  refine ⟨if c = k then A else A.map (·.add (k * 3)), fun W => ?_, fun w B xs h => ?_⟩
  rotate_left
  · refine ⟨by rw [List.length_drop, h.1, Nat.sub_mul], fun j u hu => ?_⟩
    rw [List.getElem?_drop] at hu
    have hj : k * 3 + j < xs.length := (List.getElem?_eq_some_iff.1 hu).1
    have := h.1
    obtain ⟨ad, rfl, hb, hcell⟩ := h.2 _ u hu
    rw [if_neg (by omega)]
    exact ⟨ad.add (k * 3), rfl, by rw [block_add]; exact hb, by rw [add_add]; exact hcell⟩
  · have he : Tryd.prog.elem 22 = 42 := by kernel_rfl
    have ht : Tryd.prog.underlying 22 = some (.slice (Tryd.prog.elem 22)) := by rw [he]; exact Tryd.underlying22
    have hz : ∀ W, (sizeOf (Tryd.prog.elem 22)).run Tryd.prog W = .ok 3 W := by rw [he]; exact Tryd.sizeOf42
    rw [run_slice_l W 22 A n c ht ki k (by omega) (by omega)]
    simp [hz, sliced, Result.andThen]

def InsPost (base : Nat) (v : Value) (es : List Ed) (w : World) (r : Ending) (w' : World) : Prop :=
  w.grownBy w' v.ownBlock ∧ ∃ A' c', r = .returned (.slice A' es.length c') ∧ w'.ownsRow base 42 3 (.slice A' es.length c') es.length (ec es)

set_option maxHeartbeats 400000 in
set_option maxRecDepth 100000 in
theorem insert_end (base : Nat) (A : Option Addr) (n c vb : Nat) (es : List Ed) (e : Ed) (w : World) (hown : w.ownsRow base 42 3 (.slice A n c) n (ec es)) (hbase : base ≤ w.heap.size)
    (hv : w.heap[vb]? = some (.cells #[.int .i64 e.1, .int .i64 e.2.1, .int .i64 e.2.2] 42 (0, 0))) (hn : n ≤ 80) :
    Calls Tryd.prog 39 #[.slice A n c, .int .i64 n, .slice (some ⟨vb, 0, none⟩) 1 1] w fun r w' => ∃ A' c', r = .returned (.slice A' (n + 1) c') ∧ w'.ownsRow base 42 3 (.slice A' (n + 1) c') (n + 1) (ec (es ++ [e])) ∧ w.grownBy w' (Value.slice A n c).ownBlock := by
  obtain ⟨i0, hi0, hz0, hzs, hzb⟩ := info_parts (show (Tryd.prog.info? 42).map (fun i => (i.zero, i.size, i.bytes)) = some (some (.agg #[.int .i64 0, .int .i64 0, .int .i64 0]), 3, 24) by kernel_rfl)
  have hl : Lies w w.heap.size 3 (some ⟨vb, 0, none⟩) 1 (ec [e]) := ⟨rfl, fun j u hj => ⟨⟨vb, 0, none⟩, rfl, (Array.getElem?_eq_some_iff.1 hv).1, by
    have : (⟨vb, 0, none⟩ : Addr).add j = ⟨vb, j, none⟩ := by unfold Addr.add; split <;> simp_all
    rw [this, cell_of_row w vb j _ 42 (0, 0) hv]
    simpa [ec] using hj⟩⟩
  have hcc := own_cap hown
  obtain ⟨A', hcut, -⟩ := cut3_l A n c n (n : Int) .i64 rfl (Nat.le_refl _) hcc
  have HOWN := Lib.hid hown
  have HL := Lib.hid hl
  have HI0 := Lib.hid hi0
  have HZ0 := Lib.hid hz0
  have HZS := Lib.hid hzs
  have HZB := Lib.hid hzb
  clear hown hl hv hi0 hz0 hzs hzb
  go_enter Tryd.func39, Tryd.ntmps39
  go_wp2_with (at_builtin; go_must (refine wpList_app2 _ rfl (.tmp 23) (.tmp 24) 22 rfl base 42 i0 _ 3 24 Tryd.underlying22 HI0.out HZ0.out HZS.out HZB.out rfl (by decide) A n c (ec es) rfl HOWN.out w.heap.size _ 1 1 (ec [e]) rfl HL.out (ec_one _) (n + 1) (ec (es ++ [e])) rfl (ec_append es [e]).symm (by unfold maxLen; omega) (by omega) hbase ?_))
  intro A2 c2 w2 ho2 _ hb2
  go_wp2_with fail
  go_ret
  exact ⟨A2, c2, rfl, ho2, hb2⟩

set_option maxHeartbeats 2000000 in
set_option maxRecDepth 100000 in
theorem insert_any (base : Nat) (A : Option Addr) (n c i vb : Nat) (es : List Ed) (e : Ed) (w : World) (hown : w.ownsRow base 42 3 (.slice A n c) n (ec es)) (hbase : base ≤ w.heap.size)
    (hv : w.heap[vb]? = some (.cells #[.int .i64 e.1, .int .i64 e.2.1, .int .i64 e.2.2] 42 (0, 0))) (hne : ∀ ad, A = some ad → vb ≠ ad.block) (hin : i ≤ n) (hn : n ≤ 80) :
    Calls Tryd.prog 39 #[.slice A n c, .int .i64 i, .slice (some ⟨vb, 0, none⟩) 1 1] w (InsPost base (.slice A n c) (putAt es i e) w) := by
  have hes : es.length = n := by have := hown.1; rw [ec_length] at this; omega
  by_cases hi : i = n
  · subst hi
    refine (insert_end base A i c vb es e w hown hbase hv hn).mono ?_
    rintro r w' ⟨A', c', rfl, ho, hb⟩
    have hp : putAt es i e = es ++ [e] := by unfold putAt; rw [← hes]; simp
    rw [hp]
    refine ⟨hb, A', c', ?_, ?_⟩
    · simp [hes]
    · simpa [hes] using ho
  · rcases hown.2 with ⟨_, h0⟩ | ⟨g, cap, cur, hveq, hbg, hg, hnc, hcm, hcs, hct⟩
    · omega
    · injection hveq with h1 h2 h3
      subst h1 h3
      have hput := put_len es i e (by omega)
      have hgl : g < w.heap.size := (Array.getElem?_eq_some_iff.1 hg).1
      by_cases hroom : n + 1 ≤ c
      · refine (insert_room g n c i vb cur.toList es e w hg (by simpa using hcs) hct hes hv (hne _ rfl) (by omega) hroom hcm hn).mono ?_
        rintro r w' ⟨rfl, hg', hgr⟩
        refine ⟨hgr, some ⟨g, 0, none⟩, c, by rw [hput, hes], ?_⟩
        rw [hput, hes]
        have hdl : (ec (es.drop i)).length = (n - i) * 3 := by rw [ec_length, List.length_drop, hes]
        have hsp : splice (splice cur.toList ((i + 1) * 3) (ec (es.drop i))) (i * 3) (ec [e]) = cur.toList.take (i * 3) ++ (ec [e] ++ (ec (es.drop i) ++ cur.toList.drop (i * 3 + 3 + (ec (es.drop i)).length))) := by
          rw [show (i + 1) * 3 = i * 3 + 3 by omega]
          exact splice_in cur.toList (ec (es.drop i)) (ec [e]) (i * 3) rfl (by rw [hdl]; simp; omega)
        refine ⟨by rw [ec_length, hput, hes], .inr ⟨g, c, _, rfl, hbg, hg', hroom, hcm, ?_, ?_⟩⟩
        · rw [List.size_toArray, length_splice _ _ _ (by rw [length_splice _ _ _ (by rw [hdl]; simp; omega)]; simp [ec_length]; omega), length_splice _ _ _ (by rw [hdl]; simp; omega)]
          simpa using hcs
        · rw [hsp]
          have := put_take (es := es) (i := i) (e := e) (R := cur.toList.drop (i * 3 + 3 + (ec (es.drop i)).length)) (X := cur.toList.take (i * 3)) (by omega) (by rw [← ec_take, ← hct, List.take_take, Nat.min_eq_left (by omega)])
          rw [hes] at this
          exact this
      · refine (insert_grow g n c i vb cur.toList es e w hg (by simpa using hcs) hct hes hv (by omega) hnc (by omega) hn).mono ?_
        rintro r w' ⟨G, row, rfl, hG1, hG2, hRl, hRt, hg', hb⟩
        refine ⟨⟨hb.os, hb.tape, hb.output, hb.size, fun k hk _ => hb.block k hk⟩, some ⟨w.heap.size, 0, none⟩, G, by rw [hput, hes], ?_⟩
        rw [hput, hes]
        have hdl : (ec (es.drop i)).length = (n - i) * 3 := by rw [ec_length, List.length_drop, hes]
        obtain ⟨R, hsp⟩ := splice_out row (ec (es.drop i)) (ec [e]) (i * 3) rfl (by rw [hdl, hRl]; omega)
        rw [show (i + 1) * 3 = i * 3 + 3 by omega] at hg'
        refine ⟨by rw [ec_length, hput, hes], .inr ⟨w.heap.size, G, _, rfl, hbase, hg', hG1, hG2, ?_, ?_⟩⟩
        · rw [List.size_toArray, length_splice _ _ _ (by rw [length_splice _ _ _ (by rw [hRl]; simp [ec_length]; omega), hdl, hRl]; omega), length_splice _ _ _ (by rw [hRl]; simp [ec_length]; omega)]
          exact hRl
        · rw [hsp]
          have := put_take (es := es) (i := i) (e := e) (R := R) (X := row.take (i * 3)) (by omega) hRt
          rw [hes] at this
          exact this
end Go.Proofs.YtcjghomjjnaddaaDoor
